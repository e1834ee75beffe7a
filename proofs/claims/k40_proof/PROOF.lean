import PyProof.Rows.All
import Wide.All
import OpenK.AllK
import Wide.FinOn
import HandS.Base
import HandS.Call
import HandS.List
import HandS.Comp
import HandS.Iter
import HandS.Text
import HandS.Ends
import HandS.Words
import HandS.WordsExc
import HandS.Wide
import HandS.FStr
import HandS.IsInst
import HandS.Defaults
import HandS.MakeKwOnly
import HandS.OwnEq
import HandS.TupAny
import HandS.Style
import HandS.Conv
import HandS.Star
import HandS.Dict
import HandS.More
import HandS.Exc
import HandS.ExcInit
import HandS.ExcIs
import HandS.ExcField
import HandS.DeepEq
import HandS.Deep
import HandS.Lambda
import HandS.EndTab
import PyProof.EqAt
import PyProof.EqKinds
import PyProof.TupleCall
import PyProof.ReprRoads
import PyProof.LongRange
import PyProof.ListRange
import PyProof.NeKinds
import KE.DataMinMax
import HandS.StrMore
import HandS.Codes
import KE.IntTextLaws
import HandS.ClsMeth
import PyProof.P3In
import KE.KDictPairs
import PyProof.EnumMake
import PyProof.TupleIter
import KE.GoesMore
import HandS.Walk
import HandS.Nested
import HandS.SetBool
import HandS.SetFor
import HandS.SortInts
import HandS.TryOnly
import PySem.Challenge.RW_turnedtunes_k40_melodies_played
set_option Elab.async false
set_option linter.all false
set_option maxRecDepth 100000
set_option maxHeartbeats 4000000
/-! Rules of our own over the hand layer: powers of great ints, repr of data, own unary operators, promises that know that no repr is under way. -/
namespace TT
open PySem PySem.Spec PyProof.Rows L2
section
variable {X : Cx}
/-- a ** b of any size that fits -/
theorem op_powW : OpR X (binaryOp .Pow) (rI (fun i j => 0 ≤ j ∧ (Builtin.Int.intBits i : Int) * j ≤ 2 ^ 27) fun i j => .int (i ^ j.toNat)) :=
  opI fun _ _ _ _ _ _ _ hc q => pow_int hc.1 hc.2 q

/-- repr(x), x data without dicts -/
def rRepr (K : PySem.W.Frag) : List V → Hp → VK → Prop := fun xs H Q => ∃ (x : V) (d : PyData), xs = [x] ∧ Dp K H x d ∧ d.showable = true ∧ d.hasDict = false ∧ d.depth ≤ 60 ∧ d.shown.length ≤ sizeLine ∧ Q (.str d.shown) H
theorem call_repr (hg : X.A.guards = some []) (hu : X.A.units + 64 < cLine) : CallR X (.builtin "repr") (rRepr X.K) := by
  intro pins s σ H xs us Q I r h
  obtain ⟨x, d, rfl, hd, hs, hn, hdep, hz, q⟩ := h
  obtain ⟨u, rfl, rx⟩ : ∃ u, us = [u] ∧ RelV x u := by
    cases r with
    | cons a b => cases b; exact ⟨_, rfl, a⟩
  obtain ⟨as, rd⟩ := Dp.reads I d x u hd rx
  have fin : ∀ h' tk u', (∀ b o, s.heap.get? b = some o → h'.get? b = some o) → EP X pins σ Q (.str d.shown u') { s with heap := h', toks := tk } :=
    fun h' tk u' hk => ⟨.str d.shown, H, I.kept hk, ⟨_, rfl⟩, q⟩
  cases hd with
  | non => obtain rfl := rx; exact PySem.P.repr_of_none (fin s.heap _ _ fun _ _ e => e)
  | bl b => obtain rfl := rx; exact PySem.P.repr_of_bool (fin s.heap _ _ fun _ _ e => e)
  | int i => obtain ⟨t, rfl⟩ := rx; exact PySem.P.repr_of_int (by simpa [PyData.showable] using hs) (fin s.heap _ _ fun _ _ e => e)
  | str y => obtain ⟨t, rfl⟩ := rx; exact PySem.P.repr_of_str (fin s.heap _ _ fun _ _ e => e) hz
  | lst h1 h2 =>
    obtain rfl := rx
    exact repr_of_reads' rd hs (PyData.noDict_hsm hn) hg (by omega) (fun _ _ e => e) (fun h' u tk hk => fin h' tk u hk) hz
  | tup h1 h2 =>
    obtain rfl := rx
    exact repr_of_reads' rd hs (PyData.noDict_hsm hn) hg (by omega) (fun _ _ e => e) (fun h' u tk hk => fin h' tk u hk) hz
end

/-! ### promises that know that no repr is under way -/
/-- the def at f keeps sp wherever it is called while no repr runs -/
structure GOk (P : Program) (w : World) (K : PySem.W.Frag) (mg : Str → Option Value) (base : Heap) (CX : CXT) (k : Nat) (f : Addr) (fd : FuncData) (ps : List Str) (sp : Sp) : Prop where
  size : ∀ vs H Q E, sp vs H Q E → vs.length = ps.length
  go : ∀ (A : Around) (outer : List Env) (s : Shared) (H : Hp) (args : Args) (us : List Value) (vs : List V) (Q : VK) (E : XK), A.guards = some [] → Room k A →
    Env0 P w K mg base A outer s H → BindsTo s fd args (ps.zip us) → Vals vs us → sp vs H Q E → codeAny (model P w) A (.call (.ref f) args) (CR CX outer P w H s Q E) s

section
variable {P : Program} {w : World} {K : PySem.W.Frag} {mg : Str → Option Value} {base : Heap} {CX : CXT} {k : Nat} {f : Addr} {ps : List Str} {sp : Sp}
theorem GOk.mono {j : Nat} {fd : FuncData} (F : GOk P w K mg base CX j f fd ps sp) (h : j ≤ k) : GOk P w K mg base CX k f fd ps sp :=
  { size := F.size, go := fun A outer s H args us vs Q E g r => F.go A outer s H args us vs Q E g (r.mono h) }
theorem GOk.weak {sp' : Sp} {fd : FuncData} (F : GOk P w K mg base CX k f fd ps sp) (h : ∀ vs H Q E, sp' vs H Q E → sp vs H Q E) : GOk P w K mg base CX k f fd ps sp' :=
  { size := fun vs H Q E q => F.size vs H Q E (h vs H Q E q), go := fun A outer s H args us vs Q E g r e b v q => F.go A outer s H args us vs Q E g r e b v (h vs H Q E q) }
/-- any promise of the layer is one -/
theorem GOk.of {fd : FuncData} (F : FnOk P w K mg base CX k f fd ps sp) : GOk P w K mg base CX k f fd ps sp :=
  { size := F.len, go := fun A outer s H args us vs Q E _ => F.run A outer s H args us vs Q E }
/-- such a def by its body -/
theorem g_of {name qual : Str} {params : Arguments} {body : List Stmt} {scope : Scope} {dV kV doc pm cdv ct oc : Value} {an od : Option Addr} {osl : Array (Option Value)} {N : List Str}
    (lk : K.lookup f = some ⟨oc, od, .func (PySem.W.fnOf name qual params body scope dV kV doc pm an cdv ct), osl⟩) (hcd : PySem.W.codeIn K cdv qual = true) (S : FnScope N ps scope)
    (size : ∀ vs H Q E, sp vs H Q E → vs.length = ps.length)
    (hb : ∀ (A : Around) (outer : List Env) (s : Shared) (H : Hp) (vs : List V) (Q : VK) (E : XK), A.guards = some [] → Room k (A.deeper (envOfC qual scope s.heap.objs.size f cdv)) → sp vs H Q E →
      ∃ t, PSs (cxOf CX P w K mg base N qual scope f cdv A outer s H E) body t ∧ t { nx := fun _ H1 => Q .non H1, rt := Q } (start N vs) H) :
    GOk P w K mg base CX (k + 1) f (PySem.W.fnOf name qual params body scope dV kV doc pm an cdv ct) ps sp := by
  refine { size := size, go := fun A outer s H args us vs Q E g hr e0 bnd rv hsp => ?_ }
  have old : ∀ b o, base.get? b = some o → s.heap.get? b = some o := fun b o e => (e0.bs b o e).1
  have kinds : ∀ y ∈ ps.zip us, scope.names.lookup y.1 = some .local ∨ (scope.names.lookup y.1 = some .cell ∧ ((cellsFrom (s.heap.objs.size + 1) scope.names []).lookup y.1).isSome = true) := by
    intro y hy
    obtain ⟨n, v⟩ := y
    refine (S.par n (List.of_mem_zip hy).1).imp id fun q => ⟨q, ?_⟩
    exact PySem.W.cellsFrom_some _ _ _ (.inl q)
  refine codeAny_call_function hr.depth (e0.mod.kin.keeps old _ _ lk) rfl S.co S.gen rfl (PySem.W.codeRec_of (e0.mod.kin.keeps old) hcd) (bnd _ _ _ _ (wpAny_newFunctionEnv_cells S.kind kinds fun env he s1 x => ?_))
  subst he
  refine ⟨(e0.mod.nolimit.keeps old).keeps x.toInCall.keep, codeAny_func ?_⟩
  obtain ⟨t, ht, hq⟩ := hb A outer s H vs Q E g (hr.deeper _) hsp
  have J : Inv (cxOf CX P w K mg base N qual scope f cdv A outer s H E) [] (start N vs) H s1 := inv_start S hr.hd e0 (size _ _ _ _ hsp) rv x
  refine wpAny_mono (ht.run [] s1 (start N vs) H _ J hq) (fun fl s2 hs => ?_) fun _ _ z => z
  cases fl with
  | ret u => obtain ⟨v, σ1, H1, I1, r1, q1⟩ := hs; exact ⟨v, H1, I1.os, I1.bare, I1.base, I1.hok, r1, q1⟩
  | next => obtain ⟨σ1, H1, I1, q1⟩ := hs; exact ⟨V.non, H1, I1.os, I1.bare, I1.base, I1.hok, rfl, q1⟩
  | brk => obtain ⟨_, _, _, z⟩ := hs; exact z.elim
  | cont => obtain ⟨_, _, _, z⟩ := hs; exact z.elim
end

/-- a def of the text that nothing leaves but by return -/
theorem okG {P : Program} {w : World} {K : PySem.W.Frag} {mg : Str → Option Value} {base : Heap} {x qual : Str} {st : Stmt} {f : Addr} {fd : FuncData} {N ps : List Str} {k : Nat} {sp : Sp} (F : Fun K x qual st f fd) (S : FnScope N ps (defScope st))
    (size : ∀ vs H Q E, sp vs H Q E → vs.length = ps.length)
    (hb : ∀ (cdv : Value) (A : Around) (outer : List Env) (s : Shared) (H : Hp) (vs : List V) (Q : VK) (E : XK), A.guards = some [] → Room k (A.deeper (envOfC qual (defScope st) s.heap.objs.size f cdv)) → sp vs H Q E →
      ∃ t, PSs (cxOf CX0 P w K mg base N qual (defScope st) f cdv A outer s H E).nox (defBody st) t ∧ t { nx := fun _ H1 => Q .non H1, rt := Q } (start N vs) H) : GOk P w K mg base CX0 (k + 1) f fd ps sp := by
  obtain ⟨oc, od, kV, doc, pm, an, cdv, ct, osl, rfl, lk, hcd⟩ := F.ex
  refine g_of lk hcd S size fun A outer s H vs Q E g hr hsp => ?_
  obtain ⟨t, h, q⟩ := hb cdv A outer s H vs Q E g hr hsp
  exact ⟨t, h.nox, q⟩
section
variable {X : Cx} {CX : CXT} {k : Nat} {f : Addr} {fd : FuncData} {ps : List Str} {sp : Sp} {dvs : List V} {ds : List Value} {E : XK} {x : Str} {p pos : Pos} {e : Expr} {es : List Expr} {t : TA}
theorem run_g {pins : List (Addr × Obj)} {σ : L2.St} {H : Hp} {s : Shared} {Q : VK} {us : List Value} {vs : List V} (F : GOk X.prog X.w X.K X.mg X.base CX k f fd ps sp) (g : X.A.guards = some []) (hr : Room k X.A)
    (hb : Binds X.K fd ps ds) (hd : Vals dvs ds) (hx : Passes CX X E) (I : Inv X pins σ H s) (r : Vals vs us) (h : sp (vs ++ dvs) H Q E) : wpAny (model X.prog X.w) X.A (call (.ref f) us) (EP X pins σ Q) X.xe s := by
  have r2 := r.append hd
  have n : (us ++ ds).length = ps.length := r2.length ▸ F.size _ _ _ _ h
  refine wpAny_call (codeAny_mono (F.go X.A X.stack s H ⟨us, []⟩ _ _ Q E g hr I.env0 (hb s us I.kIn n) r2 h) fun res s1 z => ?_)
  match res, z with
  | .error e, z => exact hx pins σ H s e s1 I z
  | .ok (.ret u), z => exact I.after z
  | .ok .next, z => exact z.elim
  | .ok .brk, z => exact z.elim
  | .ok .cont, z => exact z.elim
/-- f(e, ..) of such a def -/
theorem pe_callG (F : GOk X.prog X.w X.K X.mg X.base CX k f fd ps sp) (g : X.A.guards = some []) (hr : Room k X.A) (hg : Gl X x) (hm : X.mg x = some (.ref f)) (hk : PySem.W.keepIn X.K (.ref f) = true)
    (hb : Binds X.K fd ps ds) (hd : Vals dvs ds) (hx : Passes CX X E) (ha : PA X (e :: es) t) (hdb : (x == ("__debug__" : Str)) = false := by decide)
    (he : starEach (e :: es) X.env = (false, eval e X.env) :: starEach es X.env := by rfl) (hpl : (backTo pos (starEach es X.env)).any (·.1) = false := by rfl) : PE X (.Call (.Name x p) (e :: es) [] pos) (tCall sp dvs E t) := by
  constructor
  intro pins s σ H Q I h
  exact wpAny_Call_Name_kw (ld_glob I hg hm (PySem.W.callWith_K (h₀ := X.base) I.ok.mod.kin hk (thn (ha.run pos pins s σ H _ I h) fun us s1 ⟨vs, H1, I1, r, q⟩ => ⟨I1.kIn, run_g F g hr hb hd hx I1 r q⟩) he hpl) hdb)

/-- ~x of an instance of an own class -/
theorem un_own {C : Addr} (F : FnOk X.prog X.w X.K X.mg X.base CX k f fd ps sp) (hr : Room k X.A) (hb : Binds X.K fd ps []) (hx : Passes CX X E)
    (hs : PySem.W.findIn X.K (.ref C) "__invert__" = some (some (.ref f))) (hf : PySem.W.isFn X.K (.ref f) = true) :
    UnR X (unaryOp .Invert) (fun x H Q => ∃ a dx fs, x = .ref a ∧ H a = some (.ins C dx fs) ∧ sp [.ref a] H Q E) := by
  intro pins s σ H x v Q I rx h
  obtain ⟨a, dx, fs, rfl, ha, hq⟩ := h
  obtain rfl : v = Value.ref a := rx
  obtain ⟨mA, O, _⟩ := ins_get I.hok ha
  obtain ⟨od, J, _⟩ := O.look
  obtain ⟨m, hF⟩ := I.fr
  exact PySem.W.ksp_inv hF I.ok.mod.kin J hs hf (run_fn (us := [.ref a]) (vs := [.ref a]) (dvs := []) (ds := []) F hr hb .nil hx I (.cons rfl .nil) hq)
end

/-! ### the end of a law's row for such a promise -/
/-- the script alone is tracked: as a known list, or not at all where it is an object of the module -/
def seen (a : Addr) (ob : Obj) (ns : List Int) (own : Bool) : Hp := fun b => if own = false ∧ b = a then some (.frz ob (.lst (ns.map V.int))) else none
theorem seen_own {a : Addr} {ob : Obj} {ns : List Int} (b : Addr) : seen a ob ns true b = none := if_neg fun z => nomatch z.1
theorem seen_at {a : Addr} {ob : Obj} {ns : List Int} : seen a ob ns false a = some (.frz ob (.lst (ns.map V.int))) := if_pos ⟨rfl, rfl⟩
theorem seen_ne {a b : Addr} {ob : Obj} {ns : List Int} {o : Bool} (h : b ≠ a) : seen a ob ns o b = none := if_neg fun z => h z.2
theorem run_law {P : Program} {w : World} {K : PySem.W.Frag} {mg mb : Str → Option Value} {CX : CXT} {k : Nat} {fa a : Addr} {fd : FuncData} {x : Str} {sp : Sp} {s : Shared} {vs : List Value} {ns : List Int}
    (KX : K.In s.heap) (hns : s.heap.Ns mainGlobals mg) (hb : s.heap.Ns builtinsNs mb) (hbb : ∀ x : Str, x ≠ "__name__" → mb x = bootBuiltins x) (lim : s.heap.NoLimit) (hg : s.gens = #[])
    (ha : s.heap.get? a = some { cls := .type "list", data := .seq vs.toArray }) (hi : IntsAre vs ns) (hl : ns.length ≤ sizeLine) (hr : Room k callerA)
    (F : ∀ base : Heap, K.In base → base.Ns mainGlobals mg → GOk P w K mg base CX k fa fd [x] sp) (bnd : ∀ (s : Shared) (u : Value), BindsTo s fd ⟨[u], []⟩ [(x, u)])
    (hsp : ∀ H : Hp, SqL K H a (ns.map V.int) → sp [.ref a] H (fun v _ => v = .bl true) fun _ _ _ => False) (noX : ∀ H e s1, CX [] H s (fun _ _ _ => False) e s1 → False) :
    codeAny (model P w) callerA (.call (.ref fa) ⟨[.ref a], []⟩) (fun r s1 => r = .ok (.ret (.bool true)) ∧ OldK s.heap s1.heap ∧ s1.os = s.os ∧ AllBare s1.gens) s := by
  have rv := vals_ints hi
  obtain ⟨own, hS, hT, hK⟩ : ∃ own, SqL K (seen a { cls := .type "list", data := .seq vs.toArray } ns own) a (ns.map V.int) ∧ HOk P w (seen a { cls := .type "list", data := .seq vs.toArray } ns own) s.heap ∧
      (∀ b o, K.lookup b = some o → seen a { cls := .type "list", data := .seq vs.toArray } ns own b = none) := by
    cases hk : K.lookup a with
    | some o =>
      have e := (KX a o hk).symm.trans ha
      cases e
      refine ⟨true, .inr ⟨_, vs.toArray, _, hk, rfl, rfl, rfl, ?_, by simpa using rv⟩, fun b u z => ?_, fun b _ _ => seen_own b⟩
      · rw [List.size_toArray, hi.length]; exact hl
      · rw [seen_own] at z; cases z
    | none =>
      refine ⟨false, .inl (.inr ⟨_, seen_at⟩), fun b u z => ?_, fun b o hb => seen_ne fun e => ?_⟩
      · by_cases h : b = a
        · subst h
          rw [seen_at] at z; cases z
          exact ⟨ha, by rw [List.length_map]; exact hl, vs, _, rv, ha⟩
        · rw [seen_ne h] at z; cases z
      · subst e; rw [hk] at hb; cases hb
  generalize hH : seen a { cls := .type "list", data := .seq vs.toArray } ns own = H at hS hT hK
  have only : ∀ b u, H b = some u → b = a ∧ u = .frz { cls := .type "list", data := .seq vs.toArray } (.lst (ns.map V.int)) := fun b u z => by
    subst hH
    by_cases h : b = a
    · subst h
      cases own with
      | true => rw [seen_own] at z; cases z
      | false => rw [seen_at] at z; exact ⟨rfl, (Option.some.inj z).symm⟩
    · rw [seen_ne h] at z; cases z
  have free : ∀ {b : Addr} {o : Obj} {es : Array DictEntry} {ep : Nat}, s.heap.get? b = some o → o.data = .dict es ep → H b = none := fun {b o es ep} e d => by
    cases q : H b with
    | none => rfl
    | some u =>
      obtain ⟨rfl, _⟩ := only b u q
      have e' := e.symm.trans ha
      cases e'
      have d' : Data.seq vs.toArray _ = Data.dict es ep := d
      cases d'
  have ns' : ∀ {b : Addr} {m : Str → Option Value}, s.heap.Ns b m → (hidT s.heap H).Ns b m := fun {b m} n => by
    obtain ⟨o, es, ep, e, d, r⟩ := n
    exact ⟨o, es, ep, hidT_get e (free e d), d, r⟩
  have inK : K.In (hidT s.heap H) := fun b o e => hidT_get (KX b o e) (hK b o e)
  obtain ⟨mc, l1, l2⟩ := lim
  have e0 : Env0 P w K mg (hidT s.heap H) callerA [] s H :=
    { frames := rfl, mod := ⟨inK, ns' hns, ⟨mb, ns' hb, hbb⟩, ⟨mc, ns' l1, l2⟩⟩, bs := fun b o e => of_hidT e, bsz := Nat.le_of_eq (hidT_size _ _), funs := trivial, frf := fun b z => absurd (show b ∈ ([] : List Addr) from z) List.not_mem_nil, hok := hT, bare := .of_eq hg }
  refine codeAny_mono ((F _ inK (ns' hns)).go callerA [] s H ⟨[.ref a], []⟩ [.ref a] [.ref a] _ _ rfl hr e0 (bnd s (.ref a)) (.cons rfl .nil) (hsp H hS)) fun r s1 z => ?_
  match r, z with
  | .error e, z => exact (noX H e s1 z).elim
  | .ok .next, z => exact z.elim
  | .ok .brk, z => exact z.elim
  | .ok .cont, z => exact z.elim
  | .ok (.ret u), z =>
    obtain ⟨v, H1, os, bare, un, hok, r1, q⟩ := z
    subst q
    obtain rfl : u = Value.bool true := r1
    refine ⟨rfl, OldK.of_keep fun b o e => ?_, os, bare⟩
    cases q : H b with
    | none => exact un.keep b o e q (fun z => absurd (show b ∈ ([] : List Addr) from z) List.not_mem_nil) List.not_mem_nil
    | some u =>
      obtain ⟨rfl, rfl⟩ := only b u q
      obtain ⟨e1, _⟩ := hT _ _ q
      obtain ⟨e2, _⟩ := hok _ _ (un.frzs _ _ _ q)
      rw [e] at e1; cases e1
      exact e2
theorem walk_g {l : PySem.W.OpenLaw} {n k : Nat} {q : Program} {loose : List Str} {XP : (Str → Option Value) → Heap → Prop} {YP : World → Heap → Prop} {d : DefRec} {K : Params → PySem.W.Frag} {CX : CXT} {sp : PySem.W.Frag → Sp} {x : Str}
    (hn : l.most = some n) (hn2 : n ≤ sizeLine) (hdf : d.params.defaults = []) (hr : Room k callerA) (hY : ∀ (w : World) (h : Heap), YP w h → (K w.params).In h)
    (F : ∀ (w : World) (mg : Str → Option Value) (fa : Addr) (h : Heap), (K w.params).In h → h.Ns mainGlobals mg → mg d.name = some (.ref fa) → ∃ fd : FuncData, (∀ (s : Shared) (u : Value), BindsTo s fd ⟨[u], []⟩ [(x, u)]) ∧
        ∀ base : Heap, (K w.params).In base → base.Ns mainGlobals mg → GOk l.prog w (K w.params) mg base CX k fa fd [x] (sp (K w.params)))
    (hsp : ∀ (K : PySem.W.Frag) (H : Hp) (a : Addr) (ns : List Int), ns.length ≤ n → SqL K H a (ns.map V.int) → sp K [.ref a] H (fun v _ => v = .bl true) fun _ _ _ => False)
    (noX : ∀ (H : Hp) (s : Shared) (e : Value) (s1 : Shared), CX [] H s (fun _ _ _ => False) e s1 → False) : PySem.W.WalkO q loose XP YP l.row.toRowW d [] (fun f vs => PySem.call f vs) :=
  Att.attach_call hn hdf fun w s₀ s₁ mg mb fa o pm cd doc a vs ns G Y ho hd hcd hmg hobj hints hlen hg => by
    obtain ⟨fd, hb, hF⟩ := F w mg fa _ (hY w _ Y) G.T.g hmg
    exact run_law (hY w _ Y) G.T.g G.T.b G.T.builtins G.T.nolimit hg hobj hints (Nat.le_trans hlen hn2) hr hF hb (fun H hS => hsp _ H a ns hlen hS) fun H e s1 => noX H s₁ e s1
end TT

set_option Elab.async false
set_option linter.all false
set_option maxRecDepth 100000
set_option maxHeartbeats 4000000
/-! Errors of own classes as values: made, kept, asked (isinstance, their fields). -/
namespace TT
open PySem PySem.Spec PyProof.Rows L2
/-- at a stands an error of the class at C whose own dict holds fs -/
def Err (H : Hp) (a C : Addr) (fs : List (Str × V)) : Prop := ∃ d, H a = some (exo a C (some d)) ∧ H d = some (exd d fs)
section
variable {X : Cx}
/-- C(e, ..): the error stays with us -/
def tMkX (C : Addr) (sp : Sp) (dvs : List V) (ta : TA) : TE := fun σ H Q => ta σ H fun vs H1 => vs.length ≤ 1000 ∧ ∀ a, H1 a = none → sp (.ref a :: (vs ++ dvs)) (upd H1 a (exo a C none)) (fun v H2 => v = .non ∧ Q (.ref a) H2) fun _ _ _ => False
theorem pe_mkX {CX : CXT} {x : Str} {C fI : Addr} {k : Nat} {fd : FuncData} {ps : List Str} {sp : Sp} {ds : List Value} {dvs : List V} {e : Expr} {es : List Expr} {ta : TA} {p pos : Pos}
    (T : OexC X.K C) (iC : PySem.W.findIn X.K (.ref C) "__init__" = some (some (.ref fI))) (tI : PySem.W.typeIn X.K (.ref fI) = some (.type "function")) (F1 : FnOk X.prog X.w X.K X.mg X.base CX k fI fd ps sp) (hr : Room (k + 1) X.A)
    (hb : Binds X.K fd ps ds) (hd : Vals dvs ds) (hx : Passes CX X fun _ _ _ => False) (hg : Gl X x) (hm : X.mg x = some (.ref C)) (ha : PA X (e :: es) ta) (hdb : (x == ("__debug__" : Str)) = false := by decide)
    (he : starEach (e :: es) X.env = (false, eval e X.env) :: starEach es X.env := by rfl) (hpl : (backTo pos (starEach es X.env)).any (·.1) = false := by rfl) : PE X (.Call (.Name x p) (e :: es) [] pos) (tMkX C sp dvs ta) := by
  constructor
  intro pins s σ H Q I h
  obtain ⟨_, _, _, _, bm, _, _, _, _, _, _, _, _, _, _, hC, hbm⟩ := T.cls
  refine wpAny_Call_Name_kw (ld_glob I hg hm (PySem.W.callWith_K (h₀ := X.base) I.ok.mod.kin T.kC (thn (ha.run pos pins s σ H _ I h) fun us s1 w => ?_) he hpl) hdb)
  obtain ⟨vs, H1, I1, r1, hz, q1⟩ := w
  refine ⟨I1.kIn, ?_⟩
  obtain ⟨hp, g, dr, tk, os⟩ := s1
  have nn : hp.objs.size ≤ hp.objs.size + 1 := Nat.le_succ _
  have fr : H1 (hp.objs.size + 1) = none := I1.hok.fresh nn
  have q2 := q1 _ fr
  have keep : ∀ b o, hp.get? b = some o → ((hp.push (PySem.W.kdv_tup us)).push (PySem.HandSPX.excO C hp.objs.size)).get? b = some o := fun b o z => Heap.get?_push_of_some _ (Heap.get?_push_of_some _ z)
  have here : ((hp.push (PySem.W.kdv_tup us)).push (PySem.HandSPX.excO C hp.objs.size)).get? (hp.objs.size + 1) = some (PySem.HandSPX.excO C hp.objs.size) := by heap_get
  have I2 := I1.laid (t' := tk) (a := hp.objs.size + 1) (o := exo (hp.objs.size + 1) C none) keep nn (exo_ok here)
  have r2 : Vals (V.ref (hp.objs.size + 1) :: (vs ++ dvs)) (Value.ref (hp.objs.size + 1) :: us ++ ds) := .cons rfl (r1.append hd)
  have n1 : (Value.ref (hp.objs.size + 1) :: us ++ ds).length = ps.length := r2.length ▸ F1.len _ _ _ _ q2
  have n2 : us.length ≤ sizeLine := by
    have sl : sizeLine = 16777216 := sizeLine_eq
    have := Paired.length r1
    omega
  have run := F1.run _ X.stack _ _ ⟨Value.ref (hp.objs.size + 1) :: us, []⟩ _ _ _ (fun _ _ _ => False) (hr.make C us []) (I2.env0.make C us []) (hb _ (Value.ref (hp.objs.size + 1) :: us) I2.kIn n1) r2 q2
  refine wpAny_call (PySem.HandSPX.call_own F.excBase_ValueError (fun Y => PySem.HandSPX.refsVE_contains Y bm hbm) (I1.kIn _ _ hC) (PySem.W.looks_findIn I1.kIn iC) (fun self => PySem.W.bind_fn I1.kIn self tI) n2 (codeAny_mono run fun r s' z => ?_))
  match r, z with
  | .error er, z => exact hx pins σ _ _ er s' I2 z
  | .ok .next, z => exact z.elim
  | .ok .brk, z => exact z.elim
  | .ok .cont, z => exact z.elim
  | .ok (.ret u), z =>
    obtain ⟨v, H2, o2, b2, u2, k2, rv, ev, q3⟩ := z
    subst ev
    have un : Un (frs X.stack) [] H1 H2 hp s'.heap := (Un.laid keep nn fr).trans u2
    exact ⟨rv, .ref (hp.objs.size + 1), H2, I1.call' (ch := []) o2 un k2 b2 (fun b z => absurd z (by simp)), rfl, q3⟩
/-- the object of an error and its dict -/
theorem err_at {pins : List (Addr × Obj)} {σ : L2.St} {H : Hp} {s : Shared} {a C : Addr} {fs : List (Str × V)} (I : Inv X pins σ H s) (h : Err H a C fs) :
    ∃ ox od, PySem.W.InstAt s.heap a ox C (some od) ∧ ∃ mA : Str → Option Value, (∀ name, PySem.W.lookIn name od = some (mA name)) ∧ ∀ f, RelO (fs.lookup f) (mA f) := by
  obtain ⟨d, h1, h2⟩ := h
  obtain ⟨t1, e1⟩ := exo_at I.hok h1
  obtain ⟨mA, hn, hr⟩ := exd_at I.hok h2
  obtain ⟨od, ho, hl⟩ := lookIn_ns hn
  exact ⟨_, od, ⟨e1, rfl, rfl, ho⟩, mA, hl, hr⟩
/-- e.n of an error -/
def tXv (K : PySem.W.Frag) (n : Str) (te : TE) : TE := fun σ H Q => te σ H fun x H1 => ∃ a C fs v, x = .ref a ∧ Err H1 a C fs ∧ XfC K C ∧ PySem.W.findIn K (.ref C) n = some none ∧ fs.lookup n = some v ∧ Q v H1
theorem pe_xv {e : Expr} {te : TE} {pos : Pos} {n : Str} (he : PE X e te) (hb : attributeBase e n X.env (eval e X.env) = eval e X.env := by rfl) : PE X (.Attribute e n pos) (tXv X.K n te) := by
  constructor
  intro pins s σ H Q I h
  refine attr_of hb (thn (he.run pins s σ H _ I h) fun u s1 w => ?_)
  obtain ⟨x, H1, I1, rx, a, C, fs, v, rfl, hE, T, hno, l, q⟩ := w
  obtain rfl : u = Value.ref a := rx
  obtain ⟨ox, od, J, mA, hl, hr⟩ := err_at I1 hE
  obtain ⟨u, hu, ru⟩ := RelO.some_of (v := v) (o := mA n) (l ▸ hr n)
  exact HandSPX.exc_get I1.kIn J T.ga T.gg T.exC (PySem.W.findObj_own T.hdC hno rfl (by rw [hl, hu])) (handed_of ru) ⟨v, H1, I1.tok _, ru, q⟩
/-- x.__class__ of an error with a dict of its own, as isinstance asks it -/
theorem x_class {prog : Program} {w : World} {A : Around} {E : Value → Shared → Prop} {s : Shared} {K : PySem.W.Frag} {x D : Addr} {ox od : Obj} {Q : Option Value → Shared → Prop} (T : ExcC K D) (KX : K.In s.heap) (J : PySem.W.InstAt s.heap x ox D (some od))
    (h : Q (some (.ref D)) { s with toks := s.toks + 1 }) : wpAny (model prog w) A (getAttr? (.ref x) "__class__") Q E s := by
  have found : PySem.W.findObj K D (some od) "__class__" = some (.bind (.builtin "getset_descriptor.__get__") (.builtin "object.__class__")) := by
    obtain ⟨cd, e, _⟩ := PySem.W.any_some T.hd
    exact PySem.W.findObj_data (by rw [e] <;> rfl) T.ha T.hn T.ht
  have no2 : (Value.builtin "BaseException.__getattribute__" == Value.builtin "object.__getattribute__") = false := by decide +kernel
  have no1 : (onTheHeap (.ref D) && Value.builtin "BaseException.__getattribute__" == Value.builtin "object.__getattribute__") = false := by rw [no2] <;> rfl
  obtain ⟨hp, g, d, t, os⟩ := s
  have isB : PySem.W.Looks (model prog w) hp (isInstance (.ref x) (.type "BaseException")) true := (J.type (M := model prog w)).andThen (PySem.W.looks_subIn KX T.hs)
  have tail : ∀ R : Fin → Shared → Prop, ∀ E' : Value → Shared → Prop, R (.done (.ret (.ref D))) ⟨hp, g, d, t + 1, os⟩ → wpAny (model prog w) (Around.in1 A) (Builtin.«object.__getattribute__» ⟨[.ref x, .str "__class__" t], []⟩) R E' ⟨hp, g, d, t + 1, os⟩ := fun R E' hR => by
    unfold Builtin.«object.__getattribute__»
    refine wpAny_bind (wpAny_of_eq (a := (Value.ref x, [Value.str "__class__" t])) (by first | rfl | (simp only [slotArgs]; rfl)) (wpAny_bind (wpAny_pure (wpAny_bind (J.type.at (wpAny_bind ((PySem.W.looks_find KX J found).at ?_)))))))
    refine wpAny_bind (wpAny_holding (wpAny_call (PySem.W.class_get (s := ⟨hp, g, d, t + 1, os⟩) KX J T.hm ?_)))
    exact wpAny_pure hR
  unfold getAttr? getAttrBy? getAttrBy
  refine wpAny_bind (wpAny_mkText (wpAny_bind (wpAny_attempt (wpAny_holding (wpAny_bind (J.type.at (wpAny_bind ((PySem.W.looks_findIn KX T.hg).at ?_))))))))
  dsimp only
  rw [no1, if_neg Bool.false_ne_true]
  unfold getAttrByItsOwn hookBefore callGetattribute boundAndCalled
  refine wpAny_bind ?_
  have oh : onTheHeap (Value.ref D) = true := rfl
  rw [if_pos oh]
  refine (PySem.W.looks_findIn KX T.hk).at (wpAny_bind (wpAny_attempt (wpAny_holding ?_)))
  have nh : (false && onTheHeap (Value.builtin "BaseException.__getattribute__")) = false := rfl
  rw [nh, if_neg Bool.false_ne_true, PySem.F.excAttr_ValueError.ga.bind (.ref x)]
  refine wpAny_bind (wpAny_pure ?_)
  dsimp only
  refine wpAny_call (codeAny_call_builtin PySem.F.excAttr_ValueError.ga.plain PySem.F.entry_bexc_ga ?_)
  refine @PySem.W.check_slot (model prog w) _ _ ⟨hp, g, d, t + 1, os⟩ "BaseException.__getattribute__" "BaseException" "__getattribute__" (.ref x) [.str "__class__" t] [] _ (by decide +kernel) (by decide +kernel) isB (PySem.F.args_bexc_ga (.ref x) (.str "__class__" t)) ?_
  refine tail _ _ ?_
  refine (show wpAny (model prog w) A (handedOut (Value.ref D)) (fun a s' => wpAny (model prog w) A (pure (some a)) Q E s') _ ⟨hp, g, d, t + 1, os⟩ from ?_)
  rw [PySem.W.handedOut_of (v := Value.ref D) rfl]
  exact wpAny_pure (wpAny_pure h)
theorem kit_err {K : PySem.W.Frag} {x D : Addr} {b : Bool} (T : ExcC K D) (self : PySem.W.kitCls K (.ref D) (.ref D) = some b) : PySem.W.KitX K (.ref x) (.ref D) (fun h => ∃ ox od, PySem.W.InstAt h x ox D (some od)) where
  ty := fun _ _ _ ⟨_, _, J⟩ => J.type
  it := fun _ _ KX _ => (PySem.W.kit_cls KX self).2.1
  ne := fun h tp dd its n sl KX e => by
    obtain ⟨cd, hc, _⟩ := PySem.W.any_some T.hd
    cases q : (Value.ref D == Value.ref tp) with
    | false => rfl
    | true =>
      obtain rfl : D = tp := Value.ref.inj (beq_iff_eq.mp q)
      unfold PySem.W.clsIn at hc
      cases k : K.lookup D with
      | none => rw [k] at hc; cases hc
      | some o =>
        have z := (KX _ _ k).symm.trans e
        cases z
        rw [k] at hc
        cases hc
  ca := fun KX ⟨_, _, J⟩ q => x_class T KX J q
/-- isinstance(x, c) of an error -/
def rIsX (K : PySem.W.Frag) : List V → Hp → VK → Prop := fun xs H Q => ∃ (a C : Addr) (fs : List (Str × V)) (c : V) (cv : Value) (b b' : Bool), xs = [.ref a, c] ∧ Err H a C fs ∧ ExcC K C ∧ PySem.W.kitCls K (.ref C) (.ref C) = some b' ∧ ClsV c cv ∧ PySem.W.kitOne K (.ref C) cv = some b ∧ Q (.bl b) H
theorem call_isX {X : Cx} : CallR X (.builtin "isinstance") (rIsX X.K) := by
  intro pins s σ H xs us Q I r h
  obtain ⟨a, C, fs, c, cv, b, b', rfl, hE, T, self, hc, e, q⟩ := h
  obtain ⟨u1, u2, rfl, r1, r2⟩ : ∃ u1 u2, us = [u1, u2] ∧ RelV (.ref a) u1 ∧ RelV c u2 := by
    cases r with
    | cons x1 y1 =>
      cases y1 with
      | cons x2 y2 => cases y2; exact ⟨_, _, rfl, x1, x2⟩
  obtain rfl : u1 = Value.ref a := r1
  obtain rfl : u2 = cv := hc.eq r2
  obtain ⟨ox, od, J, _⟩ := err_at I hE
  exact PySem.W.kia_one (kit_err T self) I.kIn ⟨ox, od, J⟩ e (fun z => nomatch z) fun tk => ⟨.bl b, H, I.tok tk, rfl, q⟩
end
end TT

set_option Elab.async false
set_option linter.all false
set_option maxRecDepth 100000
set_option maxHeartbeats 4000000
/-! == of a thing with itself, repr of what holds small dicts. -/
namespace TT
open PySem PySem.Spec PyProof.Rows L2
section
variable {X : Cx}
/-- the same thing, or the same plain value -/
def D0 : Eqv := fun x y _ => y = x ∧ (flatB x = true ∨ ∃ a, x = .ref a)
theorem D0.mon : Mon D0 := fun _ _ _ _ _ h => h
theorem D0.eqV {K : PySem.W.Frag} {H : Hp} {x : V} (h : flatB x = true ∨ ∃ a, x = .ref a) : EqV K H 1 x x := by
  unfold EqV
  exact h.elim (fun f => .inl ⟨rfl, f⟩) fun ⟨a, e⟩ => .inr (.inl ⟨a, e, e⟩)
theorem D0.eqG : EqG X 1 D0 := by
  intro A pins s σ H x y u v S I rx ry h
  obtain ⟨rfl, h⟩ := h
  have un : A.units + 1 < cLine := by have := S.room.un; omega
  refine eqV_run I 1 A un y y u v (D0.eqV h) rx ry _ _ ⟨rfl, H, I, Ext.rfl'⟩
/-- x is equal to itself, whatever it holds -/
def SelfEq (K : PySem.W.Frag) (H : Hp) (x : V) : Prop := scal x x = true ∨ (∃ n, n ≤ 60 ∧ EqR K H (EqV K H n) x x) ∨ DTup K D0 x x H
def rSame (K : PySem.W.Frag) : R2 := fun x y H Q => y = x ∧ SelfEq K H x ∧ ∀ H', Ext H H' → Q (.bl true) H'
theorem op_same (hu : X.A.units + 64 < cLine) (hr : Room 2 X.A) : OpR X (compareOp .Eq) (rSame X.K) := by
  intro pins s σ H x y v u Q I rx ry h
  obtain ⟨rfl, h, q⟩ := h
  rcases h with h | ⟨n, hn, h⟩ | h
  · exact op_eq pins s σ H y y v u Q I rx ry ⟨h, by rw [decide_eq_true rfl]; exact q H Ext.rfl'⟩
  · exact op_eqV hu pins s σ H y y v u Q I rx ry ⟨n, hn, h, q H Ext.rfl'⟩
  · exact op_eqG (rcG_tup D0.mon D0.eqG) hr pins s σ H y y v u Q I rx ry ⟨h, q⟩
/-! ### repr -/
inductive DpD (K : PySem.W.Frag) (H : Hp) : V → PyData → Prop
  | dp {v : V} {d : PyData} (h : Dp K H v d) (n : d.hasDict = false) : DpD K H v d
  | tt {a b : Addr} (h : H a = some (.tup [.ref b])) (h2 : H b = some (.tup [])) : DpD K H (.ref a) (.tuple [.tuple []])
  | d0 {a : Addr} (h : H a = some (.dK [])) : DpD K H (.ref a) (.dict [])
  | d1 {a : Addr} {k : Str} {i : Int} (h : H a = some (.dK [(.inr k, .int i)])) : DpD K H (.ref a) (.dict [(.str k, .int i)])
theorem dp_tt {K : PySem.W.Frag} {H : Hp} {a b : Addr} (h : H a = some (.tup [.ref b])) (h2 : H b = some (.tup [])) : Dp K H (.ref a) (.tuple [.tuple []]) :=
  .tup (SqT.of h) (.cons (.tup (SqT.of h2) .nil) .nil)
/-- no tracked thing is sys.modules -/
theorem not_sys {pins : List (Addr × Obj)} {σ : L2.St} {H : Hp} {s : Shared} (I : Inv X pins σ H s) {o : Obj} (hs : X.K.lookup sysModules = some o) {l : Addr} {x : HO} (h : H l = some x) : l ≠ sysModules := by
  rintro rfl
  have hb : X.base.get? sysModules = some o := I.ok.mod.kin _ _ hs
  obtain ⟨h0, h1⟩ := I.ok.bs _ _ hb
  have := I.base.free _ _ h0 h1 (I.ok.noex _ _ hb)
  rw [this] at h
  cases h
theorem DpD.reads {pins : List (Addr × Obj)} {σ : L2.St} {H : Hp} {s : Shared} (I : Inv X pins σ H s) {v : V} {d : PyData} {u : Value} (h : DpD X.K H v d) (r : RelV v u) : ∃ as, Reads s.heap u d as ∧ (d.hasDict = true → ¬ sysModules ∈ as) := by
  cases h with
  | dp h n => exact (Dp.reads I d v u h r).imp fun as z => ⟨z, PyData.noDict_hsm n⟩
  | tt h h2 => exact (Dp.reads I _ _ u (dp_tt h h2) r).imp fun as z => ⟨z, PyData.noDict_hsm rfl⟩
  | @d0 a h =>
    obtain rfl : u = Value.ref a := r
    have z := I.hok _ _ h
    unfold ObjOk at z
    obtain ⟨_, ns, vs, kv, o, es, ep, g, ex, da, _, pr, _⟩ := z
    cases kv
    generalize e : es.toList = L at pr
    cases pr
    refine ⟨_, Reads.dict g ex.1 da (as := []) (bs := []) (by rw [e]; exact .nil) (by rw [e]; exact .nil), fun _ m => ?_⟩
    have : sysModules = a := by simpa using m
    rw [← this] at ns
    cases ns
  | @d1 a k i h =>
    obtain rfl : u = Value.ref a := r
    have z := I.hok _ _ h
    unfold ObjOk at z
    obtain ⟨_, ns, vs, kv, o, es, ep, g, ex, da, _, pr, nd⟩ := z
    clear nd
    cases kv with
    | @cons _ q _ _ p1 p2 =>
      cases p2
      obtain ⟨e0, t, e1⟩ : Sum.inr k = q.1 ∧ ∃ t, q.2 = Value.int i t := p1
      generalize hl : es.toList = L at pr
      cases pr with
      | cons c1 c2 c3 =>
        cases c3
        rename_i e
        have c4 : Value.isStrOf k e.key = true := by
          have c5 : keyIs q.1 e.key = true := c1
          rw [← e0] at c5
          exact c5
        obtain ⟨tk, ek⟩ : ∃ tk, e.key = .str k tk := by
          cases hk : e.key <;> rw [hk] at c4 <;> simp [Value.isStrOf] at c4
          exact ⟨_, by rw [c4]⟩
        have ev : e.val = .int i t := c2.trans e1
        refine ⟨_, Reads.dict g ex.1 da (kvs := [(.str k, .int i)]) (as := [] ++ []) (bs := [] ++ []) (by rw [hl]; exact .cons (by show Reads _ e.key (.str k) []; rw [ek]; exact .str _ _) .nil) (by rw [hl]; exact .cons (by show Reads _ e.val (.int i) []; rw [ev]; exact .int _ _) .nil), fun _ m => ?_⟩
        have : sysModules = a := by simpa using m
        rw [← this] at ns
        cases ns
theorem readsAll_rep {h : Heap} {d : PyData} {v : V} (one : ∀ u, RelV v u → ∃ as, Reads h u d as ∧ (d.hasDict = true → ¬ sysModules ∈ as)) :
    ∀ (n : Nat) (its : List Value), Vals (List.replicate n v) its → ∃ as, ReadsAll h its (List.replicate n d) as ∧ (d.hasDict = true → ¬ sysModules ∈ as)
  | 0, its, r => by
    cases r
    exact ⟨[], .nil, fun _ m => by cases m⟩
  | n + 1, its, r => by
    rw [List.replicate_succ] at r
    cases r with
    | cons r1 r2 =>
      obtain ⟨as, h1, h2⟩ := one _ r1
      obtain ⟨bs, h3, h4⟩ := readsAll_rep one n _ r2
      exact ⟨as ++ bs, .cons h1 h3, fun e m => (List.mem_append.mp m).elim (h2 e) (h4 e)⟩
theorem hasDictAll_rep {d : PyData} : ∀ n, PyData.hasDictAll (List.replicate n d) = true → d.hasDict = true
  | 0, h => by simp [PyData.hasDictAll] at h
  | n + 1, h => by
    rw [List.replicate_succ] at h
    simp only [PyData.hasDictAll, Bool.or_eq_true] at h
    exact h.elim id (hasDictAll_rep n)
/-- what repr is asked of here: such a thing, or a list of it many times -/
inductive RpD (K : PySem.W.Frag) (H : Hp) : V → PyData → Prop
  | one {v : V} {d : PyData} (h : DpD K H v d) : RpD K H v d
  | rep {l : Addr} {n : Nat} {v : V} {d : PyData} (hl : H l = some (.lst (List.replicate n v))) (h : DpD K H v d) : RpD K H (.ref l) (.list (List.replicate n d))
theorem RpD.reads {pins : List (Addr × Obj)} {σ : L2.St} {H : Hp} {s : Shared} (I : Inv X pins σ H s) {o : Obj} (hs : X.K.lookup sysModules = some o) {v : V} {d : PyData} {u : Value} (h : RpD X.K H v d) (r : RelV v u) : ∃ as, Reads s.heap u d as ∧ (d.hasDict = true → ¬ sysModules ∈ as) := by
  cases h with
  | one h => exact DpD.reads I h r
  | @rep l n v d hl h =>
    obtain rfl : u = Value.ref l := r
    have z := I.hok _ _ hl
    unfold ObjOk at z
    obtain ⟨_, its, k, vs, g⟩ := z
    obtain ⟨as, h1, h2⟩ := readsAll_rep (fun u r => DpD.reads I h r) n its vs
    refine ⟨l :: as, Reads.list g rfl rfl (by rw [List.toList_toArray]; exact h1), fun e m => ?_⟩
    have e2 : d.hasDict = true := by
      simp only [PyData.hasDict] at e
      exact hasDictAll_rep n e
    rcases List.mem_cons.mp m with m | m
    · exact not_sys I hs hl m.symm
    · exact h2 e2 m
def rReprD (K : PySem.W.Frag) : List V → Hp → VK → Prop := fun xs H Q => ∃ (x : V) (d : PyData), xs = [x] ∧ RpD K H x d ∧ d.showable = true ∧ d.depth ≤ 60 ∧ d.shown.length ≤ sizeLine ∧ Q (.str d.shown) H
theorem call_reprD {o : Obj} (hs : X.K.lookup sysModules = some o) (hg : X.A.guards = some []) (hu : X.A.units + 64 < cLine) : CallR X (.builtin "repr") (rReprD X.K) := by
  intro pins s σ H xs us Q I r h
  obtain ⟨x, d, rfl, hd, sh, hdep, hz, q⟩ := h
  obtain ⟨u, rfl, rx⟩ : ∃ u, us = [u] ∧ RelV x u := by
    cases r with
    | cons a b => cases b; exact ⟨_, rfl, a⟩
  by_cases c : ∃ a, x = .ref a
  · obtain ⟨a, rfl⟩ := c
    obtain rfl : u = Value.ref a := rx
    obtain ⟨as, rd, ns⟩ := RpD.reads (u := Value.ref a) I hs hd rfl
    exact repr_of_reads' rd sh ns hg (by omega) (fun _ _ e => e) (fun h' u tk hk => ⟨.str d.shown, H, I.kept hk, ⟨_, rfl⟩, q⟩) hz
  · cases hd with
    | rep => exact absurd ⟨_, rfl⟩ c
    | one h =>
      cases h with
      | dp h n => exact call_repr hg hu pins s σ H _ _ Q I (.cons rx .nil) ⟨x, d, rfl, h, sh, n, hdep, hz, q⟩
      | tt => exact absurd ⟨_, rfl⟩ c
      | d0 => exact absurd ⟨_, rfl⟩ c
      | d1 => exact absurd ⟨_, rfl⟩ c
end
end TT

set_option Elab.async false
set_option linter.all false
set_option maxRecDepth 100000
set_option maxHeartbeats 4000000
/-! repr of a list whose own address may be any (only what it holds must not be sys.modules) -/
namespace TT
open PySem PySem.Spec PyProof.Rows L2
theorem repr_lst {prog : Program} {w : World} {h₀ : Heap} {a : Addr} {o : Obj} {vs : Array Value} {n : Nat} {xs : List PyData} {as : List Addr} {A : Around} {E : Value → Shared → Prop} {s : Shared} {Q : Value → Shared → Prop}
    (at_a : h₀.get? a = some o) (is_l : o.cls = .type "list") (dat : o.data = .seq vs n) (its : ReadsAll h₀ vs.toList xs as)
    (sh : PyData.showableAll xs = true) (out : PyData.hasDictAll xs = true → ¬ sysModules ∈ as) (gd : A.guards = some []) (un : A.units + ((PyData.list xs).depth + 1) < cLine)
    (low : ∀ b u, h₀.get? b = some u → s.heap.get? b = some u)
    (k : ∀ h' u tk, (∀ b o, s.heap.get? b = some o → h'.get? b = some o) → Q (.str (PyData.list xs).shown u) { s with heap := h', toks := tk })
    (len : (PyData.list xs).shown.length ≤ sizeLine) : wpAny (model prog w) A (call (.builtin "repr") [.ref a]) Q E s := by
  have short : (listText (PyData.shownAll xs)).length ≤ sizeLine := by
    have := len
    rwa [PyData.shown] at this
  obtain ⟨bs, below, each⟩ := ReprAllK.of_readsAll (prog := prog) (w := w) its sh out fun t ht => Nat.le_trans (listText_mem_le ht) short
  have apart : a ∉ bs := by
    refine not_mem_of_deeper (Reads.list at_a is_l dat its) ?_ below
    rw [PyData.depth]
    omega
  have dep : A.in1.units + (PyData.list xs).depth < cLine := by
    show A.units + 1 + _ < cLine
    omega
  refine call_repr_slot (by omega) (show s.TypeIs (.ref a) "list" from ⟨o, low _ _ at_a, is_l⟩) F.slot_list_repr.toG ?_
  rw [PyData.depth] at dep
  have k' := k
  simp only [PyData.shown] at k'
  obtain ⟨l⟩ := vs
  cases l with
  | nil =>
    have none' : ReadsAll h₀ [] xs as := its
    cases none'
    simp only [PyData.shownAll, listText_nil] at k'
    exact call_list_repr_empty ⟨o, low _ _ at_a, is_l⟩ (low _ _ at_a) dat ⟨_, _, rfl, k' s.heap _ _ fun _ _ e => e⟩
  | cons x l =>
    have el := each.length_eq
    exact call_list_reprK at_a is_l dat apart (by simpa using el) (fun i y e => each.item i y (by simpa using e)) gd (fun b _ => Clear.nil b) dep low (fun h' u tk hk => ⟨_, _, rfl, k' h' u tk hk⟩) short
section
variable {X : Cx}
theorem call_reprS (hg : X.A.guards = some []) (hu : X.A.units + 64 < cLine) : CallR X (.builtin "repr") (rReprD X.K) := by
  intro pins s σ H xs us Q I r h
  obtain ⟨x, d, rfl, hd, sh, hdep, hz, q⟩ := h
  obtain ⟨u, rfl, rx⟩ : ∃ u, us = [u] ∧ RelV x u := by
    cases r with
    | cons a b => cases b; exact ⟨_, rfl, a⟩
  have fin : ∀ h' u tk, (∀ b o, s.heap.get? b = some o → h'.get? b = some o) → EP X pins σ Q (.str d.shown u) { s with heap := h', toks := tk } := fun h' u tk hk => ⟨.str d.shown, H, I.kept hk, ⟨_, rfl⟩, q⟩
  cases hd with
  | @rep l n v d hl h =>
    obtain rfl : u = Value.ref l := rx
    have z := I.hok _ _ hl
    unfold ObjOk at z
    obtain ⟨_, its, k, vs, g⟩ := z
    obtain ⟨as, h1, h2⟩ := readsAll_rep (fun u r => DpD.reads I h r) n its vs
    have sh' : PyData.showableAll (List.replicate n d) = true := by
      rwa [PyData.showable] at sh
    exact repr_lst g rfl rfl (by rw [List.toList_toArray]; exact h1) sh' (fun e => h2 (hasDictAll_rep n e)) hg (by omega) (fun _ _ e => e) fin hz
  | one h =>
    by_cases c : ∃ a, x = .ref a
    · obtain ⟨a, rfl⟩ := c
      obtain rfl : u = Value.ref a := rx
      obtain ⟨as, rd, ns⟩ := DpD.reads (u := Value.ref a) I h rfl
      exact repr_of_reads' rd sh ns hg (by omega) (fun _ _ e => e) fin hz
    · cases h with
      | dp h n => exact call_repr hg hu pins s σ H _ _ Q I (.cons rx .nil) ⟨x, d, rfl, h, sh, n, hdep, hz, q⟩
      | tt => exact absurd ⟨_, rfl⟩ c
      | d0 => exact absurd ⟨_, rfl⟩ c
      | d1 => exact absurd ⟨_, rfl⟩ c
end
end TT

set_option Elab.async false
set_option linter.all false
set_option maxRecDepth 100000
set_option maxHeartbeats 4000000
/-! A lambda handed to a def; an error that was caught, kept behind its suite. -/
namespace TT
open PySem PySem.Spec PyProof.Rows L2
/-- at e: an error that was caught, of the class cls, its dict d -/
def exk (e : Addr) (cls : Value) (d : Option Addr) : HO := .ext fun h => ∃ (o : Obj) (vs : Array Value), h.get? e = some o ∧ Zc cls d o ∧ o.data = .fields vs
theorem exk_ok {P : Program} {w : World} {H : Hp} {h : Heap} {e : Addr} {cls : Value} {d : Option Addr} {o : Obj} {vs : Array Value} (he : h.get? e = some o) (hz : Zc cls d o) (hd : o.data = .fields vs) : ObjOk P w H h e (exk e cls d) :=
  ⟨⟨o, vs, he, hz, hd⟩, ⟨_, he⟩, fun h1 h2 ⟨o1, vs1, a, b, c⟩ k => ⟨o1, vs1, k _ a, b, c⟩⟩
theorem exk_at {P : Program} {w : World} {H : Hp} {h : Heap} {e : Addr} {cls : Value} {d : Option Addr} (hok : HOk P w H h) (he : H e = some (exk e cls d)) : ∃ (o : Obj) (vs : Array Value), h.get? e = some o ∧ Zc cls d o ∧ o.data = .fields vs := by
  have x : ObjOk P w H h e (.ext fun h => ∃ (o : Obj) (vs : Array Value), h.get? e = some o ∧ Zc cls d o ∧ o.data = .fields vs) := hok e _ he
  exact x.1
section
variable {X : Cx} {pins : List (Addr × Obj)} {σ : L2.St} {H : Hp} {s : Shared} {a : Addr} {cls : Value} {d : Option Addr} {oe : Obj} {vs : Array Value}
/-- a caught error is tracked -/
theorem Inv.track (I : Inv X pins σ H s) (ha : s.heap.get? a = some oe) (hz : Zc cls d oe) (hd : oe.data = .fields vs) (na : H a = none) (nL : a ≠ X.env.locals) (n0 : X.s_0.heap.get? a = none) (np : ∀ p ∈ X.pn ++ pins, p.1 ≠ a) :
    Inv X pins σ (L2.upd H a (exk a cls d)) s := by
  have sm : ∀ {b : Addr} {u : HO}, H b = some u → b ≠ a := fun {b u} e => ne_of_none e na
  refine ⟨I.ok, I.os, I.bare, ⟨I.base.keep, I.base.slot, fun b o e n hx => ?_, I.base.there, fun b xs e => ?_, fun b o u e => ?_, fun b ps e => ?_⟩, I.loc, I.cell, ?_, fun x c e => ?_, fun p hp => ?_, fun b u e => ?_, I.len⟩
  · have nb : b ≠ a := fun z => by rw [z, n0] at e; cases e
    rw [upd_ne nb]
    exact I.base.free b o e n hx
  · have q := I.base.tups b xs e
    rw [upd_ne (sm q)]
    exact q
  · have q := I.base.frzs b o u e
    rw [upd_ne (sm q)]
    exact q
  · obtain ⟨more, q⟩ := I.base.tbls b ps e
    exact ⟨more, by rw [upd_ne (sm q)]; exact q⟩
  · rw [upd_ne nL.symm]
    exact I.free
  · have nc : c ≠ a := fun z => by
      obtain ⟨v, o, ho, hc⟩ := I.cell x c e
      rw [z, ha] at ho
      cases ho
      rw [hd] at hc
      cases hc
    rw [upd_ne nc]
    exact I.freeC x c e
  · obtain ⟨e, n, r⟩ := I.pin p hp
    exact ⟨e, by rw [upd_ne (np p hp)]; exact n, r⟩
  · by_cases hb : b = a
    · subst hb
      rw [upd_same] at e
      cases e
      exact exk_ok ha hz hd
    · rw [upd_ne hb] at e
      exact (I.hok b u e).stay (fun _ _ _ q => q) (fun c q => by rw [upd_ne (sm q)]; exact q) fun c xs q => by rw [upd_ne (sm q)]; exact q
end
/-- what 'except x as n' wishes of the body's errors, each caught and kept behind the suite -/
def wKept (K : PySem.W.Frag) (c : Value) (i : Nat) (ts : Addr → Value → Option Addr → TS) (nx : L2.St → Hp → Prop) : WX := fun cls d σ H =>
  PySem.W.exmOne K cls c = some true ∧ ∀ a, H a = none → ts a cls d ⟨fun σ' H' => H' a = none → nx (σ'.set i none) (L2.upd H' a (exk a cls d)), fun _ _ => False, fun _ _ => False, fun _ _ => False⟩ (σ.set i (some (.ref a))) H
section
variable {X : Cx} {x n : Str} {c : Value} {i : Nat} {body suite : List Stmt} {b₀ : Stmt} {np pos pos' : Pos} {tb : WX → TS} {ts : Addr → Value → Option Addr → TS}
/-- try: body / except x as n: suite, where each error that the body lets out is an x -/
theorem ps_try_kept (hs : X.stack = X.env :: X.outer) (hf : X.env.frame = some X.env.locals) (hex : X.ex = []) (hN : X.N.Nodup) (hi : X.N[i]? = some n) (hln : X.env.kindOf n = some .local) (hc : Names X x c)
    (hb : ∀ (W : WX) (pn : List (Addr × Obj)) (xe : Value → Shared → Prop), Takes (X.tr pn xe) W → PassesOwn (model X.prog X.w) X.A X.env xe → PSs (X.tr pn xe) body (tb W))
    (hsu : ∀ (a : Addr) (oe : Obj) (cls : Value) (d : Option Addr) (pn : List (Addr × Obj)), Zc cls d oe → (∃ vs, oe.data = .fields vs) → PSs (X.suite a ((a, oe) :: pn)) (b₀ :: suite) (ts a cls d)) :
    PS X (.Try body [.ExceptHandler (some (.Name x np)) (some n) (b₀ :: suite) pos'] [] [] pos) (fun D σ H => tb (wKept X.K c i ts D.nx) ⟨D.nx, fun _ _ => False, fun _ _ => False, fun _ _ => False⟩ σ H) := by
  constructor
  intro pins s σ H D I h
  have ok := I.ok
  -- what is done with an error of the body
  let R : Value → Shared → Prop := fun e s₁ => wpAny (model X.prog X.w) X.A (noteFrame e X.env) (fun _ s₂ => wpAny (model X.prog X.w) X.A (setFlight e none) (fun _ s₃ =>
    wpAny (model X.prog X.w) X.A (handleBy e X.env [.ExceptHandler (some (.Name x np)) (some n) (b₀ :: suite) pos']) (SP X pins D) X.xe s₃) X.xe s₂) X.xe s₁
  have caught : Takes (X.tr (X.pn ++ pins) R) (wKept X.K c i ts D.nx) := by
    rintro u s' ⟨a, B, t0, pins', σ1, H1, cls, d, rfl, J0, ground, up, sky, na, os, ag, ex, told⟩
    have J : Inv X pins σ1 H1 t0 := J0.ofTry ok
    have frames : X.A.frames = some (X.env :: X.outer) := ok.frames.trans (congrArg some hs)
    have sky2 : Sky B (X.env :: X.outer) a (Zc cls d) X.env.locals s'.heap := hs ▸ sky
    have none_of : ∀ {h1 : Heap}, HandSPX.FlyingZ B (X.env :: X.outer) a (Zc cls d) h1 → a ∉ frs (X.env :: X.outer) := fun fl hm => by
      obtain ⟨o, vs, e1, _, e2⟩ := fl.there
      obtain ⟨_, o2, e3, e4⟩ := fl.2.2.1.mem hm
      cases e1.symm.trans e3
      exact e4 _ e2
    refine Sky.land Zc.steady frames hf sky2 fun g1 fl1 up1 => ?_
    have off := none_of fl1
    have nL : a ≠ X.env.locals := fun z => off (List.mem_filterMap.mpr ⟨_, List.mem_cons_self, hf.trans (congrArg some z.symm)⟩)
    have nF : a ∉ X.fs := fun hm => off (List.mem_filterMap.mpr ((List.mem_filterMap.mp hm).imp fun _ z => ⟨List.mem_cons_of_mem _ z.1, z.2⟩))
    have gone : t0.heap.get? a = none := by
      cases q : t0.heap.get? a with
      | none => rfl
      | some o => cases fl1.2.1.symm.trans (ground a o q (hs ▸ off))
    have older : X.s_0.heap.get? a = none := by
      cases q : X.s_0.heap.get? a with
      | none => rfl
      | some o =>
        obtain ⟨o2, z⟩ := J.base.there a o q (hex ▸ List.not_mem_nil)
        cases gone.symm.trans z
    have npin : ∀ p ∈ X.pn ++ pins, p.1 ≠ a := fun p hp z => by cases gone.symm.trans (z ▸ (J.pin p hp).1)
    obtain ⟨o1, vs1, e1, z1, f1⟩ := fl1.there
    have J1 : Inv X pins σ1 H1 { s' with heap := g1 } := J.landed ground fl1.1 (up.trans up1) os ag
    refine wpAny_handleBy_cons (codeAny_handlers_test ?_) (fun q => nomatch q)
    have matches_ := PySem.W.exm_one (M := model X.prog X.w) J1.kIn (fun A Q E s k q => wpAny_typeOf_ref (k _ _ e1) (z1.1 ▸ q)) ex
    have S1 := J1.suite e1 f1 na nL nF
    have named : ∀ {Q : Value → Shared → Prop} {E : Value → Shared → Prop}, Q c { s' with heap := g1 } → wpAny (model X.prog X.w) (X.A.mark (some (.ref a))) (eval (.Name x np) X.env) Q E { s' with heap := g1 } := fun {Q E} q => by
      obtain ⟨h1, h2, h3 | ⟨h3, h4, h5⟩⟩ := hc
      · exact ld_glob (X := X.suite a ((a, o1) :: (X.pn ++ pins))) S1 h1 h3 q h2
      · exact ld_blt (X := X.suite a ((a, o1) :: (X.pn ++ pins))) S1 h1 h3 h4 q h5 h2
    refine named (matches_.here (codeAny_handlers_suite_as (HandSPX.lands_againZ fl1 fun g2 fl2 up2 => ?_)))
    obtain ⟨o2, vs2, e2, z2, f2⟩ := fl2.there
    have J2 : Inv X pins σ1 H1 { s' with heap := g2 } := J.landed ground fl2.1 ((up.trans up1).trans up2) os ag
    refine store_ok (X := X.suite a ((a, o2) :: (X.pn ++ pins))) (v := .ref a) (J2.suite e2 f2 na nL nF) hN hi (.inl hln) rfl (fun s5 S5 => ?_) (.inr hln)
    refine wpAny_mono ((hsu a o2 cls d (X.pn ++ pins) z2 ⟨_, f2⟩).run [] s5 _ H1 _ S5 (told a na)) (fun f s6 hsp => ?_) (fun _ _ z => z.elim)
    match f, hsp with
    | .next, ⟨σ6, H6, S6, q6⟩ =>
      obtain ⟨e6, n6, _⟩ := S6.pin (a, o2) (List.mem_append_left _ List.mem_cons_self)
      exact gone_ok (Inv.track (S6.unsuite ok) e6 z2 f2 n6 nL older npin) hN hi hln fun s7 J7 => ⟨_, _, J7, q6 n6⟩
    | .brk, ⟨_, _, _, z⟩ => exact z.elim
    | .cont, ⟨_, _, _, z⟩ => exact z.elim
    | .ret u, ⟨_, _, _, _, _, z⟩ => exact z.elim
  refine wpAny_Try_except (wpAny_mono ((hb _ (X.pn ++ pins) R caught PassesOwn.looking).run [] s σ H _ (I.toTry _) h) (fun f s1 hsp => ?_) fun _ _ z => z)
  match f, hsp with
  | .next, ⟨σ2, H2, J2, q2⟩ => exact wpAny_execs_nil ⟨σ2, H2, J2.ofTry ok, q2⟩
  | .brk, ⟨_, _, _, z⟩ => exact z.elim
  | .cont, ⟨_, _, _, z⟩ => exact z.elim
  | .ret u, ⟨_, _, _, _, _, z⟩ => exact z.elim
end
/-! ### a callable without parameters, as a value -/
theorem Un.then {fs fs' : List Addr} {H H1 H2 : Hp} {h h1 h2 : Heap} (a : Un fs [] H H1 h h1) (b : Un fs' [] H1 H2 h1 h2) (h1' : ∀ c ∈ fs', c ∈ fs ∨ h.get? c = none) (h2' : ∀ c ∈ fs, c ∈ fs') : Un fs [] H H2 h h2 where
  keep := fun c ob q n hc hx => b.keep c ob (a.keep c ob q n hc hx) (a.free c ob q n hx) (fun z => (h1' c z).elim hc fun z => by rw [q] at z; cases z) hx
  slot := fun c ob q n hc hx => by
    obtain ⟨sl, e1⟩ := a.slot c ob q n hc hx
    obtain ⟨sl', e2⟩ := b.slot c _ e1 (a.free c ob q n hx) (h2' c hc) hx
    exact ⟨sl', e2⟩
  free := fun c ob q n hx => by
    obtain ⟨o', e1⟩ := a.there c ob q hx
    exact b.free c o' e1 (a.free c ob q n hx) hx
  there := fun c ob q hx => by
    obtain ⟨o', e1⟩ := a.there c ob q hx
    exact b.there c o' e1 hx
  tups := fun c xs q => b.tups c xs (a.tups c xs q)
  frzs := fun c ob xs q => b.frzs c ob xs (a.frzs c ob xs q)
  tbls := fun c ps q => by
    obtain ⟨m1, e1⟩ := a.tbls c ps q
    obtain ⟨m2, e2⟩ := b.tbls c _ e1
    exact ⟨m1 ++ m2, by rw [e2, Array.append_assoc]⟩
end TT

set_option Elab.async false
set_option linter.all false
set_option maxRecDepth 100000
set_option maxHeartbeats 4000000
/-! A callable without parameters as a value: what it does while it is handed on, lambdas that are such, defs that take one. -/
namespace TT
open PySem PySem.Spec PyProof.Rows L2 LamX
theorem un_then {fs fs' : List Addr} {H H1 H2 : Hp} {h h1 h2 : Heap} (a : Un fs [] H H1 h h1) (b : Un fs' [] H1 H2 h1 h2) (new : ∀ c ∈ fs', c ∈ fs ∨ h.get? c = none) (sub : ∀ c ∈ fs, c ∈ fs') : Un fs [] H H2 h h2 := by
  have up : Un fs' [] H H1 h h1 := a.mono sub fun _ z => z
  have all := up.trans b
  refine ⟨fun c o e n hc hx => ?_, fun c o e n hc hx => all.any e n hx, all.free, all.there, all.tups, all.frzs, all.tbls⟩
  refine b.keep c o (a.keep c o e n hc hx) (a.free c o e n hx) (fun z => ?_) hx
  rcases new c z with q | q
  · exact hc q
  · rw [q] at e; cases e
/-- f() runs so, as long as what stands in (s, H) but the frames fs stays -/
structure Runs (P : Program) (w : World) (K : PySem.W.Frag) (mg : Str → Option Value) (base : Heap) (fs : List Addr) (k : Nat) (f : Addr) (tl : XK → Hp → VK → Prop) (s : Shared) (H : Hp) : Prop where
  obj : ∃ (oc : Value) (od : Option Addr) (fd : FuncData) (sl : Array (Option Value)), s.heap.get? f = some ⟨oc, od, .func fd, sl⟩
  fn : H f = none
  fr : f ∉ fs
  run : ∀ (A : Around) (outer : List Env) (s1 : Shared) (HZ : Hp) (Q : VK) (E : XK), Room (k + 1) A → Env0 P w K mg base A outer s1 HZ → Un fs [] H HZ s.heap s1.heap → tl E HZ Q →
    codeAny (model P w) A (.call (.ref f) ⟨[], []⟩) (CR (L2.CX P w) outer P w HZ s1 Q E) s1
section
variable {P : Program} {w : World} {K : PySem.W.Frag} {mg : Str → Option Value} {base : Heap} {k j : Nat} {f : Addr} {tl : XK → Hp → VK → Prop}
theorem Runs.step {fs fs' : List Addr} {s s1 : Shared} {H H1 : Hp} (R : Runs P w K mg base fs k f tl s H) (u : Un fs [] H H1 s.heap s1.heap) (new : ∀ c ∈ fs', c ∈ fs ∨ s.heap.get? c = none) (sub : ∀ c ∈ fs, c ∈ fs') : Runs P w K mg base fs' k f tl s1 H1 := by
  obtain ⟨oc, od, fd, sl, e⟩ := R.obj
  refine ⟨⟨oc, od, fd, sl, u.keep f _ e R.fn R.fr List.not_mem_nil⟩, u.free f _ e R.fn List.not_mem_nil, fun z => ?_, fun A outer s2 HZ Q E hr e0 u2 t => R.run A outer s2 HZ Q E hr e0 (un_then u u2 new sub) t⟩
  rcases new f z with q | q
  · exact R.fr q
  · rw [q] at e; cases e
/-- within a def that got it: at any state of the def -/
theorem Runs.now {X : Cx} {pins : List (Addr × Obj)} {σ : L2.St} {H : Hp} {s : Shared} (R : Runs X.prog X.w X.K X.mg X.base X.fs k f tl X.s_0 X.H_0) (hex : X.ex = []) (I : Inv X pins σ H s) : Runs X.prog X.w X.K X.mg X.base (frs X.stack) k f tl s H := by
  have u : Un X.fs [] X.H_0 H X.s_0.heap s.heap := hex ▸ I.base
  refine R.step u (fun c hc => ?_) fun c hc => ?_
  · rcases List.mem_cons.mp (I.stkSub c hc) with z | z
    · exact .inr (Heap.get?_none_of_le (z ▸ I.ok.above))
    · exact .inl z
  · rcases I.ok.stk with z | ⟨z, hf⟩
    · rw [z]; exact hc
    · rw [z]
      unfold frs
      rw [List.filterMap_cons, hf]
      exact List.mem_cons_of_mem _ hc
end
/-- a def whose first argument is such a callable -/
structure LOk (P : Program) (w : World) (K : PySem.W.Frag) (mg : Str → Option Value) (base : Heap) (k j : Nat) (g : Addr) (fd : FuncData) (ps : List Str) (sp : (XK → Hp → VK → Prop) → List V → Hp → VK → Prop) : Prop where
  len : ∀ tl vs H Q, sp tl vs H Q → vs.length + 1 = ps.length
  run : ∀ (A : Around) (outer : List Env) (s : Shared) (H : Hp) (args : Args) (us : List Value) (vs : List V) (Q : VK) (f : Addr) (tl : XK → Hp → VK → Prop), A.guards = some [] → Room k A → Env0 P w K mg base A outer s H →
    BindsTo s fd args (ps.zip (.ref f :: us)) → Vals vs us → Runs P w K mg base (frs outer) j f tl s H → sp tl vs H Q → codeAny (model P w) A (.call (.ref g) args) (CR CX0 outer P w H s Q fun _ _ _ => False) s
section
variable {X : Cx} {k j i : Nat} {f g : Addr} {fd : FuncData} {ps : List Str} {sp : (XK → Hp → VK → Prop) → List V → Hp → VK → Prop} {tl : XK → Hp → VK → Prop} {x a : Str} {p p1 p2 pos : Pos} {e : Expr} {es : List Expr} {ta : TA}
theorem run_L {pins : List (Addr × Obj)} {σ : L2.St} {H : Hp} {s : Shared} {Q : VK} {us : List Value} {vs : List V} (L : LOk X.prog X.w X.K X.mg X.base k j g fd ps sp) (gd : X.A.guards = some []) (hr : Room k X.A) (hb : Binds X.K fd ps [])
    (I : Inv X pins σ H s) (R : Runs X.prog X.w X.K X.mg X.base (frs X.stack) j f tl s H) (r : Vals vs us) (h : sp tl vs H Q) : wpAny (model X.prog X.w) X.A (call (.ref g) (.ref f :: us)) (EP X pins σ Q) X.xe s := by
  have n : (.ref f :: us : List Value).length = ps.length := by
    rw [List.length_cons, ← r.length]
    exact L.len _ _ _ _ h
  have b := hb s (.ref f :: us) I.kIn (by rw [List.append_nil]; exact n)
  rw [List.append_nil] at b
  refine wpAny_call (codeAny_mono (L.run X.A X.stack s H ⟨.ref f :: us, []⟩ us vs Q f tl gd hr I.env0 b r R h) fun res s1 z => ?_)
  match res, z with
  | .error _, z => exact z.elim
  | .ok (.ret u), z => exact I.after z
  | .ok .next, z => exact z.elim
  | .ok .brk, z => exact z.elim
  | .ok .cont, z => exact z.elim
/-- g(x, ..) in a def that got x -/
theorem pe_handon (R : Runs X.prog X.w X.K X.mg X.base X.fs j f tl X.s_0 X.H_0) (hex : X.ex = []) (L : LOk X.prog X.w X.K X.mg X.base k j g fd ps sp) (gd : X.A.guards = some []) (hr : Room k X.A) (hb : Binds X.K fd ps [])
    (hg : Gl X x) (hm : X.mg x = some (.ref g)) (hk : PySem.W.keepIn X.K (.ref g) = true) (ha : PA X (e :: es) ta) (hdb : (x == ("__debug__" : Str)) = false := by decide)
    (he : starEach (e :: es) X.env = (false, eval e X.env) :: starEach es X.env := by rfl) (hpl : (backTo pos (starEach es X.env)).any (·.1) = false := by rfl) :
    PE X (.Call (.Name x p) (e :: es) [] pos) (fun σ H Q => ta σ H fun vs H1 => ∃ ws, vs = .ref f :: ws ∧ sp tl ws H1 Q) := by
  constructor
  intro pins s σ H Q I h
  refine wpAny_Call_Name_kw (ld_glob I hg hm (PySem.W.callWith_K (h₀ := X.base) I.ok.mod.kin hk (thn (ha.run pos pins s σ H _ I h) fun us s1 ⟨vs, H1, I1, r, ws, ev, q⟩ => ⟨I1.kIn, ?_⟩) he hpl) hdb)
  subst ev
  cases r with
  | @cons _ u _ ur r1 r2 =>
    obtain rfl : u = Value.ref f := r1
    exact run_L L gd hr hb I1 (R.now hex I1) r2 q
/-- x() in a def that got x -/
theorem pe_look {E : XK} (R : Runs X.prog X.w X.K X.mg X.base X.fs k f tl X.s_0 X.H_0) (hex : X.ex = []) (hx : Passes (L2.CX X.prog X.w) X E) (hr : Room (k + 1) X.A) (hN : X.N[i]? = some a) (hv : Vis X.env.scope a)
    (hd : (a == ("__debug__" : Str)) = false := by decide) (hcd : (a == ("__classdict__" : Str)) = false := by decide) :
    PE X (.Call (.Name a p1) [] [] p2) (fun σ H Q => σ[i]? = some (some (.ref f)) ∧ tl E H Q) := by
  constructor
  intro pins s σ H Q I ⟨hs, t⟩
  refine wpAny_Call_Name_kw (thn ((pe_var (pos := p1) (i := i) hN hv hd hcd).run pins s σ H (fun v H1 => v = .ref f ∧ H1 = H) I ⟨_, hs, rfl, rfl⟩) fun u s1 ⟨v, H1, I1, r1, ev, eH⟩ => ?_)
  subst ev eH
  obtain rfl : u = Value.ref f := r1
  have R1 := R.now hex I1
  obtain ⟨oc, od, fd, sl, ob⟩ := R1.obj
  refine PySem.W.callWith_F0 (first := []) ⟨oc, od, fd, sl, ob⟩ (wpAny_call (codeAny_mono (R1.run X.A X.stack s1 _ Q E hr I1.env0 Un.refl t) fun res s2 z => ?_))
  match res, z with
  | .error e, z => exact hx pins σ _ s1 e s2 I1 z
  | .ok (.ret u), z => exact I1.after z
  | .ok .next, z => exact z.elim
  | .ok .brk, z => exact z.elim
  | .ok .cont, z => exact z.elim
/-- g(lambda: body, ..): T the tables of code objects -/
theorem pe_lam {T : List (Addr × Str)} {c PT : Addr} {params : Arguments} {body : Expr} {scope : Scope} {t : XK → TE} {lpos : Pos} (L : LOk X.prog X.w X.K X.mg X.base j k g fd ps sp) (gd : X.A.guards = some []) (hr : Room j X.A) (hb : Binds X.K fd ps [])
    (hg : Gl X x) (hm : X.mg x = some (.ref g)) (hk : PySem.W.keepIn X.K (.ref g) = true) (ha : PA X es ta)
    (TB : TabB X.base X.mg c PT) (hcode : X.env.code = .ref c) (hmT : (PT, X.env.qual ++ "<lambda>") ∈ T) (hu : ∀ p ∈ T, p.1 = PT → p.2 = X.env.qual ++ "<lambda>") (S : LamS X.env.scope scope) (hdef : defaultsOf params X.env = ([], []))
    (hbind : ∀ (q : Str) (cl : List (Str × Addr)) (pm cv ctv : Value), bindArgs (PySem.W.kla_fn "<lambda>" q params body scope cl pm cv ctv) ⟨[], []⟩ = pure [])
    (hbody : ∀ (A : Around) (outer : List Env) (s : Shared) (H : Hp) (E : XK) (f c' : Addr), Room k (A.deeper (lamEnv X scope s.heap.objs.size f c')) → PE (lamCx X A outer s H E scope f c') body (t E))
    (hdb : (x == ("__debug__" : Str)) = false := by decide)
    (he : starEach (.Lambda params body scope lpos :: es) X.env = (false, eval (.Lambda params body scope lpos) X.env) :: starEach es X.env := by rfl) (hpl : (backTo pos (starEach es X.env)).any (·.1) = false := by rfl) :
    PE X (.Call (.Name x p) (.Lambda params body scope lpos :: es) [] pos)
      (fun σ H Q => Tabs T H ∧ ∀ H1 c', ExtN H H1 → Tabs T H1 → H1 c' = some (CodeO c' (X.env.qual ++ "<lambda>")) → ta σ H1 fun ws H2 => sp (fun E H' Q' => H' c' = some (CodeO c' (X.env.qual ++ "<lambda>")) ∧ t E σ H' Q') ws H2 Q) := by
  constructor
  intro pins s σ H Q I ⟨hT, h⟩
  refine wpAny_Call_Name_kw (ld_glob I hg hm ?_ hdb)
  refine PySem.W.callWith_K (h₀ := X.base) I.ok.mod.kin hk ?_ he hpl
  rw [he]
  refine Calls.spliced_cons (lam_make2 I TB hcode hmT hu hT hdef (S.has I.ok) fun f c' pm ctv H1 s1 I1 eN T1 hf hfn hfr hco => ?_)
  have fL : f ≠ X.env.locals := fun z => by
    obtain ⟨m, ⟨o, es, ep, e1, e2, _⟩, _⟩ := I1.loc
    rw [← z, hf] at e1
    cases e1
    cases e2
  have fF : f ∉ X.fs := fun z => hfr (by
    rcases I1.ok.stk with q | ⟨q, hf2⟩
    · rw [q]; exact z
    · rw [q]; unfold frs; rw [List.filterMap_cons, hf2]; exact List.mem_cons_of_mem _ z)
  generalize hob : PySem.W.kla_obj "<lambda>" (X.env.qual ++ "<lambda>") params body scope (cloFrom X.env.cells scope.names []) pm c' ctv = ob at hf
  have I1p : Inv X ((f, ob) :: pins) σ H1 s1 := I1.pins_of fun q hq => by
    rcases List.mem_cons.mp hq with z | z
    · subst z
      exact ⟨hf, hfn, fL, fF, fun v z => by rw [← hob] at z; cases z⟩
    · exact I1.pin q (List.mem_append_right _ z)
  refine thn (ha.run pos ((f, ob) :: pins) s1 σ H1 _ I1p (h H1 c' eN T1 hco)) fun us s2 ⟨ws, H2, I2p, r, q⟩ => ⟨I2p.kIn, ?_⟩
  have I2 : Inv X pins σ H2 s2 := I2p.pins_of fun q hq => I2p.pin q (List.mem_append_right _ (List.mem_cons_of_mem _ hq))
  obtain ⟨e2, n2, _⟩ := I2p.pin (f, ob) (List.mem_append_right _ List.mem_cons_self)
  refine run_L (f := f) (tl := fun E H' Q' => H' c' = some (CodeO c' (X.env.qual ++ "<lambda>")) ∧ t E σ H' Q') L gd hr hb I2 ⟨⟨_, _, _, _, by rw [← hob] at e2; exact e2⟩, n2, hfr, fun A outer s3 HZ Q' E hrA e0 un ⟨hc', ht⟩ => ?_⟩ r q
  have e3 := un.keep f _ e2 n2 hfr List.not_mem_nil
  rw [← hob] at e3
  obtain ⟨⟨oc, vs, tk, hoc, hdc, hvc⟩, _, _⟩ := e0.hok c' _ hc'
  refine PySem.W.kla_callFunE hrA.depth e3 rfl S.co S.gen rfl ⟨c', oc, vs, tk, rfl, hoc, hdc, hvc⟩ ?_
  rw [hbind]
  have lim : s3.heap.NoLimit := e0.mod.nolimit.keeps fun b o z => (e0.bs b o z).1
  refine wpAny_pure (wpAny_newFunctionEnv (fun y hy => (S.own y hy).2) (fun y hy => absurd hy List.not_mem_nil) (fun h₁ hns hsb => ⟨lim.fresh _ hsb, ?_⟩) S.kind)
  show codeAny _ _ (.expr body (lamEnv X scope s3.heap.objs.size f c')) _ _
  have kp : ∀ b o, s3.heap.get? b = some o → h₁.get? b = some o := fun b o z => hsb.extBut b o (Nat.ne_of_lt (Heap.lt_size z)) (Heap.get?_push_of_some _ z)
  have J := lam_start2 (f := f) (c' := c') (E := E) (tk := s3.toks + ([] : List (Str × Value)).length) I2 S e0 hrA.hd un hns kp
  refine PySem.W.kla_codeExpr (wpAny_mono ((hbody A outer s3 HZ E f c' (hrA.deeper _)).run [] _ σ HZ Q' J ht) (fun v s' ⟨w', H', J', rv, q'⟩ => ⟨w', H', J'.os, J'.bare, J'.base, J'.hok, rv, q'⟩) fun _ _ z => z)
end
/-- a def of the text whose first argument is such a callable -/
theorem okL {P : Program} {w : World} {K : PySem.W.Frag} {mg : Str → Option Value} {base : Heap} {x qual : Str} {st : Stmt} {g : Addr} {fd : FuncData} {N ps : List Str} {k j : Nat} {sp : (XK → Hp → VK → Prop) → List V → Hp → VK → Prop} (F : Fun K x qual st g fd) (S : FnScope N ps (defScope st))
    (len : ∀ tl vs H Q, sp tl vs H Q → vs.length + 1 = ps.length)
    (hb : ∀ (cdv : Value) (A : Around) (outer : List Env) (s : Shared) (H : Hp) (vs : List V) (Q : VK) (f : Addr) (tl : XK → Hp → VK → Prop), A.guards = some [] → Room k (A.deeper (envOfC qual (defScope st) s.heap.objs.size g cdv)) → Runs P w K mg base (frs outer) j f tl s H → sp tl vs H Q →
      ∃ t, PSs (cxOf CX0 P w K mg base N qual (defScope st) g cdv A outer s H fun _ _ _ => False).nox (defBody st) t ∧ t { nx := fun _ H1 => Q .non H1, rt := Q } (start N (.ref f :: vs)) H) : LOk P w K mg base (k + 1) j g fd ps sp := by
  obtain ⟨oc, od, kV, doc, pm, an, cdv, ct, osl, rfl, lk, hcd⟩ := F.ex
  refine ⟨len, fun A outer s H args us vs Q f tl gd hr e0 bnd r R h => ?_⟩
  refine run_ofS (vs := .ref f :: vs) lk hcd S hr e0 bnd (.cons rfl r) (len _ _ _ _ h) fun hr' => ?_
  obtain ⟨t, ht, hq⟩ := hb cdv A outer s H vs Q f tl gd hr' R h
  exact ⟨t, ht.nox, hq⟩
/-- x() in a try's body: what it lets out is told at the slots as they stand -/
def tLook (f : Addr) (i : Nat) (tl : XK → Hp → VK → Prop) (W : WX) : TE := fun σ H Q => ∃ (E : XK) (Q0 : VK), (∀ cls d H', E cls d H' → W cls d σ H') ∧ (∀ v H', Q0 v H' → Q v H') ∧ σ[i]? = some (some (.ref f)) ∧ tl E H Q0
theorem pe_lookS {X : Cx} {k i : Nat} {f : Addr} {tl : XK → Hp → VK → Prop} {a : Str} {p1 p2 : Pos} {W : WX} (tk : Takes X W) (R : Runs X.prog X.w X.K X.mg X.base X.fs k f tl X.s_0 X.H_0) (hex : X.ex = []) (hr : Room (k + 1) X.A) (hN : X.N[i]? = some a) (hv : Vis X.env.scope a)
    (hd : (a == ("__debug__" : Str)) = false := by decide) (hcd : (a == ("__classdict__" : Str)) = false := by decide) : PE X (.Call (.Name a p1) [] [] p2) (tLook f i tl W) := by
  constructor
  intro pins s σ H Q I ⟨E, Q0, hW, hQ, hs, t⟩
  refine wpAny_Call_Name_kw (thn ((pe_var (pos := p1) (i := i) hN hv hd hcd).run pins s σ H (fun v H1 => v = .ref f ∧ H1 = H) I ⟨_, hs, rfl, rfl⟩) fun u s1 ⟨v, H1, I1, r1, ev, eH⟩ => ?_)
  subst ev eH
  obtain rfl : u = Value.ref f := r1
  have R1 := R.now hex I1
  obtain ⟨oc, od, fd, sl, ob⟩ := R1.obj
  refine PySem.W.callWith_F0 (first := []) ⟨oc, od, fd, sl, ob⟩ (wpAny_call (codeAny_mono (R1.run X.A X.stack s1 _ Q0 E hr I1.env0 Un.refl t) fun res s2 z => ?_))
  match res, z with
  | .error e, z => exact tk e s2 (XE.of_call I1 hW z)
  | .ok (.ret u), z =>
    obtain ⟨v, H2, I2, rv, q⟩ := I1.after z
    exact ⟨v, H2, I2, rv, hQ _ _ q⟩
  | .ok .next, z => exact z.elim
  | .ok .brk, z => exact z.elim
  | .ok .cont, z => exact z.elim
/-! ### errors that were caught -/
/-- at a stands a caught error of the class at C whose own dict holds fs -/
def Met (H : Hp) (a C : Addr) (fs : List (Str × V)) : Prop := ∃ d, H a = some (exk a (.ref C) (some d)) ∧ H d = some (.xd fs)
theorem Met.same {H H' : Hp} {a C : Addr} {fs : List (Str × V)} (s : Same H H') (h : Met H a C fs) : Met H' a C fs := h.imp fun _ z => ⟨s _ _ z.1, s _ _ z.2⟩
section
variable {X : Cx} {pins : List (Addr × Obj)} {σ : L2.St} {H : Hp} {s : Shared} {a C : Addr} {fs : List (Str × V)}
theorem met_at (I : Inv X pins σ H s) (h : Met H a C fs) : ∃ ox od, PySem.W.InstAt s.heap a ox C (some od) ∧ ∃ mA : Str → Option Value, (∀ name, PySem.W.lookIn name od = some (mA name)) ∧ ∀ f, RelO (fs.lookup f) (mA f) := by
  obtain ⟨d, h1, h2⟩ := h
  obtain ⟨o, vs, e1, z1, f1⟩ := exk_at I.hok h1
  obtain ⟨mA, hn, hr⟩ : ∃ mA, s.heap.Ns1 d mA ∧ ∀ f, RelO (fs.lookup f) (mA f) := I.hok d _ h2
  obtain ⟨od, ho, hl⟩ := lookIn_ns hn
  exact ⟨o, od, ⟨e1, z1.1, by unfold PySem.W.notCls; rw [f1] <;> rfl, by rw [z1.2]; exact ho⟩, mA, hl, hr⟩
/-- e.n of a caught error -/
def tMv (K : PySem.W.Frag) (n : Str) (te : TE) : TE := fun σ H Q => te σ H fun x H1 => ∃ a C fs v, x = .ref a ∧ Met H1 a C fs ∧ XfC K C ∧ PySem.W.findIn K (.ref C) n = some none ∧ fs.lookup n = some v ∧ Q v H1
theorem pe_mv {e : Expr} {te : TE} {pos : Pos} {n : Str} (he : PE X e te) (hb : attributeBase e n X.env (eval e X.env) = eval e X.env := by rfl) : PE X (.Attribute e n pos) (tMv X.K n te) := by
  constructor
  intro pins s σ H Q I h
  refine attr_of hb (thn (he.run pins s σ H _ I h) fun u s1 ⟨x, H1, I1, rx, a, C, fs, v, ex, hE, T, hno, l, q⟩ => ?_)
  subst ex
  obtain rfl : u = Value.ref a := rx
  obtain ⟨ox, od, J, mA, hl, hr⟩ := met_at I1 hE
  obtain ⟨u, hu, ru⟩ := RelO.some_of (v := v) (o := mA n) (l ▸ hr n)
  exact HandSPX.exc_get I1.kIn J T.ga T.gg T.exC (PySem.W.findObj_own T.hdC hno rfl (by rw [hl, hu])) (handed_of ru) ⟨v, H1, I1.tok _, ru, q⟩
/-- isinstance(x, c) of a caught error -/
def rIsM (K : PySem.W.Frag) : List V → Hp → VK → Prop := fun xs H Q => ∃ (a C : Addr) (fs : List (Str × V)) (c : V) (cv : Value) (b b' : Bool), xs = [.ref a, c] ∧ Met H a C fs ∧ ExcC K C ∧ PySem.W.kitCls K (.ref C) (.ref C) = some b' ∧ ClsV c cv ∧ PySem.W.kitOne K (.ref C) cv = some b ∧ Q (.bl b) H
theorem call_isM {X : Cx} : CallR X (.builtin "isinstance") (rIsM X.K) := by
  intro pins s σ H xs us Q I r h
  obtain ⟨a, C, fs, c, cv, b, b', rfl, hE, T, self, hc, e, q⟩ := h
  match us, r with
  | [u1, u2], .cons r1 (.cons r2 .nil) =>
    obtain rfl : u1 = Value.ref a := r1
    obtain rfl : u2 = cv := hc.eq r2
    obtain ⟨ox, od, J, _⟩ := met_at I hE
    exact PySem.W.kia_one (kit_err T self) I.kIn ⟨ox, od, J⟩ e (fun z => nomatch z) fun tk => ⟨.bl b, H, I.tok tk, rfl, q⟩
end
end TT

set_option Elab.async false
set_option linter.all false
set_option maxRecDepth 100000
set_option maxHeartbeats 4000000
/-! What the laws of our program share: defs that make lambdas, the errors' classes, the end of a law whose defs make lambdas. -/
namespace TT
open PySem PySem.Spec PyProof.Rows L2 LamX
/-! ### defs that make lambdas: their code object is known -/
structure FunC (K : PySem.W.Frag) (x qual : Str) (st : Stmt) (f : Addr) (fd : FuncData) (c : Addr) : Prop where
  ex : ∃ (oc : Value) (od : Option Addr) (kV doc pm : Value) (an : Option Addr) (ct : Value) (osl : Array (Option Value)),
    fd = PySem.W.fnOf x qual (defArgs st) (defBody st) (defScope st) .none kV doc pm an (.ref c) ct ∧ K.lookup f = some ⟨oc, od, .func fd, osl⟩ ∧ PySem.W.codeIn K (.ref c) qual = true
  kp : PySem.W.keepIn K (.ref f) = true
section
variable {P : Program} {w : World} {K : PySem.W.Frag} {mg : Str → Option Value} {base : Heap} {x qual : Str} {st : Stmt} {f c : Addr} {fd : FuncData} {N ps : List Str} {k : Nat} {sp : Sp}
theorem FunC.fn (F : FunC K x qual st f fd c) : Fun K x qual st f fd := by
  obtain ⟨oc, od, kV, doc, pm, an, ct, osl, e, l, h⟩ := F.ex
  exact ⟨⟨oc, od, kV, doc, pm, an, .ref c, ct, osl, e, l, h⟩, F.kp⟩
theorem okGC (F : FunC K x qual st f fd c) (S : FnScope N ps (defScope st)) (size : ∀ vs H Q E, sp vs H Q E → vs.length = ps.length)
    (hb : ∀ (A : Around) (outer : List Env) (s : Shared) (H : Hp) (vs : List V) (Q : VK) (E : XK), A.guards = some [] → Room k (A.deeper (envOfC qual (defScope st) s.heap.objs.size f (.ref c))) → sp vs H Q E →
      ∃ t, PSs (cxOf CX0 P w K mg base N qual (defScope st) f (.ref c) A outer s H E).nox (defBody st) t ∧ t { nx := fun _ H1 => Q .non H1, rt := Q } (start N vs) H) : GOk P w K mg base CX0 (k + 1) f fd ps sp := by
  obtain ⟨oc, od, kV, doc, pm, an, ct, osl, rfl, lk, hcd⟩ := F.ex
  refine g_of lk hcd S size fun A outer s H vs Q E g hr hsp => ?_
  obtain ⟨t, h, q⟩ := hb A outer s H vs Q E g hr hsp
  exact ⟨t, h.nox, q⟩
end
/-- a def that lets errors out, called where it lets none out -/
theorem passF {P : Program} {w : World} {X : Cx} : Passes (L2.CX P w) X E0 := fun _ _ _ _ _ _ _ h => by
  obtain ⟨_, _, _, _, _, _, _, _, _, _, _, _, z⟩ := h
  exact z.elim
/-- o(..), o an instance of the class at C -/
def tCallI (C : Addr) (sp : Sp) (E : XK) (tf : TE) (t : TA) : TE := fun σ H Q => tf σ H fun y H1 => ∃ a, y = V.ref a ∧ t σ H1 fun vs H2 => (∃ dx fs, H2 a = some (.ins C dx fs)) ∧ sp (V.ref a :: vs) H2 Q E
theorem pe_callI {X : Cx} {CX : CXT} {k : Nat} {g C : Addr} {sp : Sp} {E : XK} {fe e : Expr} {es : List Expr} {tf : TE} {t : TA} {pos : Pos} (hf : PE X fe tf) (c : StX.CallO X.K C g) (F : FnR X.prog X.w X.K X.mg X.base CX k g sp) (hr : Room k X.A) (hx : Passes CX X E) (ha : PA X (e :: es) t)
    (ht : eval (.Call fe (e :: es) [] pos) X.env = (do callWith pos (← eval fe X.env) [] (backTo pos (starEach (e :: es) X.env)) (backToKw pos (keywordEach [] X.env))) := by rfl)
    (he : starEach (e :: es) X.env = (false, eval e X.env) :: starEach es X.env := by rfl) (hpl : (backTo pos (starEach es X.env)).any (·.1) = false := by rfl) : PE X (.Call fe (e :: es) [] pos) (tCallI C sp E tf t) := by
  constructor
  intro pins s σ H Q I h
  refine Call_ (thn (hf.run pins s σ H _ I h) fun u s1 z => ?_) ht
  obtain ⟨_, H1, I1, ru, a, rfl, q⟩ := z
  obtain rfl : u = .ref a := ru
  refine StX.callO_with (thn (ha.run pos pins s1 σ H1 _ I1 q) fun us s2 z => ?_) he hpl
  obtain ⟨vs, H2, I2, rv, inst, q2⟩ := z
  have at2 : StX.InsC X H2 a C := .inr inst
  obtain ⟨ox, od, J, plain⟩ := StX.insC_at I2 at2
  exact ⟨⟨C, ox, od, J, plain⟩, StX.run_callO c F hr hx I2 at2 rv q2⟩
/-- what a lambda in the def q is called -/
def lamN (q : Str) : Str := (q ++ ".<locals>.") ++ "<lambda>"
/-! ### the errors' classes -/
/-- the chain of each error's class behind itself -/
def chain (cE C : Addr) : List Value := (if C = cE then [] else [.ref cE]) ++ [.type "ValueError", .type "Exception", .type "BaseException", .type "object"]
structure ExcT (K : PySem.W.Frag) (cE fI C : Addr) : Prop where
  ox : OexC K C
  xf : XfC K C
  ec : ExcC K C
  ini : PySem.W.findIn K (.ref C) "__init__" = some (some (.ref fI))
  nv : PySem.W.findIn K (.ref C) "value" = some none
  sub : ∀ b, PySem.W.subIn K (.ref C) b = some ((Value.ref C :: chain cE C).contains b)
  is : ((PySem.W.clsIn K C).isSome && PySem.W.typeIn K (.ref C) == some (.type "type")) = true
section
variable {K : PySem.W.Frag} {cE fI C D : Addr}
theorem ExcT.kit (a : ExcT K cE fI C) (b : ExcT K cE fI D) (h : C ≠ D) : PySem.W.kitOne K (.ref C) (.ref D) = some (decide (D = cE)) := by
  have n1 : (Value.ref C == Value.ref D) = false := by simpa using h
  unfold PySem.W.kitOne
  rw [n1, if_neg Bool.false_ne_true]
  unfold PySem.W.kitCls
  dsimp only
  rw [if_pos b.is, a.sub]
  congr 1
  unfold chain
  have n2 : ¬ D = C := fun e => h e.symm
  by_cases c : C = cE
  · subst c
    rw [if_pos rfl, decide_eq_false n2]
    simp [n2]
  · rw [if_neg c]
    by_cases e : D = cE
    · subst e
      simp
    · rw [decide_eq_false e]
      simp [e, n2]
theorem ExcT.self (a : ExcT K cE fI C) : PySem.W.kitOne K (.ref C) (.ref C) = some true := by
  unfold PySem.W.kitOne
  rw [if_pos (beq_iff_eq.mpr rfl)]
theorem ExcT.selfC (a : ExcT K cE fI C) : PySem.W.kitCls K (.ref C) (.ref C) = some true := by
  unfold PySem.W.kitCls
  dsimp only
  rw [if_pos a.is, a.sub]
  congr 1
  simp
/-- it is caught as a TuneError -/
theorem ExcT.exm (a : ExcT K cE fI C) (b : ExcT K cE fI cE) : PySem.W.exmOne K (.ref C) (.ref cE) = some true := by
  refine PySem.W.exm_ref b.ox.exC b.xf.hdC b.ox.tyC ?_
  rw [a.sub]
  congr 1
  unfold chain
  by_cases c : C = cE
  · subst c; simp
  · rw [if_neg c]; simp
structure ExcF (K : PySem.W.Frag) (cE fI C : Addr) : Prop where
  cls : ∃ nm q N bs sn sub ab col dd k0 k1 k2 k3 k5, K.lookup C = some (excClassObj nm q C N bs (chain cE C) true sn sub ab col dd k0 k1 k2 k3 k5 "ValueError.__new__")
  sa : PySem.W.findIn K (.ref C) "__setattr__" = some (some (.builtin "object.__setattr__"))
  tyC : PySem.W.typeIn K (.ref C) = some (.type "type")
  kC : PySem.W.keepIn K (.ref C) = true
  ga : PySem.W.findIn K (.ref C) "__getattribute__" = some (some (.builtin "BaseException.__getattribute__"))
  gg : PySem.W.findIn K (.ref C) "__getattr__" = some none
  ha : PySem.W.findIn K (.ref C) "__class__" = some (some (.builtin "object.__class__"))
  ini : PySem.W.findIn K (.ref C) "__init__" = some (some (.ref fI))
  nv : PySem.W.findIn K (.ref C) "value" = some none
theorem excF_mk {nm q : Str} {N : Addr} {bs bm : List Value} {sn : List Str} {sub : List Value} {ab : Bool} {col : Option Bool} {dd : Option Addr} {k0 k1 k2 k3 k5 : Option Value}
    (xL : K.lookup C = some (excClassObj nm q C N bs bm true sn sub ab col dd k0 k1 k2 k3 k5 "ValueError.__new__")) (hb : bm = chain cE C)
    (sa : PySem.W.findIn K (.ref C) "__setattr__" = some (some (.builtin "object.__setattr__"))) (tyC : PySem.W.typeIn K (.ref C) = some (.type "type")) (kC : PySem.W.keepIn K (.ref C) = true)
    (ga : PySem.W.findIn K (.ref C) "__getattribute__" = some (some (.builtin "BaseException.__getattribute__"))) (gg : PySem.W.findIn K (.ref C) "__getattr__" = some none)
    (ha : PySem.W.findIn K (.ref C) "__class__" = some (some (.builtin "object.__class__"))) (ini : PySem.W.findIn K (.ref C) "__init__" = some (some (.ref fI))) (nv : PySem.W.findIn K (.ref C) "value" = some none) : ExcF K cE fI C :=
  ⟨⟨nm, q, N, bs, sn, sub, ab, col, dd, k0, k1, k2, k3, k5, hb ▸ xL⟩, sa, tyC, kC, ga, gg, ha, ini, nv⟩
theorem chain_has (cE C : Addr) (b : Value) (h : b ∈ ([.type "ValueError", .type "Exception", .type "BaseException", .type "object"] : List Value)) : (Value.ref C :: chain cE C).contains b = true := by
  rw [List.contains_iff_mem]
  exact List.mem_cons_of_mem _ (List.mem_append_right _ h)
theorem ExcF.all (a : ExcF K cE fI C) (zget : PySem.W.specialIn K (.builtin "object.__class__") "__get__" = some (some (.builtin "getset_descriptor.__get__"))) (ztk : PySem.W.takesIn K (.builtin "object.__class__") = some true) : ExcT K cE fI C := by
  obtain ⟨nm, q, N, bs, sn, sb, ab, col, dd, k0, k1, k2, k3, k5, xL⟩ := a.cls
  have cl : PySem.W.clsIn K C = some { name := nm, bases := bs, mro := Value.ref C :: chain cE C, ns := N, qualname := q, hasDict := true, slotNames := sn, subclasses := sb, abstract := ab, collection := col } := by
    unfold PySem.W.clsIn
    rw [xL]
  have sub : ∀ b, PySem.W.subIn K (.ref C) b = some ((Value.ref C :: chain cE C).contains b) := fun b => by
    unfold PySem.W.subIn
    dsimp only
    unfold PySem.W.mroIn
    rw [cl]
    rfl
  have hd : PySem.W.hasDictIn K C = true := by
    unfold PySem.W.hasDictIn
    rw [cl]
    rfl
  have be : PySem.W.subIn K (.ref C) (.type "BaseException") = some true := by rw [sub, chain_has cE C _ (by simp)]
  have ob : PySem.W.subIn K (.ref C) (.type "object") = some true := by rw [sub, chain_has cE C _ (by simp)]
  exact {
    ox := ⟨⟨nm, q, N, bs, _, sn, sb, ab, col, dd, k0, k1, k2, k3, k5, xL, by
      unfold chain
      by_cases c : C = cE
      · rw [if_pos c]
        decide +kernel
      · rw [if_neg c]
        rfl⟩, a.sa, be, a.tyC, a.kC⟩
    xf := ⟨a.ga, a.gg, be, hd⟩
    ec := ⟨a.ga, a.gg, be, hd, a.ha, zget, ztk, ob⟩
    ini := a.ini
    nv := a.nv
    sub := sub
    is := by rw [cl, a.tyC] <;> rfl }
end
theorem nd_at {l : List Addr} (h : l.Nodup) {i j : Nat} (hi : i < l.length) (hj : j < l.length) (e : l.getD i 0 = l.getD j 0) : i = j := by
  rw [List.getD_eq_getElem?_getD, List.getD_eq_getElem?_getD, List.getElem?_eq_getElem hi, List.getElem?_eq_getElem hj] at e
  have pw := List.pairwise_iff_getElem.mp h
  have e' : l[i] = l[j] := e
  rcases Nat.lt_trichotomy i j with c | c | c
  · exact absurd e' (pw i j hi hj c)
  · exact c
  · exact absurd e'.symm (pw j i hj hi c)
/-! ### heaps in which tables may have grown -/
theorem ExtN.same {H H' : Hp} (s : Same H H') : ExtN H H' := fun b o e _ => s b o e
theorem ExtN.seq {K : PySem.W.Frag} {H H' : Hp} {a : Addr} {xs : List V} (e : ExtN H H') (h : SqL K H a xs) : SqL K H' a xs := by
  rcases h with (h | ⟨o, h⟩) | h
  · exact .inl (.inl (e _ _ h fun ps z => by cases z))
  · exact .inl (.inr ⟨o, e _ _ h fun ps z => by cases z⟩)
  · exact .inr h
/-! ### the end of a law's row whose defs make lambdas -/
/-- the script and the empty tables are tracked -/
def seenT (a : Addr) (ob : Obj) (ns : List Int) (own : Bool) (ts : List Addr) : Hp := fun b => if own = false ∧ b = a then some (.frz ob (.lst (ns.map V.int))) else if b ∈ ts then some (.tbl #[]) else none
/-- .. or: each tracked thing is the script or a table -/
theorem seenT_is {a b : Addr} {ob : Obj} {ns : List Int} {own : Bool} {ts : List Addr} {u : HO} (h : seenT a ob ns own ts b = some u) : (own = false ∧ b = a ∧ u = .frz ob (.lst (ns.map V.int))) ∨ (b ∈ ts ∧ u = .tbl #[]) := by
  unfold seenT at h
  split at h
  · rename_i c
    cases h
    exact .inl ⟨c.1, c.2, rfl⟩
  · split at h
    · rename_i c
      cases h
      exact .inr ⟨c, rfl⟩
    · cases h
abbrev tab0 : Obj := { cls := .none, data := .fields #[] }
theorem run_lawT {P : Program} {w : World} {K : PySem.W.Frag} {mg mb : Str → Option Value} {k : Nat} {fa a : Addr} {fd : FuncData} {x : Str} {sp : Sp} {s : Shared} {vs : List Value} {ns : List Int} {cs : List (Addr × Addr)}
    (KX : K.In s.heap) (hns : s.heap.Ns mainGlobals mg) (hb : s.heap.Ns builtinsNs mb) (hbb : ∀ x : Str, x ≠ "__name__" → mb x = bootBuiltins x) (lim : s.heap.NoLimit) (hg : s.gens = #[])
    (bmain : ∃ (bm : Addr) (ob : Obj), mg "__builtins__" = some (.ref bm) ∧ bm ≠ builtinsNs ∧ s.heap.get? bm = some ob ∧ ob.cls = .type "module" ∧ ob.dict = some builtinsNs ∧ ob.data = .plain)
    (tabs : ∀ p ∈ cs, s.heap.get? p.2 = some tab0) (codes : ∀ p ∈ cs, PySem.W.CodeHd s.heap p.1 p.2) (noT : PySem.W.noTabs K = true)
    (ha : s.heap.get? a = some { cls := .type "list", data := .seq vs.toArray }) (hi : IntsAre vs ns) (hl : ns.length ≤ sizeLine) (hr : Room k callerA)
    (F : ∀ base : Heap, K.In base → base.Ns mainGlobals mg → (∀ p ∈ cs, TabB base mg p.1 p.2) → GOk P w K mg base CX0 k fa fd [x] sp) (bnd : ∀ (s : Shared) (u : Value), BindsTo s fd ⟨[u], []⟩ [(x, u)])
    (hsp : ∀ H : Hp, (∀ p ∈ cs, H p.2 = some (.tbl #[])) → SqL K H a (ns.map V.int) → sp [.ref a] H (fun v _ => v = .bl true) fun _ _ _ => False) :
    codeAny (model P w) callerA (.call (.ref fa) ⟨[.ref a], []⟩) (fun r s1 => r = .ok (.ret (.bool true)) ∧ OldK s.heap s1.heap ∧ s1.os = s.os ∧ AllBare s1.gens) s := by
  have rv := vals_ints hi
  let ob : Obj := { cls := .type "list", data := .seq vs.toArray }
  have aT : a ∉ cs.map (·.2) := fun z => by
    obtain ⟨p, hp, e⟩ := List.mem_map.mp z
    have := (tabs p hp).symm.trans (e ▸ ha)
    cases this
  have ofT : ∀ b ∈ cs.map (·.2), s.heap.get? b = some tab0 := fun b hb => by
    obtain ⟨p, hp, rfl⟩ := List.mem_map.mp hb
    exact tabs p hp
  have KT : ∀ b ∈ cs.map (·.2), K.lookup b = none := fun b hb => by
    cases q : K.lookup b with
    | none => rfl
    | some o =>
      have e := (KX b o q).symm.trans (ofT b hb)
      cases e
      exact absurd (List.all_eq_true.mp noT _ (PySem.W.mem_of_lookupK q)) Bool.false_ne_true
  obtain ⟨own, hown⟩ : ∃ own : Bool, own = (K.lookup a).isSome := ⟨_, rfl⟩
  generalize hH : seenT a ob ns own (cs.map (·.2)) = H
  have is : ∀ b u, H b = some u → (own = false ∧ b = a ∧ u = .frz ob (.lst (ns.map V.int))) ∨ (b ∈ cs.map (·.2) ∧ u = .tbl #[]) := fun b u e => seenT_is (hH ▸ e)
  have atT : ∀ b ∈ cs.map (·.2), H b = some (.tbl #[]) := fun b m => by
    rw [← hH]
    unfold seenT
    rw [if_neg (fun z : own = false ∧ b = a => aT (z.2 ▸ m)), if_pos m]
  have hS : SqL K H a (ns.map V.int) := by
    cases q : K.lookup a with
    | some o =>
      have e := (KX a o q).symm.trans ha
      cases e
      exact .inr ⟨_, vs.toArray, _, q, rfl, rfl, rfl, by rw [List.size_toArray, hi.length]; exact hl, by simpa using rv⟩
    | none =>
      rw [q] at hown
      refine .inl (.inr ⟨ob, ?_⟩)
      rw [← hH]
      unfold seenT
      rw [if_pos ⟨hown, rfl⟩]
  have hok : HOk P w H s.heap := fun b u e => by
    rcases is b u e with ⟨_, rfl, rfl⟩ | ⟨m, rfl⟩
    · exact ⟨ha, by rw [List.length_map]; exact hl, vs, _, rv, ha⟩
    · exact ofT b m
  -- what is neither a list nor an empty record is not tracked
  have free : ∀ {b : Addr} {o : Obj}, s.heap.get? b = some o → (∀ xs n, o.data ≠ .seq xs n) → o.data ≠ .fields #[] → H b = none := fun {b o} e d1 d2 => by
    cases q : H b with
    | none => rfl
    | some u =>
      rcases is b u q with ⟨_, rfl, _⟩ | ⟨m, _⟩
      · cases e.symm.trans ha
        exact absurd rfl (d1 _ _)
      · cases e.symm.trans (ofT b m)
        exact absurd rfl d2
  have nsB : ∀ {b : Addr} {m : Str → Option Value}, s.heap.Ns b m → (hidT s.heap H).Ns b m := fun {b m} ⟨o, es, ep, e, d, r⟩ =>
    ⟨o, es, ep, hidT_get e (free e (fun _ _ z => by rw [d] at z; cases z) fun z => by rw [d] at z; cases z), d, r⟩
  have inK : K.In (hidT s.heap H) := fun b o e => hidT_get (KX b o e) (by
    cases q : H b with
    | none => rfl
    | some u =>
      rcases is b u q with ⟨z, rfl, _⟩ | ⟨m, _⟩
      · rw [e] at hown
        rw [hown] at z
        cases z
      · rw [KT b m] at e
        cases e)
  have TB : ∀ p ∈ cs, TabB (hidT s.heap H) mg p.1 p.2 := fun p hp => by
    obtain ⟨o, us, file, tf, flags, tg, inF, text, tt, e1, c1, c2, c3, rest⟩ := codes p hp
    obtain ⟨bm, om, b1, b2, b3, b4, b5, b6⟩ := bmain
    obtain ⟨og, eg, pg, g1, g2, _⟩ := id hns
    have pm : bm ≠ p.2 := fun z => by
      have := b3.symm.trans (z ▸ tabs p hp)
      cases this
      cases b6
    have gm : bm ≠ mainGlobals := fun z => by
      rw [z] at b3
      cases b3.symm.trans g1
      cases b6.symm.trans g2
    refine ⟨⟨o, us, file, tf, flags, tg, inF, text, tt, hidT_get e1 (free e1 (fun _ _ z => by rw [c2] at z; cases z) fun z => ?_), c1, c2, c3, rest⟩, ⟨bm, om, b1, b2, gm, pm, hidT_get b3 (free b3 (fun _ _ z => by rw [b6] at z; cases z) fun z => by rw [b6] at z; cases z), b4, b5, b6⟩, fun z => ?_⟩
    · rw [c2] at z
      cases z
      simp at c3
    · have := g1.symm.trans (z ▸ tabs p hp)
      cases this
      cases g2
  obtain ⟨mc, l1, l2⟩ := lim
  have e0 : Env0 P w K mg (hidT s.heap H) callerA [] s H :=
    { frames := rfl, mod := ⟨inK, nsB hns, ⟨mb, nsB hb, hbb⟩, ⟨mc, nsB l1, l2⟩⟩, bs := fun b o e => of_hidT e, bsz := Nat.le_of_eq (hidT_size _ _), funs := trivial, frf := fun b z => absurd (show b ∈ ([] : List Addr) from z) List.not_mem_nil, hok := hok, bare := .of_eq hg }
  refine codeAny_mono ((F _ inK (nsB hns) TB).go callerA [] s H ⟨[.ref a], []⟩ [.ref a] [.ref a] _ _ rfl hr e0 (bnd s (.ref a)) (.cons rfl .nil) (hsp H (fun p hp => atT _ (List.mem_map.mpr ⟨p, hp, rfl⟩)) hS)) fun r s1 z => ?_
  match r, z with
  | .error e, z => exact z.elim
  | .ok .next, z => exact z.elim
  | .ok .brk, z => exact z.elim
  | .ok .cont, z => exact z.elim
  | .ok (.ret u), z =>
    obtain ⟨v, H1, os, bare, un, hok1, r1, q⟩ := z
    subst q
    obtain rfl : u = Value.bool true := r1
    have stay : ∀ b o, b ∉ cs.map (·.2) → s.heap.get? b = some o → s1.heap.get? b = some o := fun b o nb e => by
      cases q : H b with
      | none => exact un.keep b o e q (fun z => absurd (show b ∈ ([] : List Addr) from z) List.not_mem_nil) List.not_mem_nil
      | some u =>
        rcases is b u q with ⟨_, rfl, rfl⟩ | ⟨m, _⟩
        · obtain ⟨e1, _⟩ := hok _ _ q
          obtain ⟨e2, _⟩ := hok1 _ _ (un.frzs _ _ _ q)
          cases e.symm.trans e1
          exact e2
        · exact absurd m nb
    have grown : ∀ p ∈ cs, ∃ more : Array Value, s1.heap.get? p.2 = some { cls := .none, data := .fields more } := fun p hp => by
      obtain ⟨more, q⟩ := un.tbls p.2 #[] (atT _ (List.mem_map.mpr ⟨p, hp, rfl⟩))
      exact ⟨_, hok1 p.2 _ q⟩
    refine ⟨rfl, ⟨fun b o e => ?_, fun b o e => ?_⟩, os, bare⟩
    · by_cases m : b ∈ cs.map (·.2)
      · obtain ⟨p, hp, rfl⟩ := List.mem_map.mp m
        obtain ⟨more, q⟩ := grown p hp
        cases e.symm.trans (tabs p hp)
        exact .inr (.inl ⟨((codes p hp).tab (tabs p hp)).isCodeTable, rfl, #[], more, rfl, by rw [Array.empty_append]; exact q⟩)
      · exact .inl (stay b o m e)
    · by_cases m : b ∈ cs.map (·.2)
      · obtain ⟨p, hp, rfl⟩ := List.mem_map.mp m
        obtain ⟨more, q⟩ := grown p hp
        exact ⟨_, q⟩
      · exact ⟨o, stay b o m e⟩
/-- the def's code object and its table, by the top -/
theorem tab_at {p : Program} {h : Heap} {K : PySem.W.Frag} {mg : Str → Option Value} {x : Str} {f : Addr} {oc : Value} {od : Option Addr} {fd : FuncData} {sl : Array (Option Value)}
    (tab : ∀ d ∈ recsOf p, ∃ a o fd c P, mg d.name = some (.ref a) ∧ h.get? a = some o ∧ o.data = .func fd ∧ fd.code = .ref c ∧ h.IsCode c P #[] ∧ h.TableAt c P #[]) (X : K.In h) (hx : ((recsOf p).any fun d => d.name == x) = true) (hm : mg x = some (.ref f))
    (lk : K.lookup f = some ⟨oc, od, .func fd, sl⟩) : ∃ c P, fd.code = .ref c ∧ PySem.W.CodeHd h c P ∧ h.get? P = some tab0 := by
  obtain ⟨d, hd, e⟩ := List.any_eq_true.mp hx
  obtain rfl : d.name = x := beq_iff_eq.mp e
  obtain ⟨a, o, fd2, c, P, h1, h2, h3, h4, h5, h6⟩ := tab d hd
  cases hm.symm.trans h1
  cases h2.symm.trans (X _ _ lk)
  cases h3
  exact ⟨c, P, h4, PySem.W.CodeHd.of h5 h6, h6.2⟩
theorem walk_gT {l : PySem.W.OpenLaw} {n k : Nat} {q : Program} {loose : List Str} {XP : (Str → Option Value) → Heap → Prop} {YP : World → Heap → Prop} {d : DefRec} {K : Params → PySem.W.Frag} {x : Str}
    (hn : l.most = some n) (hn2 : n ≤ sizeLine) (hdf : d.params.defaults = []) (hr : Room k callerA) (hY : ∀ (w : World) (h : Heap), YP w h → (K w.params).In h) (noT : ∀ w : World, PySem.W.noTabs (K w.params) = true)
    (F : ∀ (w : World) (mg : Str → Option Value) (fa : Addr) (h : Heap), (K w.params).In h → h.Ns mainGlobals mg → mg d.name = some (.ref fa) →
      (∀ d ∈ recsOf q, ∃ a o fd c P, mg d.name = some (.ref a) ∧ h.get? a = some o ∧ o.data = .func fd ∧ fd.code = .ref c ∧ h.IsCode c P #[] ∧ h.TableAt c P #[]) →
      ∃ (fd : FuncData) (cs : List (Addr × Addr)) (sp : Sp), (∀ p ∈ cs, PySem.W.CodeHd h p.1 p.2 ∧ h.get? p.2 = some tab0) ∧ (∀ (s : Shared) (u : Value), BindsTo s fd ⟨[u], []⟩ [(x, u)]) ∧
        (∀ (H : Hp) (a : Addr) (ns : List Int), ns.length ≤ n → (∀ p ∈ cs, H p.2 = some (.tbl #[])) → SqL (K w.params) H a (ns.map V.int) → sp [.ref a] H (fun v _ => v = .bl true) fun _ _ _ => False) ∧
        ∀ base : Heap, (K w.params).In base → base.Ns mainGlobals mg → (∀ p ∈ cs, TabB base mg p.1 p.2) → GOk l.prog w (K w.params) mg base CX0 k fa fd [x] sp) :
    PySem.W.WalkO q loose XP YP l.row.toRowW d [] (fun f vs => PySem.call f vs) :=
  Att.attach_call hn hdf fun w s₀ s₁ mg mb fa o pm cd doc a vs ns G Y ho hd hcd hmg hobj hints hlen hg => by
    obtain ⟨fd, cs, sp, ht, hb, hsp, hF⟩ := F w mg fa _ (hY w _ Y) G.T.g hmg G.T.tab
    exact run_lawT (hY w _ Y) G.T.g G.T.b G.T.builtins G.T.nolimit hg G.T.bmain (fun p hp => (ht p hp).2) (fun p hp => (ht p hp).1) (noT w) hobj hints (Nat.le_trans hlen hn2) hr hF hb fun H hT hS => hsp H a ns hlen hT hS
end TT

set_option Elab.async false
set_option linter.all false
set_option maxRecDepth 100000
set_option maxHeartbeats 4000000
/-! list(range(a, b)) with ends of any size. -/
namespace TT
open PySem PySem.Spec PyProof.Rows L2
section
variable {prog : Program} {w : World} {A : Around} {E : Value → Shared → Prop} {s : Shared}
/-- the list at S takes what the range at r yields, by the iterator for great ends -/
theorem take_long {R : Result → Shared → Prop} {r S : Addr} {a b c : Int} {t u v : Tok} {n k0 : Nat} {res : Value} (hh : A.handled = none) (hr : IsRange s.heap r a b c t u v) (big : Builtin.Range.small a b c = false) (hn : Builtin.Range.rangeSize a b c = n) (hl : n ≤ 2 ^ 24)
    (hS : s.heap.get? S = some { cls := .type "list", data := .seq #[] k0 })
    (done : ∀ h' tk its k, (∀ x o, x ≠ S → s.heap.get? x = some o → h'.get? x = some o) → h'.get? S = some { cls := .type "list", dict := none, data := .seq its k, slots := #[] } → ItemsOf (fun i y => ∃ t, y = .int (a + i * c) t) its n → R (.ok (.ret res)) { s with heap := h', toks := tk }) :
    wpAny (model prog w) A.in1 (Builtin.List.listExtendWith (.ref S) (.ref r) res)
      (fun fin s1 => match fin with | .done f => R (.ok f) s1 | .again c1 => c1.quiet = true ∧ codeAny (model prog w) A c1 R s1) (fun e s1 => R (.error e) s1) s := by
  have apart : S ≠ r := by
    rintro rfl
    have z := congrArg (fun o => o.map Obj.cls) (hr.symm.trans hS)
    simp at z
  have below : S < s.heap.objs.size := Heap.lt_size hS
  have notI : S ≠ s.heap.objs.size := Nat.ne_of_lt below
  have walk := (Walks.longrange (prog := prog) (w := w) (A := A.in1) hh s.heap.objs.size a c n).toS
  have loop : ∀ (h : Heap) (k tk : Nat), IsLongIter h s.heap.objs.size (a + ((0 : Nat) : Int) * c) ((n : Int) - ((0 : Nat) : Int)) c → (∀ x o, x ≠ S → s.heap.get? x = some o → h.get? x = some o) →
      h.get? S = some { cls := .type "list", data := .seq #[] k } → codeAny (model prog w) A (.builtin "list.extend.loop" ⟨[.ref S, .ref s.heap.objs.size, res], []⟩) R { s with heap := h, toks := tk } := fun h k tk it old atS => by
    refine codeAny_extend_loopS walk (by rw [sizeLine_eq]; omega) S (fun m => notI (List.mem_singleton.mp m)) res n 0 _ #[] k rfl (Nat.zero_le _) it atS (ItemsOf.nil _) fun s1 its k1 mv at1 all => ?_
    rw [Moved.eq_with mv]
    refine done s1.heap s1.toks its k1 (fun x o nx e => mv.heap x o (fun m => ?_) (old x o nx e)) at1 all
    rcases List.mem_cons.mp m with z | z
    · exact nx z
    · have lt := Heap.lt_size e
      rw [List.mem_singleton.mp z] at lt
      exact Nat.lt_irrefl _ lt
  have n1 : Builtin.List.listSameRef (.ref S) (.ref r) = false := by simp [Builtin.List.listSameRef, apart]
  have n2 : (Value.type "range" == Value.type "list") = false := by decide
  have n3 : (Value.type "range" == Value.type "tuple") = false := by decide
  unfold Builtin.List.listExtendWith
  refine wpAny_bind (wpAny_typeOf (T := "range") ⟨_, hr, rfl⟩ ?_)
  simp only [n1, n2, n3, Bool.or_false, Bool.false_eq_true, if_false]
  refine wpAny_bind (wpAny_pyIter_longrange hr big (wpAny_bind (wpAny_holding (wpAny_hint_range (n := n) (Heap.get?_push_of_some _ hr) hn hl ?_))))
  have it1 : IsLongIter (s.heap.push { cls := .type "longrange_iterator", data := .fields #[rawInt a, rawInt (Builtin.Range.rangeSize a b c), rawInt c] }) s.heap.objs.size (a + ((0 : Nat) : Int) * c) ((n : Int) - ((0 : Nat) : Int)) c := by
    rw [hn]
    simpa using Heap.get?_push_size _ rfl
  have S1 := Heap.get?_push_of_some { cls := .type "longrange_iterator", data := .fields #[rawInt a, rawInt (Builtin.Range.rangeSize a b c), rawInt c] } hS
  refine wpAny_ite_split (fun _ => ?_) (fun _ => wpAny_pure ⟨plainId_quiet F.plain_extend_loop _, loop _ k0 _ it1 (fun _ _ _ e => Heap.get?_push_of_some _ e) S1⟩)
  refine wpAny_bind (wpAny_rule (wpAny_bind ?_))
  show wpAny _ _ (updateSeq S (·.push .none) >>= fun _ => updateSeq S (·.pop)) _ _ _
  have S2 := Heap.get?_update_self (Obj.mapSeq (·.push Value.none)) S1 rfl
  refine wpAny_bind (wpAny_updateSeq S1 rfl (wpAny_updateSeq (hz := by seq_fits) S2 rfl ?_))
  have S3 := Heap.get?_update_self (Obj.mapSeq (·.pop)) S2 rfl
  refine wpAny_pure ⟨plainId_quiet F.plain_extend_loop _, loop _ _ _ ?_ (fun x o nx e => ?_) S3⟩
  · exact (Heap.get?_update_other _ _ notI).trans ((Heap.get?_update_other _ _ notI).trans it1)
  · exact (Heap.get?_update_other _ _ (Ne.symm nx)).trans ((Heap.get?_update_other _ _ (Ne.symm nx)).trans (Heap.get?_push_of_some _ e))
theorem list_long {Q : Value → Shared → Prop} {r : Addr} {a b c : Int} {t u v : Tok} {n : Nat} (hh : A.handled = none) (hr : IsRange s.heap r a b c t u v) (big : Builtin.Range.small a b c = false) (hn : Builtin.Range.rangeSize a b c = n) (hl : n ≤ 2 ^ 24)
    (done : ∀ h' tk its k, (∀ x o, s.heap.get? x = some o → h'.get? x = some o) → h'.get? s.heap.objs.size = some { cls := .type "list", dict := none, data := .seq its k, slots := #[] } → ItemsOf (fun i y => ∃ t, y = .int (a + i * c) t) its n → Q (.ref s.heap.objs.size) { s with heap := h', toks := tk }) :
    wpAny (model prog w) A (call (.type "list") [.ref r]) Q E s := by
  refine callType_codes (Q₁ := fun obj s1 => obj = .ref s.heap.objs.size ∧ s1 = { s with heap := s.heap.push { cls := .type "list", data := .seq #[] } }) F.called_list (F.typeCall_list_1 _) F.entry_list_init (code_list_new _ ⟨rfl, rfl⟩) fun obj s1 ⟨e1, e2⟩ => ?_
  subst e1 e2
  have S0 : (s.heap.push { cls := .type "list", data := .seq #[] }).get? s.heap.objs.size = some { cls := .type "list", data := .seq #[] } := Heap.get?_push_size _ rfl
  have r0 := Heap.get?_push_of_some { cls := .type "list", data := .seq #[] } hr
  refine ⟨⟨_, S0, rfl⟩, F.args_list_init_2 _ _, ?_⟩
  have apart : r ≠ s.heap.objs.size := Nat.ne_of_lt (Heap.lt_size hr)
  show wpAny _ _ (do let old ← Builtin.List.listItems (.ref s.heap.objs.size); Builtin.List.listUpdate (.ref s.heap.objs.size) (fun _ => #[]); letGo old.toList.reverse; Builtin.List.listExtendWith (.ref s.heap.objs.size) (.ref r) .none) _ _ _
  refine wpAny_bind ?_
  unfold Builtin.List.listItems
  refine wpAny_bind (wpAny_seqItems S0 rfl (wpAny_pure ?_))
  show wpAny _ _ (updateSeq s.heap.objs.size (fun _ => #[]) >>= fun _ => letGo (#[] : Array Value).toList.reverse >>= fun _ => Builtin.List.listExtendWith (.ref s.heap.objs.size) (.ref r) .none) _ _ _
  refine wpAny_bind (wpAny_updateSeq S0 rfl (wpAny_bind (wpAny_letGo ?_)))
  have off : ∀ {x : Addr} {f : Obj → Obj}, x ≠ s.heap.objs.size → ((s.heap.push { cls := .type "list", data := .seq #[] }).update s.heap.objs.size f).get? x = (s.heap.push { cls := .type "list", data := .seq #[] }).get? x := fun nx => Heap.get?_update_other _ _ (Ne.symm nx)
  refine take_long (A := A.in1) (s := { s with heap := (s.heap.push { cls := .type "list", data := .seq #[] }).update s.heap.objs.size (Obj.mapSeq (fun _ => (#[] : Array Value))) }) (S := s.heap.objs.size) hh ((off apart).trans r0) big hn hl (Heap.get?_update_self (Obj.mapSeq (fun _ => (#[] : Array Value))) S0 rfl) fun h' tk its k old at1 all => ?_
  refine ⟨rfl, done h' tk its k (fun x o e => ?_) at1 all⟩
  have nx := Nat.ne_of_lt (Heap.lt_size e)
  exact old x o nx ((off nx).trans (Heap.get?_push_of_some _ e))
end
section
variable {X : Cx} {e : Expr} {te : L2.St → Hp → (Int → Int → Hp → Prop) → Prop}
def tLstRgW (te : L2.St → Hp → (Int → Int → Hp → Prop) → Prop) : TE := fun σ H Q => te σ H fun a b H1 => (b - a).toNat ≤ 2 ^ 24 ∧ ∀ q, H1 q = none → Q (.ref q) (upd H1 q (.lst (rgV a b)))
theorem pe_listRgW {p pos : Pos} (hc : X.calm = true) (hg : Gl X "list") (hm : X.mg "list" = none) (he : PRg X e te) (na : starEach [e] X.env = (false, eval e X.env) :: starEach [] X.env := by rfl) : PE X (.Call (.Name "list" p) [e] [] pos) (tLstRgW te) := by
  constructor
  intro pins s σ H Q I h
  refine Call_ (ld_blt I hg hm boot_list (PyProof.Rows.callWith_type1 (args_cons (thn (he pins s σ H _ I h) fun x s1 ⟨r, a, b, t, u, v, H1, ex, hr, I1, ok, q⟩ => args_nil ?_) na) na))
  subst ex
  have fin : ∀ h' tk its k, (∀ x o, s1.heap.get? x = some o → h'.get? x = some o) → h'.get? s1.heap.objs.size = some { cls := .type "list", dict := none, data := .seq its k, slots := #[] } → ItemsOf (fun i y => ∃ t, y = .int (a + i * 1) t) its (b - a).toNat →
      EP X pins σ Q (.ref s1.heap.objs.size) { s1 with heap := h', toks := tk } := fun h' tk its k old at1 all => by
    refine ⟨.ref s1.heap.objs.size, upd H1 s1.heap.objs.size (.lst (rgV a b)), I1.laid old (Nat.le_refl _) (show ObjOk X.prog X.w _ _ _ (.lst (rgV a b)) from ⟨?_, its.toList, k, vals_rg all, ?_⟩), rfl, q _ (I1.hok.fresh (Nat.le_refl _))⟩
    · rw [rgV_length, sizeLine_eq]
      omega
    · rw [Array.toArray_toList]
      exact at1
  by_cases sm : Builtin.Range.small a b 1 = true
  · exact call_list_range (I1.ok.hd hc) hr sm (rangeSize_nat a b) ok fin
  · exact list_long (I1.ok.hd hc) hr (by simpa using sm) (rangeSize_nat a b) ok fin
end
end TT

set_option Elab.async false
set_option linter.all false
set_option maxRecDepth 100000
set_option maxHeartbeats 4000000
/-! An own operation of two things of one own class. -/
namespace TT
open PySem PySem.Spec PyProof.Rows L2 LamX
/-- x op y, both instances of the class at C; what comes out is a thing -/
def rBinO (C : Addr) (sp : Sp) (E : XK) : R2 := fun x y H Q => ∃ a b, x = V.ref a ∧ y = V.ref b ∧ (∃ dx fs, H a = some (.ins C dx fs)) ∧ (∃ dx fs, H b = some (.ins C dx fs)) ∧ sp [.ref a, .ref b] H (fun v H' => (∃ c, v = V.ref c) ∧ Q v H') E
section
variable {X : Cx} {CX : CXT} {k : Nat} {f C : Addr} {fd : FuncData} {ps : List Str} {sp : Sp} {E : XK}
theorem op_binO {op : Operator} (F : FnOk X.prog X.w X.K X.mg X.base CX k f fd ps sp) (hr : Room k X.A) (hb : Binds X.K fd ps []) (hx : Passes CX X E) (hc : PySem.W.selfFirst X.K C = true)
    (hs : PySem.W.findIn X.K (.ref C) (PySem.dunder op.info.2) = some (some (.ref f))) (hf : PySem.W.isFn X.K (.ref f) = true) : OpR X (binaryOp op) (rBinO C sp E) := by
  intro pins s σ H x y v u Q I rx ry h
  obtain ⟨a, b, rfl, rfl, ⟨dx, fs, ha⟩, ⟨dy, gs, hb'⟩, hq⟩ := h
  obtain rfl : v = Value.ref a := rx
  obtain rfl : u = Value.ref b := ry
  obtain ⟨mA, O, _⟩ := ins_get I.hok ha
  obtain ⟨od, J, _⟩ := O.look
  obtain ⟨mB, O', _⟩ := ins_get I.hok hb'
  obtain ⟨od', J', _⟩ := O'.look
  obtain ⟨m, hF⟩ := I.fr
  refine PySem.W.binop_K hF I.ok.mod.kin J J'.type hc hs hf (wpAny_mono (run_fn (us := [.ref a, .ref b]) (vs := [.ref a, .ref b]) (dvs := []) (ds := []) F hr hb .nil hx I (.cons rfl (.cons rfl .nil)) hq) (fun v' s' z => ?_) fun _ _ z => z)
  obtain ⟨w', H', I', r', ⟨c, rfl⟩, q⟩ := z
  obtain rfl : v' = Value.ref c := r'
  exact ⟨.ref c, H', I', rfl, q⟩
end
end TT

set_option Elab.async false
set_option linter.all false
set_option maxRecDepth 100000
set_option maxHeartbeats 4000000
/-! max of a tuple of two ints; != of a list and []. -/
namespace TT
open PySem PySem.Spec PyProof.Rows L2 LamX
section
variable {X : Cx}
def rNeNil (K : PySem.W.Frag) : R2 := fun x y H Q => ∃ a b xs, x = .ref a ∧ y = .ref b ∧ SqL K H a xs ∧ SqL K H b [] ∧ Q (.bl (!xs.isEmpty)) H
theorem op_neNil (hu : X.A.units < cLine) : OpR X (compareOp .NotEq) (rNeNil X.K) := by
  intro pins s σ H x y v u Q I rx ry h
  obtain ⟨a, b, xs, rfl, rfl, ha, hb, q⟩ := h
  obtain rfl : v = Value.ref a := rx
  obtain rfl : u = Value.ref b := ry
  obtain ⟨its, rv, hl, _⟩ := I.list ha
  obtain ⟨its2, rv2, hl2, _⟩ := I.list hb
  cases rv2
  show wpAny (model X.prog X.w) X.A (richCompare .NotEq (.ref a) (.ref b)) (EP X pins σ Q) X.xe s
  cases rv with
  | nil => exact SeqAt.RcNeAt.lists (e := fun _ => true) hl.isList hl2.isList rfl hu (fun j h1 _ => absurd h1 (by simp)) X.prog X.w X.xe _ ⟨.bl false, H, I, rfl, q⟩
  | cons r rs => exact SeqAt.RcNeAt.lists_lengths hl.isList hl2.isList (by simp) hu X.prog X.w X.xe _ ⟨.bl true, H, I, rfl, q⟩
def rMaxT2 (K : PySem.W.Frag) : List V → Hp → VK → Prop := fun vs H Q => ∃ (a : Addr) (i j : Int), vs = [V.ref a] ∧ SqT K H a [.int i, .int j] ∧ Q (.int (if j > i then j else i)) H
theorem cr_maxT2 (hc : X.calm = true) (hu : X.A.units + 64 < cLine) : CallR X (.builtin "max") (rMaxT2 X.K) := by
  intro pins s σ H vs us Q I r h
  obtain ⟨a, i, j, rfl, hs, q⟩ := h
  obtain ⟨its, rv, ht, _⟩ := I.tuple hs
  rw [Vals.ref1 r]
  cases rv with
  | cons r1 rs =>
    cases rs with
    | cons r2 r3 =>
      cases r3
      obtain ⟨t, rfl⟩ := r1
      obtain ⟨t', rfl⟩ := r2
      refine PySem.W.max_tuple_data (x := .int i) (xs := [.int j]) (I.ok.hd hc) ht (.cons (.int i t) (.cons (.int j t') .nil)) ?_ ?_ fun k v h' tk bs hv hr hk => ?_
      · refine ⟨fun x hx y hy => ?_, fun x hx => ?_⟩
        · simp only [List.mem_cons, List.not_mem_nil, or_false] at hx hy
          rcases hx with rfl | rfl <;> rcases hy with rfl | rfl <;> simp [PySem.W.alike]
        · simp only [List.mem_cons, List.not_mem_nil, or_false] at hx
          rcases hx with rfl | rfl <;> simp
      · simp only [PyData.depthAll, PyData.depth]
        omega
      · have e : PySem.W.maxD (.int i) [.int j] = .int (if j > i then j else i) := by
          have := PySem.W.maxD_ints i [j]
          simp only [List.map_cons, List.map_nil, List.foldl_cons, List.foldl_nil] at this
          rw [this]
          congr 1
          rw [Int.max_def]
          split <;> split <;> omega
        rw [e] at hr
        cases hr with
        | int z t => exact ⟨.int _, H, I.kept hk, ⟨_, rfl⟩, q⟩
end
end TT

set_option Elab.async false
set_option linter.all false
set_option maxRecDepth 100000
set_option maxHeartbeats 400000
/-! own ==, with either answer, of a thing and another one or a tuple; != by way of it. -/
namespace TT
open PySem PySem.Spec PyProof.Rows PySem.SeqAt
section
variable {M : Model} {prog : Program} {w : World} {A : Around} {E : Value → Shared → Prop} {s : Shared} {K : PySem.W.Frag} {x C f L : Addr} {ox : Obj} {od : Option Obj} {b tb : Value} {h₀ : Heap} {m : Str → Option Value}
theorem entry_ne {Q : Fin → Shared → Prop} (hu : A.units < cLine) (X : K.In s.heap) (I : PySem.W.InstAt s.heap x ox C od) (hs : PySem.W.findIn K (.ref C) "__eq__" = some (some (.ref f))) (hf : PySem.W.isFn K (.ref f) = true)
    (h : wpAny M A (call (.ref f) [.ref x, b]) (fun v s' => ∃ k, v = .bool k ∧ Q (.done (.ret (.bool (!k)))) s') E s) : wpAny M A (Builtin.«object.__ne__» ⟨[.ref x, b], []⟩) Q E s := by
  unfold Builtin.«object.__ne__»
  repeat (first | with_reducible refine wpAny_cRoomFor hu ?_ | (with_reducible refine PySem.W.ifBound_K X I hs hf (wpAny_mono h (fun v s' z => ?_) fun _ _ e => e); obtain ⟨k, rfl, q⟩ := z) | wp_step)
  exact q
theorem call_objNe {Q : Value → Shared → Prop} (hu : A.units + 1 < cLine) (X : K.In s.heap) (I : PySem.W.InstAt s.heap x ox C od) (hm : PySem.W.mroIn K C (.type "object") = some true) (hs : PySem.W.findIn K (.ref C) "__eq__" = some (some (.ref f))) (hf : PySem.W.isFn K (.ref f) = true)
    (h : wpAny (model prog w) A.in1 (call (.ref f) [.ref x, b]) (fun v s' => ∃ k, v = .bool k ∧ Q (.bool (!k)) s') E s) :
    wpAny (model prog w) A (call (.builtin "object.__ne__") [.ref x, b]) Q E s :=
  wpAny_call (codeAny_call_builtin F.cmp_object.ne.plain F.cmpEntry_ne (PySem.W.check_slot F.cmpKind_ne F.cmpSplit_ne (I.type.andThen (PySem.W.looks_mroIn X hm)) (F.cmpArgs_ne _ _)
    (entry_ne (A := A.in1) hu X I hs hf (wpAny_mono h (fun v s' z => z) fun _ _ e => e))))
theorem ifBound_objNe {args : List Value} {Q : Option Value → Shared → Prop} (X : K.In s.heap) (I : PySem.W.InstAt s.heap x ox C od) (hs : PySem.W.findIn K (.ref C) "__ne__" = some (some (.builtin "object.__ne__")))
    (h : wpAny M A (call (.builtin "object.__ne__") (.ref x :: args)) (fun v => Q (some v)) E s) : wpAny M A (callSpecialIfBound? (.ref x) "__ne__" args) Q E s := by
  simp only [callSpecialIfBound?, bindSpecialIfBound?]
  refine wpAny_holding (wpAny_bind (wpAny_bind (wpAny_bind (I.type.here ((PySem.W.looks_findIn X hs).here ?_)))))
  refine wpAny_bind (wpAny_askSetting (wpAny_ite ?_))
  have fin : wpAny M A (call (.builtin "object.__ne__") ([.ref x] ++ args) >>= fun v => pure (some v)) Q E s := wpAny_bind (wpAny_mono h (fun v s' h' => wpAny_pure h') fun _ _ h' => h')
  split
  · exact wpAny_bind (wpAny_of_eq (F.cmp_object.ne.bind _) (wpAny_pure (by exact fin)))
  · exact wpAny_tryCatch (wpAny_bind (wpAny_of_eq (F.cmp_object.ne.bind _) (wpAny_pure (by exact fin))))
/-- x != b, the class of x having an own == and no own != -/
theorem ne_K {Q : Value → Shared → Prop} (hu : A.units + 1 < cLine) (X : K.In s.heap) (I : PySem.W.InstAt s.heap x ox C od) (hb : PySem.W.Looks (model prog w) s.heap (typeOf b) tb) (hn : PySem.W.notFirst K C tb = true)
    (hm : PySem.W.mroIn K C (.type "object") = some true) (hne : PySem.W.findIn K (.ref C) "__ne__" = some (some (.builtin "object.__ne__"))) (hs : PySem.W.findIn K (.ref C) "__eq__" = some (some (.ref f))) (hf : PySem.W.isFn K (.ref f) = true)
    (h : wpAny (model prog w) A.in1 (call (.ref f) [.ref x, b]) (fun v s' => ∃ k, v = .bool k ∧ Q (.bool (!k)) s') E s) : wpAny (model prog w) A (richCompare .NotEq (.ref x) b) Q E s := by
  have one : wpAny (model prog w) A (tryCompare (.ref x) "__ne__" b) (fun r s' => ∃ v, r = some v ∧ Q v s') E s := by
    unfold tryCompare
    refine wpAny_bind (ifBound_objNe X I hne (wpAny_mono (call_objNe (Q := fun v s' => ∃ k, v = .bool k ∧ Q v s') hu X I hm hs hf (wpAny_mono h (fun v s' ⟨k, e, q⟩ => ⟨k, e, _, rfl, q⟩) fun _ _ e => e)) (fun v s' z => ?_) fun _ _ e => e))
    obtain ⟨k, rfl, q⟩ := z
    exact wpAny_pure ⟨_, rfl, q⟩
  unfold richCompare
  simp only [oneThing_ref]
  refine wpAny_holding (wpAny_bind (wpAny_cRoomFor (by omega) ?_))
  refine wpAny_bind (I.type.here (wpAny_bind (hb.here ?_)))
  split
  · rename_i q
    have e : PySem.W.subIn K tb (.ref C) = some false := by
      rcases Bool.or_eq_true_iff.mp hn with e | e
      · rw [beq_iff_eq.mp e] at q; simp at q
      · exact beq_iff_eq.mp e
    refine wpAny_bind ((PySem.W.looks_subIn X e).here ?_)
    simp only [Bool.false_eq_true, if_false]
    refine wpAny_bind (wpAny_mono one (fun r s' z => ?_) fun _ _ e => e)
    obtain ⟨v, rfl, hq⟩ := z
    exact wpAny_pure hq
  · refine wpAny_bind (wpAny_pure ?_)
    simp only [Bool.false_eq_true, if_false]
    refine wpAny_bind (wpAny_mono one (fun r s' z => ?_) fun _ _ e => e)
    obtain ⟨v, rfl, hq⟩ := z
    exact wpAny_pure hq
end
open L2 LamX
/-- y is an instance of the class at C, or a tuple -/
inductive Oth (C : Addr) (H : Hp) : V → Prop
  | ins {b dy : Addr} {gs : List (Str × V)} (h : H b = some (.ins C dy gs)) : Oth C H (.ref b)
  | tup {b : Addr} {xs : List V} (h : H b = some (.tup xs)) : Oth C H (.ref b)
/-- x == y by the own __eq__, which answers by a bool -/
def rEqO (C : Addr) (sp : Sp) (E : XK) : R2 := fun x y H Q => ∃ a dx fs, x = V.ref a ∧ H a = some (.ins C dx fs) ∧ Oth C H y ∧ sp [.ref a, y] H (fun v H' => (∃ b, v = V.bl b) ∧ Q v H') E
def rNeO (C : Addr) (sp : Sp) (E : XK) : R2 := fun x y H Q => ∃ a dx fs, x = V.ref a ∧ H a = some (.ins C dx fs) ∧ Oth C H y ∧ sp [.ref a, y] H (fun v H' => ∃ b, v = V.bl b ∧ Q (.bl (!b)) H') E
section
variable {X : Cx} {CX : CXT} {k : Nat} {f C : Addr} {fd : FuncData} {ps : List Str} {sp : Sp} {E : XK}
theorem oth_type {pins : List (Addr × Obj)} {σ : L2.St} {H : Hp} {s : Shared} {M : Model} (I : Inv X pins σ H s) {y : V} {u : Value} (ry : RelV y u) (o : Oth C H y) (ht : PySem.W.notFirst X.K C (.type "tuple") = true) :
    ∃ tb, PySem.W.Looks M s.heap (typeOf u) tb ∧ PySem.W.notFirst X.K C tb = true := by
  cases o with
  | @ins b dy gs h =>
    obtain rfl : u = Value.ref b := ry
    obtain ⟨mB, O, _⟩ := ins_get I.hok h
    obtain ⟨od, J, _⟩ := O.look
    exact ⟨_, J.type, by simp [PySem.W.notFirst]⟩
  | @tup b xs h =>
    obtain rfl : u = Value.ref b := ry
    obtain ⟨its, _, ⟨o, ho, hc, _⟩, _⟩ := I.tuple (SqT.of h)
    exact ⟨_, hc ▸ (PySem.W.Looks.ld ho).andThen .now, ht⟩
theorem op_eqO (F : FnOk X.prog X.w X.K X.mg X.base CX k f fd ps sp) (hr : Room k X.A) (hb : Binds X.K fd ps []) (hx : Passes CX X E) (ht : PySem.W.notFirst X.K C (.type "tuple") = true)
    (hs : PySem.W.findIn X.K (.ref C) "__eq__" = some (some (.ref f))) (hf : PySem.W.isFn X.K (.ref f) = true) : OpR X (compareOp .Eq) (rEqO C sp E) := by
  intro pins s σ H x y v u Q I rx ry h
  obtain ⟨a, dx, fs, rfl, ha, o, hq⟩ := h
  obtain rfl : v = Value.ref a := rx
  obtain ⟨mA, O, _⟩ := ins_get I.hok ha
  obtain ⟨od, J, _⟩ := O.look
  obtain ⟨m, hF⟩ := I.fr
  obtain ⟨tb, lt, hn⟩ := oth_type (M := model X.prog X.w) I ry o ht
  show wpAny (model X.prog X.w) X.A (richCompare .Eq (.ref a) u) (EP X pins σ Q) X.xe s
  refine PySem.W.cmp_K (op := .Eq) hr.units0 hF I.ok.mod.kin J lt hn hs hf (wpAny_mono (run_fn (us := [.ref a, u]) (vs := [.ref a, y]) (dvs := []) (ds := []) F hr hb .nil hx I (.cons rfl (.cons ry .nil)) hq) (fun v' s' z => ?_) fun _ _ z => z)
  obtain ⟨w', H', I', r', ⟨c, rfl⟩, q⟩ := z
  obtain rfl : v' = Value.bool c := r'
  exact ⟨.bl c, H', I', rfl, q⟩
theorem op_neO (F : FnOk X.prog X.w X.K X.mg X.base CX k f fd ps sp) (hr : Room k X.A.in1) (hu : X.A.units + 64 < cLine) (hb : Binds X.K fd ps []) (hx : Passes CX X E) (ht : PySem.W.notFirst X.K C (.type "tuple") = true)
    (hm : PySem.W.mroIn X.K C (.type "object") = some true) (hne : PySem.W.findIn X.K (.ref C) "__ne__" = some (some (.builtin "object.__ne__")))
    (hs : PySem.W.findIn X.K (.ref C) "__eq__" = some (some (.ref f))) (hf : PySem.W.isFn X.K (.ref f) = true) : OpR X (compareOp .NotEq) (rNeO C sp E) := by
  intro pins s σ H x y v u Q I rx ry h
  obtain ⟨a, dx, fs, rfl, ha, o, hq⟩ := h
  obtain rfl : v = Value.ref a := rx
  obtain ⟨mA, O, _⟩ := ins_get I.hok ha
  obtain ⟨od, J, _⟩ := O.look
  obtain ⟨tb, lt, hn⟩ := oth_type (M := model X.prog X.w) I ry o ht
  show wpAny (model X.prog X.w) X.A (richCompare .NotEq (.ref a) u) (EP X pins σ Q) X.xe s
  refine ne_K (by omega) I.kIn J lt hn hm hne hs hf ?_
  have e0 : Env0 X.prog X.w X.K X.mg X.base X.A.in1 X.stack s H := by
    have e := I.env0
    exact ⟨e.frames, e.mod, e.bs, e.bsz, e.funs, e.frf, e.hok, e.bare⟩
  have hl := F.len _ _ _ _ hq
  have r2 : Vals [V.ref a, y] [Value.ref a, u] := .cons rfl (.cons ry .nil)
  refine wpAny_call (codeAny_mono (F.run X.A.in1 X.stack s H ⟨[.ref a, u], []⟩ [.ref a, u] [.ref a, y] _ E hr e0 (by
    have := hb s [.ref a, u] I.kIn (by simpa using hl)
    simpa using this) r2 hq) fun r s' hq => ?_)
  cases r with
  | error e => exact hx pins σ H s e s' I hq
  | ok fl =>
    cases fl with
    | ret w =>
      obtain ⟨z, H', I', rz, ⟨c, ez, q⟩⟩ := I.after hq
      subst ez
      obtain rfl : w = Value.bool c := rz
      exact ⟨c, rfl, .bl (!c), H', I', rfl, q⟩
    | next => exact False.elim hq
    | brk => exact False.elim hq
    | cont => exact False.elim hq
end
end TT

set_option Elab.async false
set_option linter.all false
set_option maxRecDepth 100000
set_option maxHeartbeats 4000000
/-! An own operation whose right side is any value of a built-in type. -/
namespace TT
open PySem PySem.Spec PyProof.Rows
section
variable {pr : Program} {wd : World} {ar : Around} {er : Value → Shared → Prop} {st : Shared} {K : PySem.W.Frag} {x C L f : Addr} {ob : Obj} {xd : Option Obj} {y : Value} {T : String} {hb : Heap} {mm : Str → Option Value}
theorem own_op {op : Operator} {fo ro : Option Value} {Q : Value → Shared → Prop} (F : Fr hb L st.heap mm) (KI : K.In hb) (J : PySem.W.InstAt st.heap x ob C xd) (ty : PySem.W.Looks (model pr wd) st.heap (typeOf y) (.type T)) (first : PySem.W.selfFirst K C = true)
    (own : PySem.W.findIn K (.ref C) (PySem.dunder op.info.2) = some (some (.ref f))) (fn : PySem.W.isFn K (.ref f) = true) (noR : PySem.W.findIn K (.ref C) (dunderR op.info.2) = some none)
    (left : PySem.W.findIn K (.type T) (PySem.dunder op.info.2) = some fo) (right : PySem.W.findIn K (.type T) (dunderR op.info.2) = some ro) (apart : PySem.W.subIn K (.type T) (.ref C) = some false)
    (go : wpAny (model pr wd) ar (call (.ref f) [.ref x, y]) (PySem.W.CmpBack Q) er st) : wpAny (model pr wd) ar (binaryOp op (.ref x) y) Q er st := by
  have KS := KI.keeps F.keep
  obtain ⟨cd, mr, c1, c2⟩ := PySem.W.ksp_first first
  rcases ei : op.info with ⟨sym, nm⟩
  rw [ei] at own noR left right
  dsimp only at own noR left right
  have try1 := PySem.W.ksp_try KS J own fn go
  obtain ⟨hp, g, d, tk, os⟩ := st
  have l1 : PySem.W.Looks (model pr wd) hp (typeOf (.ref x)) (.ref C) := J.type
  have l2 : PySem.W.Looks (model pr wd) hp (typeOf y) (.type T) := ty
  have l3 : PySem.W.Looks (model pr wd) hp (fillsNumberSlot (.ref C) nm) true := PySem.W.fills_K KS c1 c2 own
  have l4 : PySem.W.Looks (model pr wd) hp (fillsNumberSlot (.type T) nm) _ := PySem.W.ksp_fillsT KS left right
  have l5 : PySem.W.Looks (model pr wd) hp (isSubtype (.type T) (.ref C)) false := PySem.W.looks_subIn KS apart
  have l6 : PySem.W.Looks (model pr wd) hp (numberSlotInPython (.ref C) nm) true := PySem.W.ksp_inPy KS own noR (.inl rfl)
  have l7 : PySem.W.Looks (model pr wd) hp (numberSlotInPython (.type T) nm) false := PySem.W.Looks.of_pure rfl
  have l8 : PySem.W.Looks (model pr wd) hp (typeLookup (.type T) (dunderR nm)) ro := PySem.W.looks_findIn KS right
  generalize ((fo.isSome && !isSeqSlot fo) || (ro.isSome && !isSeqSlot ro)) = rs at l4
  have ne : (Value.ref C == Value.type T) = false := Bool.eq_false_iff.mpr fun z => by cases beq_iff_eq.mp z
  simp only [binaryOp, ei]
  refine wpAny_holding (wpAny_bind ?_)
  unfold binaryOp1
  refine wpAny_bind (l1.at (wpAny_bind (l2.at (wpAny_bind (l3.at ?_)))))
  simp only [ne, Bool.false_eq_true, if_false]
  cases rs
  all_goals
    ksp_lk
    refine wpAny_mono try1 (fun r s' z => ?_) fun _ _ z => z
    obtain ⟨v, rfl, q⟩ := z
    ksp_lk
    exact q
end
open L2 LamX
/-- the built-in type of a value, by its name -/
inductive Ty (H : Hp) : V → String → Prop
  | non : Ty H .non "NoneType"
  | bl (b : Bool) : Ty H (.bl b) "bool"
  | int (i : Int) : Ty H (.int i) "int"
  | str (x : Str) : Ty H (.str x) "str"
  | tup {a : Addr} {xs : List V} (h : H a = some (.tup xs)) : Ty H (.ref a) "tuple"
  | lst {a : Addr} {xs : List V} (h : H a = some (.lst xs)) : Ty H (.ref a) "list"
  | dK {a : Addr} {kvs : List (Key × V)} (h : H a = some (.dK kvs)) : Ty H (.ref a) "dict"
/-- what the operation's rule asks of that type -/
def RightT (K : PySem.W.Frag) (op : Operator) (C : Addr) (T : String) : Prop := ∃ fo ro, PySem.W.findIn K (.type T) (PySem.dunder op.info.2) = some fo ∧ PySem.W.findIn K (.type T) (dunderR op.info.2) = some ro ∧ PySem.W.subIn K (.type T) (.ref C) = some false
/-- x op y, x an instance of the class at C, y of a built-in type; what comes out is a thing -/
def rBinV (K : PySem.W.Frag) (op : Operator) (C : Addr) (sp : Sp) (E : XK) : R2 := fun x y H Q => ∃ a dx fs T, x = V.ref a ∧ H a = some (.ins C dx fs) ∧ Ty H y T ∧ RightT K op C T ∧ sp [.ref a, y] H (fun v H' => (∃ c, v = V.ref c) ∧ Q v H') E
section
variable {X : Cx} {CX : CXT} {k : Nat} {f C : Addr} {fd : FuncData} {ps : List Str} {sp : Sp} {E : XK}
theorem Ty.looks {M : Model} {pins : List (Addr × Obj)} {σ : L2.St} {H : Hp} {s : Shared} {y : V} {u : Value} {T : String} (I : Inv X pins σ H s) (ry : RelV y u) (t : Ty H y T) : PySem.W.Looks M s.heap (typeOf u) (.type T) := by
  cases t with
  | non =>
    obtain rfl : u = Value.none := ry
    exact PySem.W.Looks.of_pure rfl
  | bl b =>
    obtain rfl : u = Value.bool b := ry
    exact PySem.W.Looks.of_pure rfl
  | int i =>
    obtain ⟨t, rfl⟩ := (show ∃ t, u = Value.int i t from ry)
    exact PySem.W.Looks.of_pure rfl
  | str x =>
    obtain ⟨t, rfl⟩ := (show ∃ t, u = Value.str x t from ry)
    exact PySem.W.Looks.of_pure rfl
  | @tup a xs h =>
    obtain rfl : u = Value.ref a := ry
    obtain ⟨its, _, ⟨o, ho, hc, _⟩, _⟩ := I.tuple (SqT.of h)
    exact hc ▸ (PySem.W.Looks.ld ho).andThen .now
  | @lst a xs h =>
    obtain rfl : u = Value.ref a := ry
    obtain ⟨its, _, ⟨o, _, ho, hc, _⟩, _⟩ := I.list (SqL.of h)
    exact hc ▸ (PySem.W.Looks.ld ho).andThen .now
  | @dK a kvs h =>
    obtain rfl : u = Value.ref a := ry
    have z := I.hok _ _ h
    unfold ObjOk at z
    obtain ⟨_, _, _, _, o, _, _, ho, ex, _⟩ := z
    exact ex.1 ▸ (PySem.W.Looks.ld ho).andThen .now
theorem op_binV {op : Operator} (F : FnOk X.prog X.w X.K X.mg X.base CX k f fd ps sp) (hr : Room k X.A) (hb : Binds X.K fd ps []) (hx : Passes CX X E) (hc : PySem.W.selfFirst X.K C = true)
    (hs : PySem.W.findIn X.K (.ref C) (PySem.dunder op.info.2) = some (some (.ref f))) (hf : PySem.W.isFn X.K (.ref f) = true) (hn : PySem.W.findIn X.K (.ref C) (dunderR op.info.2) = some none) : OpR X (binaryOp op) (rBinV X.K op C sp E) := by
  intro pins s σ H x y v u Q I rx ry h
  obtain ⟨a, dx, fs, T, rfl, ha, ty, ⟨fo, ro, t1, t2, t3⟩, hq⟩ := h
  obtain rfl : v = Value.ref a := rx
  obtain ⟨mA, O, _⟩ := ins_get I.hok ha
  obtain ⟨od, J, _⟩ := O.look
  obtain ⟨m, hF⟩ := I.fr
  refine own_op hF I.ok.mod.kin J (Ty.looks I ry ty) hc hs hf hn t1 t2 t3 (wpAny_mono (run_fn (us := [.ref a, u]) (vs := [.ref a, y]) (dvs := []) (ds := []) F hr hb .nil hx I (.cons rfl (.cons ry .nil)) hq) (fun v' s' z => ?_) fun _ _ z => z)
  obtain ⟨w', H', I', r', ⟨c, rfl⟩, q⟩ := z
  obtain rfl : v' = Value.ref c := r'
  exact ⟨.ref c, H', I', rfl, q⟩
end
end TT

set_option Elab.async false
set_option linter.all false
set_option maxRecDepth 100000
set_option maxHeartbeats 4000000
/-! Texts: numbers read, words joined and split. -/
namespace TT
open PySem PySem.Builtin PySem.Builtin.Str PySem.StrLaws PySem.Spec PyProof.Rows L2 TL
theorem at_zero_iff (x y : Str) : At x y x.length 0 ↔ Txt.startswith x y = true := by
  unfold Txt.startswith
  rw [Bool.and_eq_true, decide_eq_true_eq]
  exact Iff.rfl
theorem starts_one (x : Str) (c : Nat) : Txt.startswith x ⟨#[c]⟩ = ((tl x).head? == some c) := by
  have h := (at_zero_iff x ⟨#[c]⟩).symm.trans (at_iff (x := x) (y := ⟨#[c]⟩) (by simp) 0)
  rw [List.drop_zero] at h
  have e : pre (tl (⟨#[c]⟩ : Str)) (tl x) = ((tl x).head? == some c) := by
    show ((tl x).take 1 == [c]) = _
    cases tl x with
    | nil => simp
    | cons a l => simp
  rw [e] at h
  exact Bool.eq_iff_iff.mpr h
theorem dig_ascii : ∀ c, c < 128 → Unicode.isDigit c = (decide (48 ≤ c) && decide (c ≤ 57)) := by decide +kernel
/-- are these digits, one or more? -/
def allDig (l : List Nat) : Bool := !l.isEmpty && l.all fun c => decide (48 ≤ c) && decide (c ≤ 57)
theorem allDig_iff {l : List Nat} : allDig l = true ↔ l ≠ [] ∧ NumText.AllDigits l := by
  unfold allDig NumText.AllDigits
  simp [List.all_eq_true]
theorem isdigit_ascii (x : Str) (h : Txt.isascii x = true) : Txt.isdigit x = allDig (tl x) := by
  unfold Txt.isascii at h
  unfold Txt.isdigit allDig
  rw [← Array.all_toList] at h ⊢
  have e1 : decide (x.length > 0) = !(tl x).isEmpty := by
    rw [len_tl]
    cases tl x <;> simp
  rw [e1]
  congr 1
  rw [Bool.eq_iff_iff, List.all_eq_true, List.all_eq_true]
  rw [List.all_eq_true] at h
  refine ⟨fun a c hc => ?_, fun a c hc => ?_⟩
  · rw [← dig_ascii c (by simpa using h c hc)]
    exact a c hc
  · rw [dig_ascii c (by simpa using h c hc)]
    exact a c hc
theorem ascii_of {x : Str} (h : allDig (tl x) = true) : Txt.isascii x = true := by
  obtain ⟨_, h⟩ := allDig_iff.mp h
  unfold Txt.isascii
  rw [← Array.all_toList, List.all_eq_true]
  intro c hc
  have := h c hc
  simp
  omega
/-- the digits of a word -/
def digs (w : Str) : List Nat := if (tl w).head? = some 45 then (tl w).drop 1 else tl w
/-- the number that Python writes as this word -/
def numRead (w : Str) : Option Int :=
  if allDig (digs w) = true then
    if (digs w).head? = some 48 ∧ tl w ≠ [48] then none
    else some (if (tl w).head? = some 45 then -((NumText.digitsVal (digs w) : Nat) : Int) else ((NumText.digitsVal (digs w) : Nat) : Int))
  else none
theorem numL_head {n : Nat} (h : 1 ≤ n) : (numL n).head? ≠ some 48 := by
  induction n using Nat.strongRecOn with
  | _ n ih =>
    by_cases c : n < 10
    · rw [numL_lt c]
      simp
      omega
    · rw [numL_step (by omega)]
      have := ih (n / 10) (by omega) (by omega)
      cases e : numL (n / 10) with
      | nil => exact absurd e (numL_ne _)
      | cons a l =>
        rw [e] at this
        simpa using this
theorem numL_not45 (n : Nat) : (numL n).head? ≠ some 45 := by
  cases e : numL n with
  | nil => simp
  | cons a l =>
    have := numL_digits n a (by rw [e]; exact List.mem_cons_self)
    simp
    omega
theorem numL_allDig (n : Nat) : allDig (numL n) = true := allDig_iff.mpr ⟨numL_ne n, numL_digits n⟩
theorem numRead_nat (n : Nat) : numRead (Str.ofString (toString ((n : Nat) : Int))) = some (n : Int) := by
  unfold numRead digs
  rw [tl_num, if_neg (numL_not45 n), numL_allDig, if_pos rfl, if_neg (numL_not45 n), numL_val]
  rw [if_neg]
  rintro ⟨h1, h2⟩
  by_cases c : 1 ≤ n
  · exact numL_head c h1
  · have : n = 0 := by omega
    subst this
    exact h2 (numL_lt (by decide))
theorem numRead_neg {n : Nat} (h : 1 ≤ n) : numRead (Str.ofString "-" ++ Str.ofString (toString ((n : Nat) : Int))) = some (-(n : Int)) := by
  have e : tl (Str.ofString "-" ++ Str.ofString (toString ((n : Nat) : Int))) = 45 :: numL n := by
    rw [tl_append, tl_num] <;> rfl
  unfold numRead digs
  rw [e]
  simp only [List.head?_cons, if_true, List.drop_one, List.tail_cons]
  rw [numL_allDig, if_pos rfl, if_neg (fun z => numL_head h z.1), numL_val]
/-! the digits' value -/
theorem val_zero (l : List Nat) : NumText.digitsVal (48 :: l) = NumText.digitsVal l := rfl
theorem int_zero {d : Str} (h : allDig (tl d) = true) (hl : d.length ≤ 600) : intText? (Str.ofString "0" ++ d) = some ((NumText.digitsVal (tl d) : Nat) : Int) := by
  obtain ⟨h1, h2⟩ := allDig_iff.mp h
  have e : tl (Str.ofString "0" ++ d) = 48 :: tl d := by
    rw [tl_append] <;> rfl
  have z := PySem.intText_digits (x := Str.ofString "0" ++ d) (by
    show NumText.AllDigits (tl _)
    rw [e]
    intro c hc
    rcases List.mem_cons.mp hc with rfl | hc
    · decide
    · exact h2 c hc) (by show tl _ ≠ []; rw [e]; simp) (by rw [len_tl, e, List.length_cons, ← len_tl]; omega)
  rw [show (Str.ofString "0" ++ d).cps.toList = 48 :: tl d from e, val_zero] at z
  exact z
theorem cut_one (w : Str) : tl (cutS w (some 1) none) = (tl w).drop 1 := by
  have hl := len_tl w
  unfold cutS
  show (((tl w).drop (HT.sIx w.length 0 (some 1))).take (HT.sIx w.length w.length none - HT.sIx w.length 0 (some 1))) = _
  have e1 : HT.sIx w.length w.length none = w.length := rfl
  have e2 : HT.sIx w.length 0 (some 1) = min 1 w.length := by
    show (if (1 : Int) < 0 then ((1 : Int) + (w.length : Int)).toNat else min (1 : Int).toNat w.length) = _
    rw [if_neg (by decide)]
    rfl
  rw [e1, e2]
  by_cases c : w.length = 0
  · have : tl w = [] := List.length_eq_zero_iff.mp (by omega)
    rw [this]
    simp
  · have : min 1 w.length = 1 := by omega
    rw [this]
    exact List.take_of_length_le (by rw [List.length_drop]; omega)
theorem str_one (c : Nat) (x : Str) : (tl x = [c]) ↔ x = ⟨#[c]⟩ := ⟨fun h => ext_tl h, fun h => by rw [h]⟩
theorem str_eq_tl {x y : Str} : decide (V.str x = V.str y) = decide (tl x = tl y) := by
  by_cases c : x = y
  · subst c
    simp
  · rw [decide_eq_false (fun z => c (V.str.inj z)), decide_eq_false (fun z => c (ext_tl z))]
/-! words -/
theorem tl_str (s : String) : tl (Str.ofString s) = s.toList.map Char.toNat := by
  rw [Str.ofString_eq_toList]
theorem blank_free {n : Nat} : 32 ∉ numL n := numL_free (.inl (by decide))
end TT

set_option Elab.async false
set_option linter.all false
set_option maxRecDepth 100000
set_option maxHeartbeats 4000000
/-! A static method called by way of its class. -/
namespace TT
open PySem PySem.Spec PyProof.Rows L2 LamX
/-- C.m is a static method: its record at p, its def at g -/
structure CSta (K : PySem.W.Frag) (C : Addr) (mc : Value) (m : Str) (p g : Addr) : Prop where
  found : PySem.W.findCls K (.ref C) mc m = some (.get (.builtin "staticmethod.__get__") (.ref p) .none (.ref C))
  holds : ∃ more, PySem.W.recIn K p "staticmethod" = some (.ref g :: more)
  kept : PySem.W.keepIn K (.ref g) = true
def tStat (C : Addr) (sp : Sp) (E : XK) (to : TE) (ta : TA) : TE := fun σ H Q => to σ H fun x H1 => x = .ref C ∧ ta σ H1 fun vs H2 => sp (vs ++ []) H2 Q E
section
variable {X : Cx} {CX : CXT} {k : Nat} {C p g : Addr} {mc : Value} {fd : FuncData} {ps : List Str} {sp : Sp} {E : XK} {o e : Expr} {es : List Expr} {m : Str} {pos apos : Pos} {to : TE} {ta : TA} {pl : Sem Bool}
theorem sta_attr {pins : List (Addr × Obj)} {σ : L2.St} {H : Hp} {s : Shared} {A : Around} {b : Bool} {ER : Value → Shared → Prop} {Q : Value → Shared → Prop} (I : Inv X pins σ H s) (rd : ClX.CRead X.K C mc) (c : CSta X.K C mc m p g)
    (go : ∀ s1, Inv X pins σ H s1 → Q (.ref g) s1) : wpAny (model X.prog X.w) A (getAttr (.ref C) m b) Q ER s := by
  obtain ⟨more, hp⟩ := c.holds
  refine PySem.W.cls_bind I.kIn rd.rd c.found (wpAny_call ?_)
  exact PySem.W.sm_get (s := { s with toks := s.toks + 1 }) I.kIn hp (PySem.W.handed_on rfl (go _ (I.tok _)))
theorem pe_stat (ho : PE X o to) (rd : ClX.CRead X.K C mc) (c : CSta X.K C mc m p g) (F : FnOk X.prog X.w X.K X.mg X.base CX k g fd ps sp) (hr : Room k X.A) (hb : Binds X.K fd ps []) (hx : Passes CX X E) (ha : PA X (e :: es) ta)
    (star : starEach (e :: es) X.env = (false, eval e X.env) :: starEach es X.env := by rfl) (plain : (backTo pos (starEach es X.env)).any (·.1) = false := by rfl)
    (runs : eval (.Call (.Attribute o m apos) (e :: es) [] pos) X.env = (do
      let w0 ← eval o X.env
      standAt apos.atName
      let (fn, ahead) ← holding [w0] (getMethod w0 m pl)
      callWith pos fn ahead (backTo pos (starEach (e :: es) X.env)) (backToKw pos (keywordEach [] X.env))) := by rfl) :
    PE X (.Call (.Attribute o m apos) (e :: es) [] pos) (tStat C sp E to ta) := by
  constructor
  intro pins s σ H Q I h
  refine PySem.W.methodCall_KW (pl := pl) (thn (ho.run pins s σ H _ I h) fun u s1 z => ?_) runs
  obtain ⟨x, H1, I1, rx, ex, q⟩ := z
  subst ex
  obtain rfl : u = Value.ref C := rx
  refine PySem.W.method_cls I1.kIn rd.ga (sta_attr I1 rd c fun s2 I2 => ?_)
  refine PySem.W.callWith_K (h₀ := X.base) I2.ok.mod.kin c.kept (thn (ha.run pos pins s2 σ H1 _ I2 q) fun us s3 y => ?_) star plain
  obtain ⟨vs, H2, I3, rv, q2⟩ := y
  exact ⟨I3.kIn, run_fn F hr hb .nil hx I3 rv q2⟩
end
end TT

set_option Elab.async false
set_option linter.all false
set_option maxRecDepth 100000
set_option maxHeartbeats 4000000
/-! repr of a tuple whose items may be odd things (dicts among them). -/
namespace TT
open PySem PySem.Spec PyProof.Rows L2
theorem repr_tup {prog : Program} {w : World} {h₀ : Heap} {a : Addr} {o : Obj} {vs : Array Value} {n : Nat} {xs : List PyData} {as : List Addr} {A : Around} {E : Value → Shared → Prop} {s : Shared} {Q : Value → Shared → Prop}
    (at_a : h₀.get? a = some o) (is_t : o.cls = .type "tuple") (dat : o.data = .seq vs n) (its : ReadsAll h₀ vs.toList xs as)
    (sh : PyData.showableAll xs = true) (out : PyData.hasDictAll xs = true → ¬ sysModules ∈ as) (gd : A.guards = some []) (un : A.units + ((PyData.tuple xs).depth + 1) < cLine)
    (low : ∀ b u, h₀.get? b = some u → s.heap.get? b = some u)
    (k : ∀ h' u tk, (∀ b o, s.heap.get? b = some o → h'.get? b = some o) → Q (.str (PyData.tuple xs).shown u) { s with heap := h', toks := tk })
    (len : (PyData.tuple xs).shown.length ≤ sizeLine) : wpAny (model prog w) A (call (.builtin "repr") [.ref a]) Q E s := by
  have short : (tupleText (PyData.shownAll xs)).length ≤ sizeLine := by
    have := len
    rwa [PyData.shown] at this
  obtain ⟨bs, below, each⟩ := ReprAllK.of_readsAll (prog := prog) (w := w) its sh out fun t ht => Nat.le_trans (tupleText_mem_le ht) short
  have apart : a ∉ bs := by
    refine not_mem_of_deeper (Reads.tuple at_a is_t dat its) ?_ below
    rw [PyData.depth]
    omega
  have dep : A.in1.units + (PyData.tuple xs).depth < cLine := by
    show A.units + 1 + _ < cLine
    omega
  refine call_repr_slot (by omega) (show s.TypeIs (.ref a) "tuple" from ⟨o, low _ _ at_a, is_t⟩) F.slot_tuple_repr ?_
  rw [PyData.depth] at dep
  have k' := k
  simp only [PyData.shown] at k'
  exact call_tuple_reprK at_a is_t dat apart each gd (fun b _ => Clear.nil b) dep low (fun h' u tk hk => ⟨_, _, rfl, k' h' u tk hk⟩) short
/-- flat data -/
inductive Flat0 : V → PyData → Prop
  | non : Flat0 .non .none
  | bl (b : Bool) : Flat0 (.bl b) (.bool b)
  | int (i : Int) : Flat0 (.int i) (.int i)
  | str (x : Str) : Flat0 (.str x) (.str x)
/-- each item is flat, or it is the one odd thing v, d -/
inductive DpDs (v : V) (d : PyData) : List V → List PyData → Prop
  | nil : DpDs v d [] []
  | fl {x : V} {e : PyData} {vs : List V} {ds : List PyData} (h : Flat0 x e) (t : DpDs v d vs ds) : DpDs v d (x :: vs) (e :: ds)
  | it {vs : List V} {ds : List PyData} (t : DpDs v d vs ds) : DpDs v d (v :: vs) (d :: ds)
theorem Flat0.reads {v : V} {d : PyData} {u : Value} {h : Heap} (f : Flat0 v d) (r : RelV v u) : Reads h u d [] ∧ d.hasDict = false := by
  cases f with
  | non => obtain rfl : u = .none := r; exact ⟨.none, by simp [PyData.hasDict]⟩
  | bl b => obtain rfl : u = .bool b := r; exact ⟨.bool _, by simp [PyData.hasDict]⟩
  | int i => obtain ⟨t, rfl⟩ : ∃ t, u = .int i t := r; exact ⟨.int _ _, by simp [PyData.hasDict]⟩
  | str x => obtain ⟨t, rfl⟩ : ∃ t, u = .str x t := r; exact ⟨.str _ _, by simp [PyData.hasDict]⟩
theorem DpDs.reads {X : Cx} {pins : List (Addr × Obj)} {σ : L2.St} {H : Hp} {s : Shared} {v : V} {d : PyData} (I : Inv X pins σ H s) (o : DpD X.K H v d) : ∀ {vs : List V} {ds : List PyData} {us : List Value}, DpDs v d vs ds → Vals vs us →
    ∃ as, ReadsAll s.heap us ds as ∧ (PyData.hasDictAll ds = true → d.hasDict = true) ∧ (d.hasDict = true → ¬ sysModules ∈ as)
  | _, _, _, .nil, .nil => ⟨[], .nil, fun e => by simp [PyData.hasDictAll] at e, fun _ m => by cases m⟩
  | _, _, _, .fl h t, .cons r rs => by
    obtain ⟨h1, h2⟩ := h.reads (h := s.heap) r
    obtain ⟨bs, h3, h4, h5⟩ := DpDs.reads I o t rs
    refine ⟨[] ++ bs, .cons h1 h3, fun e => ?_, h5⟩
    simp only [PyData.hasDictAll, h2, Bool.false_or] at e
    exact h4 e
  | _, _, _, .it t, .cons r rs => by
    obtain ⟨as, h1, h2⟩ := DpD.reads I o r
    obtain ⟨bs, h3, h4, h5⟩ := DpDs.reads I o t rs
    refine ⟨as ++ bs, .cons h1 h3, fun e => ?_, fun e m => (List.mem_append.mp m).elim (h2 e) (h5 e)⟩
    simp only [PyData.hasDictAll, Bool.or_eq_true] at e
    exact e.elim id h4
section
variable {X : Cx}
/-- repr(x): an odd thing, or a tuple of such -/
inductive RpT (K : PySem.W.Frag) (H : Hp) : V → PyData → Prop
  | one {v : V} {d : PyData} (h : DpD K H v d) : RpT K H v d
  | tup {t : Addr} {v : V} {d : PyData} {xs : List V} {ds : List PyData} (ht : H t = some (.tup xs)) (o : DpD K H v d) (h : DpDs v d xs ds) : RpT K H (.ref t) (.tuple ds)
def rReprT (K : PySem.W.Frag) : List V → Hp → VK → Prop := fun xs H Q => ∃ (x : V) (d : PyData), xs = [x] ∧ RpT K H x d ∧ d.showable = true ∧ d.depth ≤ 60 ∧ d.shown.length ≤ sizeLine ∧ Q (.str d.shown) H
theorem call_reprT (hg : X.A.guards = some []) (hu : X.A.units + 64 < cLine) : CallR X (.builtin "repr") (rReprT X.K) := by
  intro pins s σ H xs us Q I r h
  obtain ⟨x, d, rfl, hd, sh, dep, hz, q⟩ := h
  cases hd with
  | one h => exact call_reprS hg hu pins s σ H _ us Q I r ⟨x, d, rfl, .one h, sh, dep, hz, q⟩
  | @tup t v d ys ds ht o h =>
    match us, r with
    | [u], .cons r1 .nil =>
      obtain rfl : u = Value.ref t := r1
      obtain ⟨_, its, vs, ob, g, c, k, dt⟩ : ObjOk X.prog X.w H s.heap t (.tup ys) := I.hok _ _ ht
      obtain ⟨as, h1, h2, h3⟩ := DpDs.reads I o h vs
      have sh' : PyData.showableAll ds = true := by rwa [PyData.showable] at sh
      exact repr_tup g c dt (by rw [List.toList_toArray]; exact h1) sh' (fun e => h3 (h2 e)) hg (by omega) (fun _ _ e => e) (fun h' u tk hk => ⟨.str _, H, I.kept hk, ⟨_, rfl⟩, q⟩) hz
end
end TT

set_option Elab.async false
set_option linter.all false
set_option maxRecDepth 100000
set_option maxHeartbeats 4000000
/-! not in a tuple: of things of an own class with ==, of data; dict of a tuple of pairs. -/
namespace GQ
open PySem PySem.SeqAt
open AutoSeq1 (wpAny_loadPart')
open MeetsSeq MeetsSeq2 MeetsSeq3 SeqRoads2
section
variable {prog : Program} {w : World} {A : Around} {R : Result → Shared → Prop} {E : Value → Shared → Prop} {s : Shared}
/-- the items are asked one by one; what holds stays -/
theorem tuple_holdsG (l : Addr) (items : Array Value) (n : Nat) (dd : Option Addr) (sl : Array (Option Value)) (x : Value) (e : Value → Bool) (I : Shared → Prop)
    (turn : ∀ y ∈ items, ∀ s, I s → wpAny (model prog w) A.in1 (eqBool y x) (fun r s' => r = e y ∧ I s') (fun e s' => R (.error e) s') s)
    (fin : ∀ s, I s → R (.ok (.ret (.bool (items.any e)))) s) {s : Shared} (hl : s.heap.get? l = some { cls := .type "tuple", dict := dd, data := .seq items n, slots := sl }) (h : I s) :
    wpAny (model prog w) A.in1 (Builtin.«tuple.__contains__» ⟨[.ref l, x], []⟩) (FinOf prog w A R) (fun e s' => R (.error e) s') s := by
  have h0 := h
  obtain ⟨hp, g, d, tk, os⟩ := s
  wp_walk using wpAny_loadPart' hl, wpAny_forIn_array _ (fun rest b s' => b.1 = none ∧ I s' ∧ (∀ y, y ∈ rest → y ∈ items) ∧ items.any e = rest.any e) _
  case turn =>
    rintro y rest b s' ⟨hb, hI, hmem, hR⟩
    refine wpAny_bind (wpAny_mono (turn y (hmem y (List.mem_cons_self ..)) s' hI) (fun r s2 q2 => ?_) fun _ _ x => x)
    obtain ⟨rfl, q2⟩ := q2
    rw [List.any_cons] at hR
    cases hy : e y with
    | true =>
      rw [hy, Bool.true_or] at hR
      have q3 := fin s2 q2
      rw [hR] at q3
      wp_walk
      exact q3
    | false =>
      rw [hy, Bool.false_or] at hR
      wp_walk
      exact ⟨rfl, q2, fun z hz => hmem z (List.mem_cons_of_mem _ hz), hR⟩
  case fin =>
    rintro ⟨b1, b2⟩ s' ⟨hb, hI, -, hR⟩
    simp only at hb
    subst hb
    have q3 := fin s' hI
    rw [hR] at q3
    wp_walk
    simpa using q3
  case h =>
    exact ⟨rfl, h0, fun y hy => by simpa using hy, by simp⟩
end
end GQ
namespace TT
open PySem PySem.Spec PyProof.Rows L2 LamX
section
variable {X : Cx} {CX : CXT} {n : Nat} {C f : Addr} {fd : FuncData} {ps : List Str} {sp : Sp} {E : XK}
/-- item == x for one item, by the own __eq__, which changes nothing -/
theorem eq_item (F : FnOk X.prog X.w X.K X.mg X.base CX n f fd ps sp) (hs : PySem.W.findIn X.K (.ref C) "__eq__" = some (some (.ref f))) (hf : PySem.W.isFn X.K (.ref f) = true) (hb : Binds X.K fd ps []) (hx : Passes CX X E)
    {A : Around} (sb : Sub X n A) {pins : List (Addr × Obj)} {σ : L2.St} {H : Hp} {s : Shared} (I : Inv X pins σ H s) {i a : Addr} {b : Bool} (hi : ∃ dx fs, H i = some (.ins C dx fs)) (ha : ∃ dx fs, H a = some (.ins C dx fs)) (same : i = a → b = true)
    (hsp : sp [.ref i, .ref a] H (fun v H' => v = .bl b ∧ H' = H) E) : wpAny (model X.prog X.w) A (eqBool (.ref i) (.ref a)) (fun r s' => r = b ∧ Inv X pins σ H s') X.xe s := by
  by_cases hab : i = a
  · subst hab
    rw [same rfl]
    exact SeqAt.EqAt.same (A := A) (s := s) (.ref i) X.prog X.w X.xe _ ⟨rfl, I⟩
  · refine GQ.eqBool_refG hab ?_
    obtain ⟨dx, fs, hi⟩ := hi
    obtain ⟨dy, gs, ha⟩ := ha
    obtain ⟨mA, J, _⟩ := ins_get I.hok hi
    obtain ⟨mB, J', _⟩ := ins_get I.hok ha
    obtain ⟨od, J, _⟩ := J.look
    obtain ⟨od', J', _⟩ := J'.look
    obtain ⟨m, hF⟩ := I.fr
    refine PySem.W.cmp_K (op := .Eq) (tb := .ref C) sb.room.units0 hF I.ok.mod.kin J J'.type (by simp [PySem.W.notFirst]) hs hf ?_
    have e0 : Env0 X.prog X.w X.K X.mg X.base A X.stack s H := by
      have e := I.env0
      exact ⟨by rw [sb.fr]; exact e.frames, e.mod, e.bs, e.bsz, e.funs, e.frf, e.hok, e.bare⟩
    have hl := F.len _ _ _ _ hsp
    have r2 : Vals [V.ref i, V.ref a] [Value.ref i, Value.ref a] := .cons rfl (.cons rfl .nil)
    refine wpAny_call (codeAny_mono (F.run A X.stack s H ⟨[.ref i, .ref a], []⟩ [.ref i, .ref a] [.ref i, .ref a] _ E sb.room e0 (by
      have := hb s [.ref i, .ref a] I.kIn (by simpa using hl)
      simpa using this) r2 hsp) fun r s' hq => ?_)
    cases r with
    | error e => exact hx pins σ H s e s' I hq
    | ok fl =>
      cases fl with
      | ret w =>
        obtain ⟨z, H', I', rz, ez, ex⟩ := I.after hq
        subst ez ex
        cases rz
        exact ⟨b, rfl, rfl, I'⟩
      | next => exact False.elim hq
      | brk => exact False.elim hq
      | cont => exact False.elim hq
/-- x not in a tuple of things of the class at C -/
def rNotInO (K : PySem.W.Frag) (C : Addr) (sp : Sp) (E : XK) (neg : Bool) : R2 := fun x y H Q => ∃ (a p : Addr) (es : List (Addr × Bool)), x = .ref a ∧ y = .ref p ∧ SqT K H p (es.map fun e => V.ref e.1) ∧ (∃ dx fs, H a = some (.ins C dx fs)) ∧
  (∀ e ∈ es, (∃ dx fs, H e.1 = some (.ins C dx fs)) ∧ (e.1 = a → e.2 = true) ∧ sp [.ref e.1, .ref a] H (fun v H' => v = .bl e.2 ∧ H' = H) E) ∧ (∀ e ∈ es, ∀ d ∈ es, e.1 = d.1 → e.2 = d.2) ∧ Q (.bl (if neg then !es.any (·.2) else es.any (·.2))) H
theorem vals_refs : ∀ {es : List (Addr × Bool)} {us : List Value}, Vals (es.map fun e => V.ref e.1) us → us = es.map fun e => Value.ref e.1
  | [], _, r => by cases r; rfl
  | e :: es, _, r => by
    rw [List.map_cons] at r
    cases r with
    | cons h t =>
      cases h
      rw [List.map_cons, ← vals_refs t]
/-- the answer for an item -/
def ansO (es : List (Addr × Bool)) (v : Value) : Bool := es.any fun e => decide (v = Value.ref e.1) && e.2
theorem ansO_at {es : List (Addr × Bool)} (u : ∀ e ∈ es, ∀ d ∈ es, e.1 = d.1 → e.2 = d.2) {e : Addr × Bool} (he : e ∈ es) : ansO es (.ref e.1) = e.2 := by
  unfold ansO
  cases h : e.2 with
  | true =>
    rw [List.any_eq_true]
    exact ⟨e, he, by simp [h]⟩
  | false =>
    rw [List.any_eq_false]
    intro d hd
    by_cases c : Value.ref e.1 = Value.ref d.1
    · have c' : e.1 = d.1 := by injection c
      rw [← u e he d hd c', h]
      simp
    · simp [c]
theorem ansO_any {es : List (Addr × Bool)} (u : ∀ e ∈ es, ∀ d ∈ es, e.1 = d.1 → e.2 = d.2) : (es.map fun e => Value.ref e.1).any (ansO es) = es.any (·.2) := by
  rw [List.any_map, Bool.eq_iff_iff, List.any_eq_true, List.any_eq_true]
  constructor
  · rintro ⟨e, he, h⟩
    exact ⟨e, he, by rw [← ansO_at u he]; exact h⟩
  · rintro ⟨e, he, h⟩
    exact ⟨e, he, by show ansO es (.ref e.1) = true; rw [ansO_at u he]; exact h⟩
theorem op_notInO (F : FnOk X.prog X.w X.K X.mg X.base CX n f fd ps sp) (hs : PySem.W.findIn X.K (.ref C) "__eq__" = some (some (.ref f))) (hf : PySem.W.isFn X.K (.ref f) = true) (hb : Binds X.K fd ps []) (hx : Passes CX X E)
    (hr : Room (n + 1) X.A) : OpR X (compareOp .NotIn) (rNotInO X.K C sp E true) := by
  intro pins s σ H x y v u Q I rx ry h
  obtain ⟨a, p, es, rfl, rfl, hp, ha, each, u1, q⟩ := h
  obtain rfl : v = Value.ref a := rx
  obtain rfl : u = Value.ref p := ry
  obtain ⟨its, rv, pl, hz⟩ := I.tuple hp
  have ei := vals_refs rv
  subst ei
  obtain ⟨⟨cls, dd, data, sl⟩, ho, hc, k, hd⟩ := id pl
  simp only at hc hd
  subst hc hd
  have sb : Sub X (n + 1) X.A := ⟨hr, rfl⟩
  show wpAny (model X.prog X.w) X.A (do return .bool (!(← contains (.ref p) (.ref a)))) (EP X pins σ Q) X.xe s
  refine wpAny_bind (wpAny_contains_slot ⟨_, ho, rfl⟩ PySem.F.slot_tuple_contains (wpAny_mono (GQ.call_here (Q := fun v s' => v = .bool (es.any (·.2)) ∧ Inv X pins σ H s') PySem.F.slot_tuple_contains ⟨_, ho, rfl⟩ PySem.F.entry_tuple_contains (PySem.F.args_tuple_contains_2 _ _) ?_) (fun v s' hv => ?_) fun _ _ e => e))
  · refine GQ.tuple_holdsG (R := wants (fun v s' => v = .bool (es.any (·.2)) ∧ Inv X pins σ H s') X.xe) p _ k dd sl (.ref a) (ansO es) (fun s' => Inv X pins σ H s') (fun y hy s' I' => ?_) (fun s' I' => ⟨?_, I'⟩) ho I
    · obtain ⟨e, he, rfl⟩ := List.mem_map.mp (show y ∈ es.map fun e => Value.ref e.1 by simpa using hy)
      obtain ⟨h1, h2, h3⟩ := each e he
      rw [ansO_at u1 he]
      exact eq_item F hs hf hb hx sb.in1 I' h1 ha h2 h3
    · rw [show ((es.map fun e => Value.ref e.1).toArray.any (ansO es)) = (es.map fun e => Value.ref e.1).any (ansO es) by simp, ansO_any u1]
  · obtain ⟨rfl, I'⟩ := hv
    exact wpAny_truthy_bool (wpAny_pure ⟨.bl _, H, I', rfl, q⟩)
/-- x in a tuple of things of the class at C -/
theorem op_inO (F : FnOk X.prog X.w X.K X.mg X.base CX n f fd ps sp) (hs : PySem.W.findIn X.K (.ref C) "__eq__" = some (some (.ref f))) (hf : PySem.W.isFn X.K (.ref f) = true) (hb : Binds X.K fd ps []) (hx : Passes CX X E)
    (hr : Room (n + 1) X.A) : OpR X (compareOp .In) (rNotInO X.K C sp E false) := by
  intro pins s σ H x y v u Q I rx ry h
  obtain ⟨a, p, es, rfl, rfl, hp, ha, each, u1, q⟩ := h
  obtain rfl : v = Value.ref a := rx
  obtain rfl : u = Value.ref p := ry
  obtain ⟨its, rv, pl, hz⟩ := I.tuple hp
  have ei := vals_refs rv
  subst ei
  obtain ⟨⟨cls, dd, data, sl⟩, ho, hc, k, hd⟩ := id pl
  simp only at hc hd
  subst hc hd
  have sb : Sub X (n + 1) X.A := ⟨hr, rfl⟩
  show wpAny (model X.prog X.w) X.A (do return .bool (← contains (.ref p) (.ref a))) (EP X pins σ Q) X.xe s
  refine wpAny_bind (wpAny_contains_slot ⟨_, ho, rfl⟩ PySem.F.slot_tuple_contains (wpAny_mono (GQ.call_here (Q := fun v s' => v = .bool (es.any (·.2)) ∧ Inv X pins σ H s') PySem.F.slot_tuple_contains ⟨_, ho, rfl⟩ PySem.F.entry_tuple_contains (PySem.F.args_tuple_contains_2 _ _) ?_) (fun v s' hv => ?_) fun _ _ e => e))
  · refine GQ.tuple_holdsG (R := wants (fun v s' => v = .bool (es.any (·.2)) ∧ Inv X pins σ H s') X.xe) p _ k dd sl (.ref a) (ansO es) (fun s' => Inv X pins σ H s') (fun y hy s' I' => ?_) (fun s' I' => ⟨?_, I'⟩) ho I
    · obtain ⟨e, he, rfl⟩ := List.mem_map.mp (show y ∈ es.map fun e => Value.ref e.1 by simpa using hy)
      obtain ⟨h1, h2, h3⟩ := each e he
      rw [ansO_at u1 he]
      exact eq_item F hs hf hb hx sb.in1 I' h1 ha h2 h3
    · rw [show ((es.map fun e => Value.ref e.1).toArray.any (ansO es)) = (es.map fun e => Value.ref e.1).any (ansO es) by simp, ansO_any u1]
  · obtain ⟨rfl, I'⟩ := hv
    exact wpAny_truthy_bool (wpAny_pure ⟨.bl _, H, I', rfl, q⟩)
end
section
variable {X : Cx}
/-- x not in a tuple of data -/
def rNotInDT (K : PySem.W.Frag) : R2 := fun x y H Q => ∃ d ds, Dp K H x d ∧ Dp K H y (.tuple ds) ∧ SeqAt.shaped d = true ∧ SeqAt.shaped (.tuple ds) = true ∧ Q (.bl (!ds.any fun z => PyData.eqv z d)) H
theorem op_notInDT (hu : X.A.units + 65 < cLine) : OpR X (compareOp .NotIn) (rNotInDT X.K) := by
  intro pins s σ H x y v u Q I rx ry h
  obtain ⟨d, ds, hd, he, sd, se, q⟩ := h
  obtain ⟨as, r1⟩ := Dp.reads I d x v hd rx
  obtain ⟨bs, r2⟩ := Dp.reads I (.tuple ds) y u he ry
  exact SeqAt.notIn_tuple_reads r2 r1 (SeqAt.canLay_of_shaped se) (SeqAt.canLay_of_shaped sd) (room_in_shaped sd hu) ⟨.bl _, H, I, rfl, q⟩
/-- tuple(a list): the new tuple as an object that is known to have no dict -/
theorem call_tuple_frz : CallR X (.type "tuple") (fun xs H Q => ∃ p ys, xs = [.ref p] ∧ SqL X.K H p ys ∧ ∀ l (o : Obj), o.dict = none → H l = none → Q (.ref l) (upd H l (.frz o (.tup ys)))) := by
  intro pins s σ H xs us Q I r h
  obtain ⟨p, ys, rfl, hq, q⟩ := h
  obtain ⟨u, rfl, rx⟩ := vals1 r
  cases rx
  obtain ⟨its, r', pl, hz⟩ := I.list hq
  have hlen := r'.length
  refine call_tuple_list pl.isList (fun h' kp => ?_) (by simp only [List.size_toArray] <;> omega)
  have I1 : Inv X pins σ H { s with heap := h' } := I.kept (t' := s.toks) kp
  have I2 : Inv X pins σ (upd H h'.objs.size (.frz ({ cls := .type "tuple", data := .seq its.toArray } : Obj) (.tup ys))) { s with heap := h'.push { cls := .type "tuple", data := .seq its.toArray } } :=
    I1.laid (t' := s.toks) (fun b o e => Heap.get?_push_of_some _ e) (Nat.le_refl _) (show ObjOk X.prog X.w _ _ _ (.frz _ (.tup ys)) from ⟨Heap.get?_push_size _ rfl, hz, its, r', IsTup.new _ _⟩)
  exact ⟨.ref h'.objs.size, _, I2, rfl, q _ _ rfl (I1.hok.fresh (Nat.le_refl _))⟩
theorem refsOf : ∀ {ps : List Addr} {us : List Value}, Vals (ps.map V.ref) us → us = ps.map Value.ref
  | [], _, r => by cases r; rfl
  | p :: ps, _, r => by
    rw [List.map_cons] at r
    cases r with
    | cons h t =>
      cases h
      rw [List.map_cons, ← refsOf t]
/-- dict(t) of such a tuple of pairs -/
theorem call_dictT (hcalm : X.calm = true) : CallR X (.type "dict") (fun xs H Q => ∃ (a : Addr) (o : Obj) (ps : List Addr) (kvs : List (Key × V)), xs = [.ref a] ∧ H a = some (.frz o (.tup (ps.map V.ref))) ∧ o.dict = none ∧ Paired (fun p kv => SqT X.K H p [kV kv.1, kv.2]) ps kvs ∧
    ∀ p, H p = none → Q (.ref p) (upd H p (.dK (mergeK [] kvs)))) := by
  intro pins s σ H xs us Q I r q
  obtain ⟨a, o, ps, kvs, rfl, hq, hdn, hp, q⟩ := q
  obtain ⟨u, rfl, rx⟩ := vals1 r
  cases rx
  obtain ⟨ho, hz, its, rv, ob, ho2, hc, k, hdat⟩ := (show ObjOk X.prog X.w H s.heap a (.frz o (.tup (ps.map V.ref))) from I.hok a _ hq)
  rw [ho] at ho2
  cases ho2
  have ei := refsOf rv
  subst ei
  rw [List.length_map] at hz
  obtain ⟨prs, rel, hl, hpr⟩ := pairs_of I hp
  have hm : (s.heap.objs.size == sysModules) = false := beq_eq_false_iff_ne.mpr (Nat.ne_of_gt I.big)
  have hlen : (mergeK [] kvs).length ≤ sizeLine := by
    refine Nat.le_trans (length_mergeK kvs []) ?_
    rw [List.length_nil, Nat.zero_add, rel.length, hl]
    exact hz
  have hpr' : ∀ j : Nat, ∃ u : Value, ∀ q : Key × Value, prs[j]? = some q → ∃ b, ps[j]? = some b ∧ IsTup s.heap b #[u, q.2] ∧ keyIs q.1 u = true := fun j => by
    cases h : prs[j]? with
    | none => exact ⟨.none, fun q e => by cases e⟩
    | some q =>
      obtain ⟨b, u, e1, e2, e3⟩ := hpr j q h
      exact ⟨u, fun q' e => by cases e; exact ⟨b, e1, e2, e3⟩⟩
  obtain ⟨f, hf⟩ := Classical.axiomOfChoice hpr'
  have at' : ∀ (j : Nat) (k v : Value), (prs.mapIdx fun j q => (f j, q.2))[j]? = some (k, v) → ∃ q, prs[j]? = some q ∧ k = f j ∧ v = q.2 := fun j k v e => by
    rw [List.getElem?_mapIdx] at e
    obtain ⟨q, h1, h2⟩ := Option.map_eq_some_iff.mp e
    cases h2
    exact ⟨q, h1, rfl, rfl⟩
  refine PySem.call_dict_pairs (knd := mixKind X.prog X.w) (kvs := prs) (PySem.PairArg.tuple a (ps.map Value.ref).toArray (fun j => ps.getD j 0) (prs.mapIdx fun j q => (f j, q.2))) (I.ok.hd hcalm) ⟨⟨_, k, ho, hc, hdn, hdat⟩, ?_, fun j k v e => ?_⟩ ⟨by rw [List.length_mapIdx], fun i key v e => ?_⟩ ?_ fun h' tk hd' kk => ?_
  · rw [List.size_toArray, List.length_map, List.length_mapIdx, hl]
  · obtain ⟨q, h1, rfl, rfl⟩ := at' j k v e
    obtain ⟨b, e1, e2, e3⟩ := hf j q h1
    have eg : ps.getD j 0 = b := by rw [List.getD_eq_getElem?_getD, e1] <;> rfl
    show (List.map Value.ref ps).toArray[j]? = some (Value.ref (ps.getD j 0)) ∧ PairAt s.heap (ps.getD j 0) (f j) q.2
    rw [eg]
    exact ⟨by simp [e1], .inl e2⟩
  · obtain ⟨q, h1, rfl, rfl⟩ := at' i key v e
    obtain ⟨b, e1, e2, e3⟩ := hf i q h1
    exact ⟨q.1, h1, e3⟩
  · rw [List.length_mapIdx, hl]
    exact hz
  · exact ⟨.ref s.heap.objs.size, upd H s.heap.objs.size (.dK (mergeK [] kvs)), I.laid (t' := tk) (fun b o e => kk b o (fun z => nomatch z) e) (Nat.le_refl _) (show ObjOk X.prog X.w _ _ _ (.dK (mergeK [] kvs)) from ⟨hlen, hm, merged [] prs, KV.merge rel .nil, hd'⟩), rfl, q _ (I.hok.fresh (Nat.le_refl _))⟩
end
end TT

set_option Elab.async false
set_option linter.all false
set_option maxRecDepth 100000
set_option maxHeartbeats 4000000
/-! enumerate(a tuple): the rule for a «for» and for a comprehension. -/
namespace TT
open PySem PySem.Spec PyProof.Rows L2
open AutoSeq1 (wpAny_loadPart')
theorem meets_enumerate_newT (l : Addr) (items : Array Value) (n : Nat) (dct : Option Addr) (sl : Array (Option Value)) :
    Meets (Builtin.«enumerate.__new__» ⟨[.type "enumerate", .ref l], []⟩) (fun _ R s => s.heap.get? l = some { cls := .type "tuple", dict := dct, data := .seq items n, slots := sl } ∧
      R (.ok (.ret (.ref (s.heap.push { cls := .type "tuple_iterator", data := .fields #[.ref l, .int 0 0] }).objs.size)))
        { s with heap := (s.heap.push { cls := .type "tuple_iterator", data := .fields #[.ref l, .int 0 0] }).push { cls := .type "enumerate", data := .fields #[.none, .bool false, .ref s.heap.objs.size, rawInt 0, .none, .none] } }) :=
  .of_wp fun prog w A R s h => by
    obtain ⟨hp, g, d, tk, os⟩ := s; obtain ⟨hl, h⟩ := h
    have hsub := sub_enumerate
    have hL : Heap.IsTuple (Shared.heap ⟨hp, g, d, tk, os⟩) l items := ⟨_, hl, rfl, n, rfl⟩
    wp_walk using wpAny_loadPart' hl
    refine wpAny_stack_any fun st => wpAny_pure ?_
    split
    · rename_i c _ _ _ _ _
      cases (c == Value.type "enumerate")
      · wp_walk using wpAny_loadPart' hl, wpAny_pyIter_tuple hL
        exact ⟨_, rfl, h⟩
      · wp_walk using wpAny_loadPart' hl, wpAny_pyIter_tuple hL
        exact ⟨_, rfl, h⟩
    · wp_walk using wpAny_loadPart' hl, wpAny_pyIter_tuple hL
      exact ⟨_, rfl, h⟩
theorem call_enumerate_tuple {prog : Program} {w : World} {A : Around} {E : Value → Shared → Prop} {s : Shared} {l : Addr} {items : Array Value} {Q : Value → Shared → Prop} (hL : s.heap.IsTuple l items)
    (h : ∀ h', IsEnum h' (s.heap.objs.size + 1) s.heap.objs.size 0 .none → h'.IsTupleIter s.heap.objs.size l 0 → h'.objs.size = s.heap.objs.size + 2 →
      (∀ b o, s.heap.get? b = some o → h'.get? b = some o) → Q (.ref (s.heap.objs.size + 1)) { s with heap := h' }) :
    wpAny (model prog w) A (call (.type "enumerate") [.ref l]) Q E s := by
  obtain ⟨⟨c, dct, dt, sl⟩, hl, hc, n, hd⟩ := hL
  replace hc : c = .type "tuple" := hc
  replace hd : dt = .seq items n := hd
  subst hc hd
  refine callType_new F.called_enumerate (by decide) (F.typeCall_enumerate_1 _) (F.newCall_enumerate_1 _) (fun obj => F.args_object_init_2 obj _) F.entry_enumerate_new
    (meets_enumerate_newT l items n dct sl) ⟨hl, ?_⟩
  have hz : (s.heap.push { cls := .type "tuple_iterator", data := .fields #[.ref l, .int 0 0] }).objs.size = s.heap.objs.size + 1 := Heap.size_push ..
  show _ ∧ _
  rw [hz]
  have he : IsEnum ((s.heap.push { cls := .type "tuple_iterator", data := .fields #[.ref l, .int 0 0] }).push
      { cls := .type "enumerate", data := .fields #[.none, .bool false, .ref s.heap.objs.size, rawInt 0, .none, .none] }) (s.heap.objs.size + 1) s.heap.objs.size 0 .none := by
    have := Heap.get?_push_size (s.heap.push { cls := .type "tuple_iterator", data := .fields #[.ref l, .int 0 0] })
      (o := { cls := .type "enumerate", data := .fields #[.none, .bool false, .ref s.heap.objs.size, rawInt 0, .none, .none] }) rfl
    rw [hz] at this; exact this
  refine ⟨⟨_, he, rfl⟩, h _ he ⟨_, Heap.get?_push_of_some _ (Heap.get?_push_size _ rfl), rfl, rfl⟩ (by rw [Heap.size_push, hz]) fun b o x => Heap.get?_push_of_some _ (Heap.get?_push_of_some _ x)⟩
/-- the tuple at a, each item in a new pair -/
def IteT (K : PySem.W.Frag) (a : Addr) : It :=
  ⟨fun i H => ∃ (xs : List V) (x : V), SqT K H a xs ∧ xs[i]? = some x, fun i H v H' => ∃ T x, v = .ref T ∧ H T = none ∧ H' = upd H T (.tup [.int (i : Nat), x]) ∧ ∀ xs, SqT K H a xs → xs[i]? = some x, fun i H => ∃ xs : List V, SqT K H a xs ∧ xs.length ≤ i⟩
theorem turn_enumT {P : Program} {w : World} {K : PySem.W.Frag} {elts : List Expr} {kk : Nat} {tpos : Pos} (a e it : Addr) :
    Turn P w K (.Tuple elts kk tpos) (IteT K a) [e, it] e (fun i h => (∃ old, IsEnum h e it ((i : Nat) : Int) old) ∧ h.IsTupleIter it a i ∧ e ≠ it) where
  mem := by simp
  obj := fun i h st b hb => by
    obtain ⟨⟨old, he⟩, ⟨o, ho, hc, hd⟩, _⟩ := st
    have e' : b = e ∨ b = it := by simpa using hb
    rcases e' with z | z
    · rw [z]; exact ⟨_, he, fun v q => nomatch q⟩
    · rw [z]; exact ⟨o, ho, fun v q => by rw [hd] at q; cases q⟩
  keep := fun i h h' st k => let ⟨⟨old, he⟩, hi, hne⟩ := st; ⟨⟨old, k e (by simp) _ he⟩, hi.at fun o q => k it (by simp) o q, hne⟩
  item := by
    intro X hP hw hK hc i pins s σ H E I hf st hg
    subst hP hw hK
    obtain ⟨⟨old, he⟩, hit, hne⟩ := st
    obtain ⟨xs, x, hq, hx⟩ := hg
    obtain ⟨its, rv, p, hz⟩ := I.tuple hq
    obtain ⟨u, hu, ru⟩ := rv.get hx
    have hel : e < s.heap.objs.size := Heap.lt_size he
    have hil : it < s.heap.objs.size := by obtain ⟨_, q, _⟩ := hit; exact Heap.lt_size q
    have hia : a ≠ it := by
      rintro rfl
      obtain ⟨o1, q1, c1, _⟩ := hit
      obtain ⟨o2, q2, c2, _⟩ := id p
      rw [q1] at q2
      cases q2
      rw [c1] at c2
      exact absurd c2 (by decide)
    have hlt : i < its.toArray.size := by
      rw [List.size_toArray]
      exact (List.getElem?_eq_some_iff.mp hu).1
    by_cases hea : e = a
    · exfalso
      subst hea
      obtain ⟨o2, q2, c2, _⟩ := id p
      rw [show s.heap.get? e = _ from he] at q2
      cases q2
      replace c2 : Value.type "enumerate" = Value.type "tuple" := c2
      exact absurd c2 (by decide)
    refine wpAny_pyNext_enum_itemD (Draws.tuple (A := X.A.in1) (I.ok.hd hc) it a hia its.toArray) he ⟨hit, p⟩ hlt hne (by simp [hne, hea]) fun y h' tk hy ho hst hT hsz hk => ?_
    obtain ⟨hit', _⟩ := hst
    have eu : y = u := by
      have h1 : its[i]? = some y := by simpa using hy
      rw [hu] at h1
      exact (Option.some.inj h1).symm
    subst eu
    refine ⟨_, rfl, wpAny_letOwnedTupleGo_enum (s := { s with heap := h', toks := tk + 1 }) ho fun h'' he' sb => ?_⟩
    have hT2 : h''.get? s.heap.objs.size = some { cls := .type "tuple", data := .seq #[.int i tk, y] } := (sb.2 _ (Nat.ne_of_gt hel)).trans hT
    have new : ObjOk X.prog X.w (upd H s.heap.objs.size (.tup [.int (i : Nat), x])) h'' s.heap.objs.size (.tup [.int (i : Nat), x]) :=
      ⟨by show 2 ≤ sizeLine; decide, [.int i tk, y], .cons ⟨_, rfl⟩ (.cons ru .nil), ⟨_, hT2, rfl, _, rfl⟩⟩
    have I1 : Inv X pins σ (upd H s.heap.objs.size (.tup [.int (i : Nat), x])) { s with heap := h'', toks := tk + 1 } :=
      I.turnedNew (ch := [e, it]) (fun b ob hb q => (sb.2 b (fun z => hb (by simp [z]))).trans (hk b ob (fun z => hb (by simp [z])) (fun z => hb (by simp [z])) q)) hf (Nat.le_refl _) new
    refine ⟨.ref s.heap.objs.size, _, I1, rfl, ⟨_, x, rfl, I.hok.fresh (Nat.le_refl _), rfl, fun ys hy => by rw [I.tuple_inj hy hq]; exact hx⟩, ⟨⟨y, ?_⟩, hit'.at fun o q => (sb.2 it (Ne.symm hne)).trans q, hne⟩, fun b hb => ?_⟩
    · have e1 : ((i + 1 : Nat) : Int) = (i : Int) + 1 := by omega
      rw [e1]; exact he'
    · have hb' : b < s.heap.objs.size := by
        have e' : b = e ∨ b = it := by simpa using hb
        rcases e' with z | z
        · rw [z]; exact hel
        · rw [z]; exact hil
      rw [upd_ne (Nat.ne_of_lt hb')]
      exact (hf b hb).1
  done := by
    intro X hP hw hK hc i pins s σ H E I hf st hg
    subst hP hw hK
    obtain ⟨⟨old, he⟩, hit, hne⟩ := st
    obtain ⟨xs, hq, hx⟩ := hg
    obtain ⟨its, rv, p, hz⟩ := I.tuple hq
    obtain ⟨f0, f1, f2, f3, f4, f5⟩ := hf it (by simp)
    have hl := rv.length
    have hT : s.TypeIs (.ref e) "enumerate" := ⟨_, he, rfl⟩
    unfold pyNext
    refine wpAny_bind (wpAny_attempt (wpAny_callSpecial?_slot (name := Str.ofString "__next__") hT F.slot_enumerate_next
      (wpAny_call_entry F.slot_enumerate_next hT F.entry_enumerate_next ?_ (F.args_enumerate_next_1 _))))
    show wpAny _ _ (field (.ref e) 2 >>= _) _ _ _
    refine wpAny_bind (wpAny_field he rfl (x := .ref it) rfl ?_)
    refine wpAny_bind (wpAny_nextOf_tuple_end (I.ok.hd hc) hit p (by simp; omega) fun h' x he' hx' => ?_)
    obtain ⟨o, ho, hc⟩ := hx'
    refine wpAny_bind (wpAny_isInstance (T := "StopIteration") (b := true) ⟨o, ho, hc⟩ isSubtype_stop ?_)
    exact wpAny_pure ⟨rfl, I.turned (t' := s.toks) (fun b o hb q => he' b o hb q) f0 f1 f3 f4 f5⟩
  self := fun A i s Q E st h => let ⟨⟨_, he⟩, _⟩ := st; wpAny_pyIter_enum he h
def iEnumT (K : PySem.W.Frag) (ta : TA) : TI := fun σ H R => ta σ H fun vs H1 => ∃ a xs, vs = [.ref a] ∧ SqT K H1 a xs ∧ R (IteT K a) H1
theorem pi_enumT {X : Cx} {e : Expr} {ta : TA} {p pos tpos : Pos} {elts : List Expr} {kk : Nat} (hg : Gl X "enumerate") (hm : X.mg "enumerate" = none) (ha : PA X [e] ta) (hs : starEach [e] X.env = [(false, eval e X.env)] := by rfl) :
    PI X (.Tuple elts kk tpos) (.Call (.Name "enumerate" p) [e] [] pos) (iEnumT X.K ta) := by
  refine ⟨fun pins s σ H R I h => ?_⟩
  refine Call_ (ld_blt I hg hm boot_enumerate (PyProof.Rows.callWith_type1 (thn (ha.run pos pins s σ H _ I h) fun us s1 ⟨vs, H1, I1, r1, q1⟩ => ?_) hs rfl))
  obtain ⟨a, xs, ex, hq, q⟩ := q1
  subst ex
  cases r1 with
  | cons r rr =>
    cases rr
    cases r
    obtain ⟨its, rv, p', hz⟩ := I1.tuple hq
    refine call_enumerate_tuple p' fun h' he hit hsz hk => wpAny_pyIter_enum he ?_
    have I2 : Inv X pins σ H1 { s1 with heap := h' } := I1.kept (t' := s1.toks) hk
    refine ⟨s1.heap.objs.size + 1, [s1.heap.objs.size + 1, s1.heap.objs.size], _, _, H1, rfl, I2, turn_enumT a (s1.heap.objs.size + 1) s1.heap.objs.size, ⟨⟨.none, he⟩, hit, Nat.succ_ne_self _⟩, fun b hb => ?_, q⟩
    have e' : b = s1.heap.objs.size + 1 ∨ b = s1.heap.objs.size := by simpa using hb
    have hle : s1.heap.objs.size ≤ b := by
      rcases e' with z | z
      · rw [z]; exact Nat.le_add_right _ _
      · rw [z]; exact Nat.le_refl _
    exact I1.fpOk hle (I1.hok.fresh hle)
theorem walk_enumT {K : PySem.W.Frag} {a : Addr} {xs : List V} : Walk (IteT K a) xs.length (fun H => SqT K H a xs) (YPair (fun i => some (.int (i : Nat))) (fun i => xs[i]?)) := by
  refine ⟨fun i _ hi q => ⟨xs, xs[i], q, by simp [hi]⟩, fun _ q => ⟨xs, q, Nat.le_refl _⟩, fun i H v H' _ q y => ?_⟩
  obtain ⟨T, x, h1, h2, h3, h4⟩ := y
  exact ⟨T, .int (i : Nat), x, h1, h2, h3, rfl, h4 xs q⟩
end TT

set_option Elab.async false
set_option linter.all false
set_option maxRecDepth 100000
set_option maxHeartbeats 4000000
/-! len(x), x[i], y in x by the own __len__, __getitem__, __contains__ of a class. -/
namespace TT
open PySem PySem.Spec PyProof.Rows L2 LamX
section
variable {X : Cx} {CX : CXT} {k : Nat} {f C : Addr} {fd : FuncData} {ps : List Str} {sp : Sp} {E : XK} {a b : Expr} {ta tb : TE} {pos : Pos}
theorem run_fn1 {pins : List (Addr × Obj)} {σ : L2.St} {H : Hp} {s : Shared} {Q : VK} {us : List Value} {vs : List V} (F : FnOk X.prog X.w X.K X.mg X.base CX k f fd ps sp) (hr : Room k X.A.in1) (hb : Binds X.K fd ps []) (hx : Passes CX X E)
    (I : Inv X pins σ H s) (r : Vals vs us) (h : sp vs H Q E) : wpAny (model X.prog X.w) X.A.in1 (call (.ref f) us) (EP X pins σ Q) X.xe s := by
  have e0 : Env0 X.prog X.w X.K X.mg X.base X.A.in1 X.stack s H := by
    have e := I.env0
    exact ⟨e.frames, e.mod, e.bs, e.bsz, e.funs, e.frf, e.hok, e.bare⟩
  have hl := F.len _ _ _ _ h
  refine wpAny_call (codeAny_mono (F.run X.A.in1 X.stack s H ⟨us, []⟩ us vs Q E hr e0 (by
    have := hb s us I.kIn (by rw [List.append_nil, ← r.length]; exact hl)
    rw [List.append_nil] at this
    exact this) r h) fun r s' hq => ?_)
  cases r with
  | error e => exact hx pins σ H s e s' I hq
  | ok fl =>
    cases fl with
    | ret w => exact I.after hq
    | next => exact False.elim hq
    | brk => exact False.elim hq
    | cont => exact False.elim hq
/-- len(x) by the own __len__ -/
def rLenO (C : Addr) (sp : Sp) (E : XK) : List V → Hp → VK → Prop := fun vs H Q => ∃ a dx fs, vs = [V.ref a] ∧ H a = some (.ins C dx fs) ∧ sp [.ref a] H (fun v H' => ∃ n : Int, v = .int n ∧ (0 ≤ n ∧ n < 2 ^ 63) ∧ Q (.int n) H') E
theorem call_lenO (F : FnOk X.prog X.w X.K X.mg X.base CX k f fd ps sp) (hr : Room k X.A.in1) (hb : Binds X.K fd ps []) (hx : Passes CX X E)
    (hs : PySem.W.findIn X.K (.ref C) "__len__" = some (some (.ref f))) (hf : PySem.W.isFn X.K (.ref f) = true) : CallR X (.builtin "len") (rLenO C sp E) := by
  intro pins s σ H xs us Q I r h
  obtain ⟨a, dx, fs, rfl, ha, hq⟩ := h
  obtain ⟨u, rfl, ru⟩ := vals1 r
  obtain rfl : u = Value.ref a := ru
  obtain ⟨mA, O, _⟩ := ins_get I.hok ha
  obtain ⟨od, J, _⟩ := O.look
  obtain ⟨m, hF⟩ := I.fr
  refine PySem.W.len_K hF I.ok.mod.kin J hs hf (wpAny_mono (run_fn1 (vs := [.ref a]) (us := [.ref a]) F hr hb hx I (.cons rfl .nil) hq) (fun v' s' z => ?_) fun _ _ z => z)
  obtain ⟨w', H', I', r', n, rfl, hn, q⟩ := z
  obtain ⟨t, rfl⟩ := r'
  exact ⟨hn, .int n, H', I'.tok _, ⟨_, rfl⟩, q⟩
/-- x[i] by the own __getitem__ -/
def rIxO (C : Addr) (sp : Sp) (E : XK) : R2 := fun x y H Q => ∃ a dx fs, x = V.ref a ∧ H a = some (.ins C dx fs) ∧ sp [.ref a, y] H Q E
def PlainIxT (b : Expr) : Prop := ∀ o i, subscripted b true o i = runValue (.builtin "lifetime.subscript" ⟨[o, i], []⟩)
theorem pe_ixO (F : FnOk X.prog X.w X.K X.mg X.base CX k f fd ps sp) (hr : Room k X.A.in1) (hb : Binds X.K fd ps []) (hx : Passes CX X E)
    (hs : PySem.W.findIn X.K (.ref C) "__getitem__" = some (some (.ref f))) (hf : PySem.W.isFn X.K (.ref f) = true) (hn : PySem.W.fnIn X.K f = true) (ha : PE X a ta) (hb' : PE X b tb) (hp : PlainIxT b) : PE X (.Subscript a b pos) (tOp (rIxO C sp E) ta tb) := by
  refine ⟨fun pins s σ H Q I h => ?_⟩
  refine Subscript_ (binT ha hb' I h fun v u s2 x y H2 I2 rx ry q => ?_)
  obtain ⟨a', dx, fs, rfl, h1, hq⟩ := q
  obtain rfl : v = Value.ref a' := rx
  obtain ⟨mA, O, _⟩ := ins_get I2.hok h1
  obtain ⟨od, J, _⟩ := O.look
  obtain ⟨m, hF⟩ := I2.fr
  exact PySem.W.sub_K hF I2.ok.mod.kin J hs hn hf (run_fn1 (vs := [.ref a', y]) (us := [.ref a', u]) F hr hb hx I2 (.cons rfl (.cons ry .nil)) hq) (hp _ _)
/-- y in x, y not in x, by the own __contains__, which answers by a bool -/
def rInOwn (C : Addr) (sp : Sp) (E : XK) (neg : Bool) : R2 := fun y x H Q => ∃ a dx fs, x = V.ref a ∧ H a = some (.ins C dx fs) ∧ sp [.ref a, y] H (fun v H' => ∃ b, v = V.bl b ∧ Q (.bl (if neg then !b else b)) H') E
theorem op_inOwn (F : FnOk X.prog X.w X.K X.mg X.base CX k f fd ps sp) (hr : Room k X.A) (hb : Binds X.K fd ps []) (hx : Passes CX X E)
    (hs : PySem.W.findIn X.K (.ref C) "__contains__" = some (some (.ref f))) (hf : PySem.W.isFn X.K (.ref f) = true) : OpR X (compareOp .In) (rInOwn C sp E false) := by
  intro pins s σ H y x u v Q I ry rx h
  obtain ⟨a, dx, fs, rfl, ha, hq⟩ := h
  obtain rfl : v = Value.ref a := rx
  obtain ⟨mA, O, _⟩ := ins_get I.hok ha
  obtain ⟨od, J, _⟩ := O.look
  obtain ⟨m, hF⟩ := I.fr
  refine PySem.W.in_K hF I.ok.mod.kin J hs hf (wpAny_mono (run_fn (us := [.ref a, u]) (vs := [.ref a, y]) (dvs := []) (ds := []) F hr hb .nil hx I (.cons rfl (.cons ry .nil)) hq) (fun v' s' z => ?_) fun _ _ z => z)
  obtain ⟨w', H', I', r', c, rfl, q⟩ := z
  obtain rfl : v' = Value.bool c := r'
  exact wpAny_truthy_bool (by exact ⟨.bl c, H', I', rfl, q⟩)
theorem op_notInOwn (F : FnOk X.prog X.w X.K X.mg X.base CX k f fd ps sp) (hr : Room k X.A) (hb : Binds X.K fd ps []) (hx : Passes CX X E)
    (hs : PySem.W.findIn X.K (.ref C) "__contains__" = some (some (.ref f))) (hf : PySem.W.isFn X.K (.ref f) = true) : OpR X (compareOp .NotIn) (rInOwn C sp E true) := by
  intro pins s σ H y x u v Q I ry rx h
  obtain ⟨a, dx, fs, rfl, ha, hq⟩ := h
  obtain rfl : v = Value.ref a := rx
  obtain ⟨mA, O, _⟩ := ins_get I.hok ha
  obtain ⟨od, J, _⟩ := O.look
  obtain ⟨m, hF⟩ := I.fr
  refine PySem.W.notIn_K hF I.ok.mod.kin J hs hf (wpAny_mono (run_fn (us := [.ref a, u]) (vs := [.ref a, y]) (dvs := []) (ds := []) F hr hb .nil hx I (.cons rfl (.cons ry .nil)) hq) (fun v' s' z => ?_) fun _ _ z => z)
  obtain ⟨w', H', I', r', c, rfl, q⟩ := z
  obtain rfl : v' = Value.bool c := r'
  exact wpAny_truthy_bool (by exact ⟨.bl (!c), H', I', rfl, q⟩)
end
end TT

set_option Elab.async false
set_option linter.all false
set_option maxRecDepth 100000
set_option maxHeartbeats 4000000
/-! own == and != with a thing of a built-in type; == of two dicts of data, with either answer. -/
namespace TT
open PySem PySem.Spec PyProof.Rows L2 LamX
/-- x == y by the own __eq__, y of a built-in type -/
def rEqT (K : PySem.W.Frag) (C : Addr) (sp : Sp) (E : XK) : R2 := fun x y H Q => ∃ a dx fs T, x = V.ref a ∧ H a = some (.ins C dx fs) ∧ Ty H y T ∧ PySem.W.notFirst K C (.type T) = true ∧ sp [.ref a, y] H (fun v H' => (∃ b, v = V.bl b) ∧ Q v H') E
def rNeT (K : PySem.W.Frag) (C : Addr) (sp : Sp) (E : XK) : R2 := fun x y H Q => ∃ a dx fs T, x = V.ref a ∧ H a = some (.ins C dx fs) ∧ Ty H y T ∧ PySem.W.notFirst K C (.type T) = true ∧ sp [.ref a, y] H (fun v H' => ∃ b, v = V.bl b ∧ Q (.bl (!b)) H') E
section
variable {X : Cx} {CX : CXT} {k : Nat} {f C : Addr} {fd : FuncData} {ps : List Str} {sp : Sp} {E : XK}
theorem op_eqT (F : FnOk X.prog X.w X.K X.mg X.base CX k f fd ps sp) (hr : Room k X.A) (hb : Binds X.K fd ps []) (hx : Passes CX X E)
    (hs : PySem.W.findIn X.K (.ref C) "__eq__" = some (some (.ref f))) (hf : PySem.W.isFn X.K (.ref f) = true) : OpR X (compareOp .Eq) (rEqT X.K C sp E) := by
  intro pins s σ H x y v u Q I rx ry h
  obtain ⟨a, dx, fs, T, rfl, ha, ty, hn, hq⟩ := h
  obtain rfl : v = Value.ref a := rx
  obtain ⟨mA, O, _⟩ := ins_get I.hok ha
  obtain ⟨od, J, _⟩ := O.look
  obtain ⟨m, hF⟩ := I.fr
  show wpAny (model X.prog X.w) X.A (richCompare .Eq (.ref a) u) (EP X pins σ Q) X.xe s
  refine PySem.W.cmp_K (op := .Eq) hr.units0 hF I.ok.mod.kin J (Ty.looks I ry ty) hn hs hf (wpAny_mono (run_fn (us := [.ref a, u]) (vs := [.ref a, y]) (dvs := []) (ds := []) F hr hb .nil hx I (.cons rfl (.cons ry .nil)) hq) (fun v' s' z => ?_) fun _ _ z => z)
  obtain ⟨w', H', I', r', ⟨c, rfl⟩, q⟩ := z
  obtain rfl : v' = Value.bool c := r'
  exact ⟨.bl c, H', I', rfl, q⟩
theorem op_neT (F : FnOk X.prog X.w X.K X.mg X.base CX k f fd ps sp) (hr : Room k X.A.in1) (hu : X.A.units + 64 < cLine) (hb : Binds X.K fd ps []) (hx : Passes CX X E)
    (hm : PySem.W.mroIn X.K C (.type "object") = some true) (hne : PySem.W.findIn X.K (.ref C) "__ne__" = some (some (.builtin "object.__ne__")))
    (hs : PySem.W.findIn X.K (.ref C) "__eq__" = some (some (.ref f))) (hf : PySem.W.isFn X.K (.ref f) = true) : OpR X (compareOp .NotEq) (rNeT X.K C sp E) := by
  intro pins s σ H x y v u Q I rx ry h
  obtain ⟨a, dx, fs, T, rfl, ha, ty, hn, hq⟩ := h
  obtain rfl : v = Value.ref a := rx
  obtain ⟨mA, O, _⟩ := ins_get I.hok ha
  obtain ⟨od, J, _⟩ := O.look
  show wpAny (model X.prog X.w) X.A (richCompare .NotEq (.ref a) u) (EP X pins σ Q) X.xe s
  refine ne_K (by omega) I.kIn J (Ty.looks I ry ty) hn hm hne hs hf (wpAny_mono (run_fn1 (vs := [.ref a, y]) (us := [.ref a, u]) F hr hb hx I (.cons rfl (.cons ry .nil)) hq) (fun v' s' z => ?_) fun _ _ z => z)
  obtain ⟨w', H', I', r', c, rfl, q⟩ := z
  obtain rfl : v' = Value.bool c := r'
  exact ⟨c, rfl, .bl (!c), H', I', rfl, q⟩
end
/-- the values of two dicts of the same keys, each pair with its answer -/
inductive DHits (K : PySem.W.Frag) (H : Hp) (ls : List (Key × V)) : List (Key × V) → Bool → Prop
  | nil : DHits K H ls [] true
  | cons {p : Key × V} {ps : List (Key × V)} {u : V} {d e : PyData} {b : Bool} : valV ls p.1 = some u → Dp K H p.2 d → Dp K H u e → SeqAt.shaped d = true → SeqAt.shaped e = true → DHits K H ls ps b → DHits K H ls (p :: ps) (PyData.eqv d e && b)
def rEqDD (K : PySem.W.Frag) : R2 := fun x y H Q => ∃ a b ks ls e, x = V.ref a ∧ y = V.ref b ∧ H a = some (.dK ks) ∧ H b = some (.dK ls) ∧ ks.length = ls.length ∧ DHits K H ls ks e ∧ Q (.bl e) H
section
variable {X : Cx} {pins : List (Addr × Obj)} {σ : L2.St} {H : Hp} {s : Shared}
theorem DHits.run {A : Around} (I : Inv X pins σ H s) (hu : A.units + 64 < cLine) {ls : List (Key × V)} {vb : List (Key × Value)} (rb : KV ls vb) {ks : List (Key × V)} {e : Bool} (h : DHits X.K H ls ks e) : ∀ {va : List (Key × Value)}, KV ks va → PySem.W.KeqHitsP X.prog X.w A s vb va e := by
  induction h with
  | nil =>
    intro va ra
    unfold KV at ra
    cases ra
    exact .nil
  | @cons p ps u d e b hv h1 h2 s1 s2 _ ih =>
    intro va ra
    unfold KV at ra
    cases ra with
    | @cons _ q _ qs hd tl =>
      obtain ⟨e1, e2⟩ := hd
      have rr : RelO (some u) (valueAt vb p.1) := by rw [← hv]; exact rb.val p.1
      obtain ⟨y, hy, ry⟩ := rr.some_of
      obtain ⟨key, v⟩ := q
      have e1' : p.1 = key := e1
      rw [e1'] at hy
      obtain ⟨as, r1⟩ := Dp.reads I d _ _ h1 e2
      obtain ⟨bs, r2⟩ := Dp.reads I e _ _ h2 ry
      exact .hit hy (SeqAt.eqAt_reads d e A s _ _ as bs r1 r2 (SeqAt.canLay_of_shaped s1) (SeqAt.canLay_of_shaped s2) (SeqAt.room_of_shaped s1 hu)).eqP (ih tl)
theorem op_eqDD (hu : X.A.units + 65 < cLine) : OpR X (compareOp .Eq) (rEqDD X.K) := by
  intro pins s σ H x y v u Q I rx ry h
  obtain ⟨a, b, ks, ls, e, rfl, rfl, ha, hb, hl, hh, q⟩ := h
  obtain rfl : v = Value.ref a := rx
  obtain rfl : u = Value.ref b := ry
  obtain ⟨_, ya, va, ra, da⟩ := (show ObjOk X.prog X.w H s.heap a (.dK ks) from I.hok a _ ha)
  obtain ⟨_, yb, vb, rb, db⟩ := (show ObjOk X.prog X.w H s.heap b (.dK ls) from I.hok b _ hb)
  show wpAny (model X.prog X.w) X.A (richCompare .Eq (.ref a) (.ref b)) (EP X pins σ Q) X.xe s
  refine PySem.W.rcP_dicts (knd := mixKind X.prog X.w) (r := e) ya yb da db (by omega) (fun _ => hh.run (A := X.A.in1) I (by show X.A.units + 1 + 64 < cLine; omega) rb ra) X.xe _ ?_
  have e2 : va.length = vb.length := by rw [← ra.length, ← rb.length]; exact hl
  rw [show (va.length == vb.length && e) = e from by rw [e2]; simp]
  exact ⟨.bl e, H, I, rfl, q⟩
end
end TT

set_option Elab.async false
set_option linter.all false
set_option maxRecDepth 100000
set_option maxHeartbeats 4000000
/-! Lambdas of several defs: tables in which each code object bears the name that its place has. -/
namespace TT
open PySem PySem.Spec PyProof.Rows L2 LamX NdefX
section
variable {X : Cx} {pins : List (Addr × Obj)} {σ : L2.St} {H : Hp} {s : Shared}
theorem lam_makeN {T : List NTab} {nm : Nat → Nat → Str} {cd PT : Addr} {as : Arguments} {bd : Expr} {sc : Scope} {lp : Pos} {ER : Value → Shared → Prop} {R : Value → Shared → Prop} (I : Inv X pins σ H s) (TB : TabB X.base X.mg cd PT) (hcd : X.env.code = .ref cd)
    (mem : (PT, nm) ∈ T) (named : nm lp.line lp.col = X.env.qual ++ "<lambda>") (alike : ∀ p ∈ T, p.1 = PT → p.2 = nm) (tT : TabsN T H) (nodef : defaultsOf as X.env = ([], [])) (fr : ∀ y ∈ sc.names, y.2 = .free → ∃ c, X.env.cells.lookup y.1 = some c)
    (go : ∀ (f c1 : Addr) (pm ctv : Value) (H1 : Hp) (s1 : Shared), Inv X pins σ H1 s1 → ExtN H H1 → TabsN T H1 →
      s1.heap.get? f = some (PySem.W.kla_obj "<lambda>" (X.env.qual ++ "<lambda>") as bd sc (cloFrom X.env.cells sc.names []) pm c1 ctv) → H1 f = none → f ∉ frs X.stack → H1 c1 = some (CodeO c1 (X.env.qual ++ "<lambda>")) → R (.ref f) s1) :
    wpAny (model X.prog X.w) X.A (eval (.Lambda as bd sc lp) X.env) R ER s := by
  obtain ⟨tb, tP, tri, each⟩ := (show TabN H PT nm from tT _ mem)
  refine PySem.W.kla_eval nodef ?_
  have bAt := TB.bm.keeps I.bk
  have sP : s.heap.get? PT = some { cls := .none, data := .fields tb } := I.hok PT _ tP
  have away : ∀ g, s.heap.objs.size ≤ g → g ∉ frs X.stack := fun g big m => by
    rcases List.mem_cons.mp (I.stkSub _ m) with e | e
    · have lt := I.lt
      rw [← e] at lt
      exact absurd lt (Nat.not_lt.mpr big)
    · exact I.nofs big e
  cases found : codeAmong lp tb.toList with
  | none =>
    refine PySem.W.kla_makeFunction (mg := X.mg) (c := cd) (P := PT) (ps := tb) (closure_ok fr) I.ok.glob (I.mod.glob.keeps I.bk) hcd (TB.code.keeps I.bk) sP tri found TB.gP bAt fun c1 ctv hn tk old ge lt rec tab => ?_
    obtain ⟨c2, oc, fl, tg, ec, gc, dc, nc⟩ := rec
    cases ec
    have ge2 : s.heap.objs.size ≤ hn.objs.size := by omega
    have new : H c1 = none := I.hok.fresh ge
    have J := inv_table (t' := tk) (more := #[rawInt lp.line, rawInt lp.col, .ref c1]) (h' := hn.push (PySem.W.kla_obj "<lambda>" (X.env.qual ++ "<lambda>") as bd sc (cloFrom X.env.cells sc.names []) ((X.mg "__name__").getD .none) c1 ctv)) I tP
      (fun b o ne g => Heap.get?_push_of_some _ (old b o ne g)) (Heap.get?_push_of_some _ tab) ge ⟨oc, fl, tg, Heap.get?_push_of_some _ gc, dc, nc⟩
    have ext : ExtN H (upd (upd H PT (.tbl (tb ++ #[rawInt lp.line, rawInt lp.col, .ref c1]))) c1 (CodeO c1 (X.env.qual ++ "<lambda>"))) := fun b o hb no => by
      rw [upd_ne (ne_of_none hb new), upd_ne (fun z => no tb (Option.some.inj (hb.symm.trans (by rw [z]; exact tP))))]
      exact hb
    have app : (tb ++ #[rawInt lp.line, rawInt lp.col, .ref c1]).toList = tb.toList ++ [rawInt lp.line, rawInt lp.col, .ref c1] := by simp
    refine go hn.objs.size c1 ((X.mg "__name__").getD .none) ctv _ _ J ext (fun p hp => ?_) (Heap.get?_push_size _ rfl) ?_ (away _ ge2) upd_same
    · by_cases here : p.1 = PT
      · rw [alike p hp here, here]
        refine ⟨_, (upd_ne (ne_of_none tP new)).trans upd_same, by rw [app]; exact PySem.TriplesOk_snoc _ _ _ _ tri, fun p2 cv among => ?_⟩
        rw [app] at among
        rcases among_app2 _ tri among with was | ⟨is, l1, l2⟩
        · obtain ⟨c0, g1, g2⟩ := each p2 cv was
          exact ⟨c0, g1, ext _ _ g2 codeO_ne⟩
        · refine ⟨c1, is, ?_⟩
          rw [← l1, ← l2, named]
          exact upd_same
      · obtain ⟨tb2, a1, a2, a3⟩ := tT p hp
        refine ⟨tb2, (upd_ne (ne_of_none a1 new)).trans ((upd_ne here).trans a1), a2, fun p2 cv among => ?_⟩
        obtain ⟨c0, g1, g2⟩ := a3 p2 cv among
        exact ⟨c0, g1, ext _ _ g2 codeO_ne⟩
    · have n1 : hn.objs.size ≠ c1 := by omega
      have n2 : hn.objs.size ≠ PT := by
        have small := Heap.lt_size sP
        exact (Nat.ne_of_lt (Nat.lt_of_lt_of_le small ge2)).symm
      exact (upd_ne n1).trans ((upd_ne n2).trans (I.hok.fresh ge2))
  | some cv =>
    obtain ⟨c1, ec, known⟩ := each lp cv found
    subst ec
    rw [named] at known
    refine PySem.W.kla_makeFunctionHit (mg := X.mg) (c := cd) (P := PT) (ps := tb) (closure_ok fr) I.ok.glob (I.mod.glob.keeps I.bk) hcd (TB.code.keeps I.bk) sP tri found bAt fun ctv hn tk old ge => ?_
    have J : Inv X pins σ H { s with heap := hn.push (PySem.W.kla_obj "<lambda>" (X.env.qual ++ "<lambda>") as bd sc (cloFrom X.env.cells sc.names []) ((X.mg "__name__").getD .none) c1 ctv), toks := tk } := I.kept fun b o g => Heap.get?_push_of_some _ (old b o g)
    exact go hn.objs.size c1 ((X.mg "__name__").getD .none) ctv H _ J (ExtN.refl H) tT (Heap.get?_push_size _ rfl) (I.hok.fresh ge) (away _ ge) known
end
section
variable {X : Cx} {k j i : Nat} {f g : Addr} {fd : FuncData} {ps : List Str} {sp : (XK → Hp → VK → Prop) → List V → Hp → VK → Prop} {x : Str} {p pos : Pos} {es : List Expr} {ta : TA}
/-- g(lambda: body, ..): T the tables of code objects, named by places -/
theorem pe_lamN {T : List NTab} {nm : Nat → Nat → Str} {c PT : Addr} {params : Arguments} {body : Expr} {scope : Scope} {t : XK → TE} {lpos : Pos} (L : LOk X.prog X.w X.K X.mg X.base j k g fd ps sp) (gd : X.A.guards = some []) (hr : Room j X.A) (hb : Binds X.K fd ps [])
    (hg : Gl X x) (hm : X.mg x = some (.ref g)) (hk : PySem.W.keepIn X.K (.ref g) = true) (ha : PA X es ta)
    (TB : TabB X.base X.mg c PT) (hcode : X.env.code = .ref c) (hmT : (PT, nm) ∈ T) (hu : ∀ p ∈ T, p.1 = PT → p.2 = nm) (hn : nm lpos.line lpos.col = X.env.qual ++ "<lambda>") (S : LamS X.env.scope scope) (hdef : defaultsOf params X.env = ([], []))
    (hbind : ∀ (q : Str) (cl : List (Str × Addr)) (pm cv ctv : Value), bindArgs (PySem.W.kla_fn "<lambda>" q params body scope cl pm cv ctv) ⟨[], []⟩ = pure [])
    (hbody : ∀ (A : Around) (outer : List Env) (s : Shared) (H : Hp) (E : XK) (f c' : Addr), Room k (A.deeper (lamEnv X scope s.heap.objs.size f c')) → PE (lamCx X A outer s H E scope f c') body (t E))
    (hdb : (x == ("__debug__" : Str)) = false := by decide)
    (he : starEach (.Lambda params body scope lpos :: es) X.env = (false, eval (.Lambda params body scope lpos) X.env) :: starEach es X.env := by rfl) (hpl : (backTo pos (starEach es X.env)).any (·.1) = false := by rfl) :
    PE X (.Call (.Name x p) (.Lambda params body scope lpos :: es) [] pos)
      (fun σ H Q => TabsN T H ∧ ∀ H1 c', ExtN H H1 → TabsN T H1 → H1 c' = some (CodeO c' (X.env.qual ++ "<lambda>")) → ta σ H1 fun ws H2 => sp (fun E H' Q' => H' c' = some (CodeO c' (X.env.qual ++ "<lambda>")) ∧ t E σ H' Q') ws H2 Q) := by
  constructor
  intro pins s σ H Q I ⟨hT, h⟩
  refine wpAny_Call_Name_kw (ld_glob I hg hm ?_ hdb)
  refine PySem.W.callWith_K (h₀ := X.base) I.ok.mod.kin hk ?_ he hpl
  rw [he]
  refine Calls.spliced_cons (lam_makeN I TB hcode hmT hn hu hT hdef (S.has I.ok) fun f c' pm ctv H1 s1 I1 eN T1 hf hfn hfr hco => ?_)
  have fL : f ≠ X.env.locals := fun z => by
    obtain ⟨m, ⟨o, es, ep, e1, e2, _⟩, _⟩ := I1.loc
    rw [← z, hf] at e1
    cases e1
    cases e2
  have fF : f ∉ X.fs := fun z => hfr (by
    rcases I1.ok.stk with q | ⟨q, hf2⟩
    · rw [q]; exact z
    · rw [q]; unfold frs; rw [List.filterMap_cons, hf2]; exact List.mem_cons_of_mem _ z)
  generalize hob : PySem.W.kla_obj "<lambda>" (X.env.qual ++ "<lambda>") params body scope (cloFrom X.env.cells scope.names []) pm c' ctv = ob at hf
  have I1p : Inv X ((f, ob) :: pins) σ H1 s1 := I1.pins_of fun q hq => by
    rcases List.mem_cons.mp hq with z | z
    · subst z
      exact ⟨hf, hfn, fL, fF, fun v z => by rw [← hob] at z; cases z⟩
    · exact I1.pin q (List.mem_append_right _ z)
  refine thn (ha.run pos ((f, ob) :: pins) s1 σ H1 _ I1p (h H1 c' eN T1 hco)) fun us s2 ⟨ws, H2, I2p, r, q⟩ => ⟨I2p.kIn, ?_⟩
  have I2 : Inv X pins σ H2 s2 := I2p.pins_of fun q hq => I2p.pin q (List.mem_append_right _ (List.mem_cons_of_mem _ hq))
  obtain ⟨e2, n2, _⟩ := I2p.pin (f, ob) (List.mem_append_right _ List.mem_cons_self)
  refine run_L (f := f) (tl := fun E H' Q' => H' c' = some (CodeO c' (X.env.qual ++ "<lambda>")) ∧ t E σ H' Q') L gd hr hb I2 ⟨⟨_, _, _, _, by rw [← hob] at e2; exact e2⟩, n2, hfr, fun A outer s3 HZ Q' E hrA e0 un ⟨hc', ht⟩ => ?_⟩ r q
  have e3 := un.keep f _ e2 n2 hfr List.not_mem_nil
  rw [← hob] at e3
  obtain ⟨⟨oc, vs, tk, hoc, hdc, hvc⟩, _, _⟩ := e0.hok c' _ hc'
  refine PySem.W.kla_callFunE hrA.depth e3 rfl S.co S.gen rfl ⟨c', oc, vs, tk, rfl, hoc, hdc, hvc⟩ ?_
  rw [hbind]
  have lim : s3.heap.NoLimit := e0.mod.nolimit.keeps fun b o z => (e0.bs b o z).1
  refine wpAny_pure (wpAny_newFunctionEnv (fun y hy => (S.own y hy).2) (fun y hy => absurd hy List.not_mem_nil) (fun h₁ hns hsb => ⟨lim.fresh _ hsb, ?_⟩) S.kind)
  show codeAny _ _ (.expr body (lamEnv X scope s3.heap.objs.size f c')) _ _
  have kp : ∀ b o, s3.heap.get? b = some o → h₁.get? b = some o := fun b o z => hsb.extBut b o (Nat.ne_of_lt (Heap.lt_size z)) (Heap.get?_push_of_some _ z)
  have J := lam_start2 (f := f) (c' := c') (E := E) (tk := s3.toks + ([] : List (Str × Value)).length) I2 S e0 hrA.hd un hns kp
  refine PySem.W.kla_codeExpr (wpAny_mono ((hbody A outer s3 HZ E f c' (hrA.deeper _)).run [] _ σ HZ Q' J ht) (fun v s' ⟨w', H', J', rv, q'⟩ => ⟨w', H', J'.os, J'.bare, J'.base, J'.hok, rv, q'⟩) fun _ _ z => z)
end
end TT

set_option Elab.async false
set_option linter.all false
set_option maxRecDepth 100000
set_option maxHeartbeats 4000000
/-! Lambdas without parameters that stand in a list: tracked; called, and handed on, within a comprehension of the def that made them. -/
namespace TT
open PySem PySem.Spec PyProof.Rows L2 LamX NdefX
/-- the words of a lambda -/
structure LmD where
  qual : Str
  as : Arguments
  bd : Expr
  sc : Scope
  cl : List (Str × Addr)
  c : Addr
/-- at f stands this lambda -/
def LmO (f : Addr) (D : LmD) : HO := .ext fun h => ∃ pm ctv : Value, h.get? f = some (PySem.W.kla_obj "<lambda>" D.qual D.as D.bd D.sc D.cl pm D.c ctv)
theorem lmO_ne {f : Addr} {D : LmD} (ps : Array Value) : LmO f D ≠ .tbl ps := fun z => by
  unfold LmO at z
  cases z
theorem lmO_at {P : Program} {w : World} {H : Hp} {h : Heap} {f : Addr} {D : LmD} (hok : HOk P w H h) (e : H f = some (LmO f D)) : ∃ pm ctv : Value, h.get? f = some (PySem.W.kla_obj "<lambda>" D.qual D.as D.bd D.sc D.cl pm D.c ctv) := by
  obtain ⟨z, _, _⟩ := hok f _ e
  exact z
/-- a lambda of X's def -/
abbrev lmX (X : Cx) (as : Arguments) (bd : Expr) (sc : Scope) (c : Addr) : LmD := ⟨X.env.qual ++ "<lambda>", as, bd, sc, cloFrom X.env.cells sc.names [], c⟩
section
variable {X : Cx} {pins : List (Addr × Obj)} {σ : L2.St} {H : Hp} {s : Shared}
theorem inv_lm {D : LmD} {o : Obj} {t' : Nat} {pm ctv : Value} (I : Inv X pins σ H s) (ho : o = PySem.W.kla_obj "<lambda>" D.qual D.as D.bd D.sc D.cl pm D.c ctv) :
    Inv X pins σ (upd H s.heap.objs.size (LmO s.heap.objs.size D)) { s with heap := s.heap.push o, toks := t' } := by
  subst ho
  have lies : (s.heap.push (PySem.W.kla_obj "<lambda>" D.qual D.as D.bd D.sc D.cl pm D.c ctv)).get? s.heap.objs.size = some (PySem.W.kla_obj "<lambda>" D.qual D.as D.bd D.sc D.cl pm D.c ctv) := Heap.get?_push_size _ rfl
  exact I.laid (fun b u g => Heap.get?_push_of_some _ g) (Nat.le_refl _) ⟨⟨pm, ctv, lies⟩, ⟨_, lies⟩, fun h1 h2 ⟨p1, t1, z⟩ st => ⟨p1, t1, st _ z⟩⟩
/-- a lambda is made, and known from then on -/
theorem lam_makeT {T : List NTab} {nm : Nat → Nat → Str} {cd PT : Addr} {as : Arguments} {bd : Expr} {sc : Scope} {lp : Pos} {ER : Value → Shared → Prop} {R : Value → Shared → Prop} (I : Inv X pins σ H s) (TB : TabB X.base X.mg cd PT) (hcd : X.env.code = .ref cd)
    (mem : (PT, nm) ∈ T) (named : nm lp.line lp.col = X.env.qual ++ "<lambda>") (alike : ∀ p ∈ T, p.1 = PT → p.2 = nm) (tT : TabsN T H) (nodef : defaultsOf as X.env = ([], [])) (fr : ∀ y ∈ sc.names, y.2 = .free → ∃ c, X.env.cells.lookup y.1 = some c)
    (go : ∀ (f c1 : Addr) (H1 : Hp) (s1 : Shared), Inv X pins σ H1 s1 → ExtN H H1 → TabsN T H1 → H f = none → H1 f = some (LmO f (lmX X as bd sc c1)) → H1 c1 = some (CodeO c1 (X.env.qual ++ "<lambda>")) → R (.ref f) s1) :
    wpAny (model X.prog X.w) X.A (eval (.Lambda as bd sc lp) X.env) R ER s := by
  obtain ⟨tb, tP, tri, each⟩ := (show TabN H PT nm from tT _ mem)
  refine PySem.W.kla_eval nodef ?_
  have bAt := TB.bm.keeps I.bk
  have sP : s.heap.get? PT = some { cls := .none, data := .fields tb } := I.hok PT _ tP
  cases found : codeAmong lp tb.toList with
  | none =>
    refine PySem.W.kla_makeFunction (mg := X.mg) (c := cd) (P := PT) (ps := tb) (closure_ok fr) I.ok.glob (I.mod.glob.keeps I.bk) hcd (TB.code.keeps I.bk) sP tri found TB.gP bAt fun c1 ctv hn tk old ge lt rec tab => ?_
    obtain ⟨c2, oc, fl, tg, ec, gc, dc, nc⟩ := rec
    cases ec
    have new : H c1 = none := I.hok.fresh ge
    have J := inv_table (t' := tk) (more := #[rawInt lp.line, rawInt lp.col, .ref c1]) (h' := hn) I tP (fun b o ne g => old b o ne g) tab ge ⟨oc, fl, tg, gc, dc, nc⟩
    have ext : ExtN H (upd (upd H PT (.tbl (tb ++ #[rawInt lp.line, rawInt lp.col, .ref c1]))) c1 (CodeO c1 (X.env.qual ++ "<lambda>"))) := fun b o hb no => by
      rw [upd_ne (ne_of_none hb new), upd_ne (fun z => no tb (Option.some.inj (hb.symm.trans (by rw [z]; exact tP))))]
      exact hb
    have app : (tb ++ #[rawInt lp.line, rawInt lp.col, .ref c1]).toList = tb.toList ++ [rawInt lp.line, rawInt lp.col, .ref c1] := by simp
    have tT1 : TabsN T (upd (upd H PT (.tbl (tb ++ #[rawInt lp.line, rawInt lp.col, .ref c1]))) c1 (CodeO c1 (X.env.qual ++ "<lambda>"))) := fun p hp => by
      by_cases here : p.1 = PT
      · rw [alike p hp here, here]
        refine ⟨_, (upd_ne (ne_of_none tP new)).trans upd_same, by rw [app]; exact PySem.TriplesOk_snoc _ _ _ _ tri, fun p2 cv among => ?_⟩
        rw [app] at among
        rcases among_app2 _ tri among with was | ⟨is, l1, l2⟩
        · obtain ⟨c0, g1, g2⟩ := each p2 cv was
          exact ⟨c0, g1, ext _ _ g2 codeO_ne⟩
        · refine ⟨c1, is, ?_⟩
          rw [← l1, ← l2, named]
          exact upd_same
      · obtain ⟨tb2, a1, a2, a3⟩ := tT p hp
        refine ⟨tb2, (upd_ne (ne_of_none a1 new)).trans ((upd_ne here).trans a1), a2, fun p2 cv among => ?_⟩
        obtain ⟨c0, g1, g2⟩ := a3 p2 cv among
        exact ⟨c0, g1, ext _ _ g2 codeO_ne⟩
    have nF := J.hok.fresh (Nat.le_refl _)
    have J2 := inv_lm (D := lmX X as bd sc c1) (t' := tk) (pm := (X.mg "__name__").getD .none) (ctv := ctv) J rfl
    refine go hn.objs.size c1 _ _ J2 (fun b o hb no => ?_) (tT1.ext fun b o hb => ?_) (I.hok.fresh (Nat.le_trans ge (Nat.le_of_lt lt))) upd_same ((upd_ne (Nat.ne_of_lt lt)).trans upd_same)
    · have q := ext b o hb no
      exact (upd_ne (ne_of_none q nF)).trans q
    · exact (upd_ne (ne_of_none hb nF)).trans hb
  | some cv =>
    obtain ⟨c1, ec, known⟩ := each lp cv found
    subst ec
    rw [named] at known
    refine PySem.W.kla_makeFunctionHit (mg := X.mg) (c := cd) (P := PT) (ps := tb) (closure_ok fr) I.ok.glob (I.mod.glob.keeps I.bk) hcd (TB.code.keeps I.bk) sP tri found bAt fun ctv hn tk old ge => ?_
    have J : Inv X pins σ H { s with heap := hn, toks := tk } := I.kept old
    have nF : H hn.objs.size = none := J.hok.fresh (Nat.le_refl _)
    have J2 := inv_lm (D := lmX X as bd sc c1) (t' := tk) (pm := (X.mg "__name__").getD .none) (ctv := ctv) J rfl
    exact go hn.objs.size c1 _ _ J2 (fun b o hb _ => (upd_ne (ne_of_none hb nF)).trans hb) (tT.ext fun b o hb => (upd_ne (ne_of_none hb nF)).trans hb) nF upd_same ((upd_ne (ne_of_none known nF)).trans known)
end
/-- a lambda as a value -/
def tLamV (X : Cx) (T : List NTab) (as : Arguments) (bd : Expr) (sc : Scope) : TE := fun _ H Q => TabsN T H ∧ ∀ (f c1 : Addr) (H1 : Hp), ExtN H H1 → TabsN T H1 → H f = none → H1 f = some (LmO f (lmX X as bd sc c1)) → H1 c1 = some (CodeO c1 (X.env.qual ++ "<lambda>")) → Q (.ref f) H1
theorem pe_lamV {X : Cx} {T : List NTab} {nm : Nat → Nat → Str} {cd PT : Addr} {as : Arguments} {bd : Expr} {sc : Scope} {lp : Pos} (TB : TabB X.base X.mg cd PT) (hcd : X.env.code = .ref cd) (mem : (PT, nm) ∈ T) (alike : ∀ p ∈ T, p.1 = PT → p.2 = nm) (named : nm lp.line lp.col = X.env.qual ++ "<lambda>")
    (S : LamS X.env.scope sc) (nodef : defaultsOf as X.env = ([], [])) : PE X (.Lambda as bd sc lp) (tLamV X T as bd sc) :=
  ⟨fun pins s σ H Q I ⟨tT, go⟩ => lam_makeT I TB hcd mem named alike tT nodef (S.has I.ok) fun f c1 H1 s1 I1 eN T1 n0 at1 co => ⟨.ref f, H1, I1, rfl, go f c1 H1 eN T1 n0 at1 co⟩⟩
/-! ### what such a callable does, as long as what stands in (s, H) stays, but the frames fs and the records ex -/
theorem un_thenE {fs fs' ex : List Addr} {H H1 H2 : Hp} {h h1 h2 : Heap} (a : Un fs ex H H1 h h1) (b : Un fs' [] H1 H2 h1 h2) (new : ∀ c ∈ fs', c ∈ fs ∨ h.get? c = none) (sub : ∀ c ∈ fs, c ∈ fs') : Un fs ex H H2 h h2 := by
  have up : Un fs' ex H H1 h h1 := a.mono sub fun _ z => z
  have all := up.trans (b.mono (fun _ z => z) fun c z => nomatch z)
  refine ⟨fun c o e n hc hx => ?_, fun c o e n hc hx => all.any e n hx, all.free, all.there, all.tups, all.frzs, all.tbls⟩
  refine b.keep c o (a.keep c o e n hc hx) (a.free c o e n hx) (fun z => ?_) (fun z => nomatch z)
  rcases new c z with q | q
  · exact hc q
  · rw [q] at e; cases e
structure RunsT (P : Program) (w : World) (K : PySem.W.Frag) (mg : Str → Option Value) (base : Heap) (fs ex : List Addr) (k : Nat) (f : Addr) (tl : XK → Hp → VK → Prop) (s : Shared) (H : Hp) : Prop where
  run : ∀ (A : Around) (outer : List Env) (s1 : Shared) (HZ : Hp) (Q : VK) (E : XK), Room (k + 1) A → Env0 P w K mg base A outer s1 HZ → Un fs ex H HZ s.heap s1.heap → tl E HZ Q →
    PySem.W.FnAt f s1.heap ∧ codeAny (model P w) A (.call (.ref f) ⟨[], []⟩) (CR (L2.CX P w) outer P w HZ s1 Q E) s1
section
variable {P : Program} {w : World} {K : PySem.W.Frag} {mg : Str → Option Value} {base : Heap} {k j : Nat} {f : Addr} {tl : XK → Hp → VK → Prop}
/-- ahead of a call: from the frames that run -/
theorem RunsT.step {fs fs' ex : List Addr} {s s1 : Shared} {H H1 : Hp} (R : RunsT P w K mg base fs ex k f tl s H) (u : Un fs ex H H1 s.heap s1.heap) (new : ∀ c ∈ fs', c ∈ fs ∨ s.heap.get? c = none) (sub : ∀ c ∈ fs, c ∈ fs') : RunsT P w K mg base fs' [] k f tl s1 H1 :=
  ⟨fun A outer s2 HZ Q E hr e0 u2 t => R.run A outer s2 HZ Q E hr e0 (un_thenE u u2 new sub) t⟩
theorem RunsT.now {X : Cx} {pins : List (Addr × Obj)} {σ : L2.St} {H : Hp} {s : Shared} (R : RunsT X.prog X.w X.K X.mg X.base X.fs X.ex k f tl X.s_0 X.H_0) (I : Inv X pins σ H s) : RunsT X.prog X.w X.K X.mg X.base (frs X.stack) [] k f tl s H := by
  refine R.step I.base (fun c hc => ?_) fun c hc => ?_
  · rcases List.mem_cons.mp (I.stkSub c hc) with z | z
    · exact .inr (Heap.get?_none_of_le (z ▸ I.ok.above))
    · exact .inl z
  · rcases I.ok.stk with z | ⟨z, hf⟩
    · rw [z]; exact hc
    · rw [z]
      unfold frs
      rw [List.filterMap_cons, hf]
      exact List.mem_cons_of_mem _ hc
end
/-- a def whose first argument is such a callable -/
structure LOkT (P : Program) (w : World) (K : PySem.W.Frag) (mg : Str → Option Value) (base : Heap) (k j : Nat) (g : Addr) (fd : FuncData) (ps : List Str) (sp : (XK → Hp → VK → Prop) → List V → Hp → VK → Prop) : Prop where
  len : ∀ tl vs H Q, sp tl vs H Q → vs.length + 1 = ps.length
  run : ∀ (A : Around) (outer : List Env) (s : Shared) (H : Hp) (args : Args) (us : List Value) (vs : List V) (Q : VK) (f : Addr) (tl : XK → Hp → VK → Prop), A.guards = some [] → Room k A → Env0 P w K mg base A outer s H →
    BindsTo s fd args (ps.zip (.ref f :: us)) → Vals vs us → RunsT P w K mg base (frs outer) [] j f tl s H → sp tl vs H Q → codeAny (model P w) A (.call (.ref g) args) (CR CX0 outer P w H s Q fun _ _ _ => False) s
section
variable {X : Cx} {k j i : Nat} {f g : Addr} {fd : FuncData} {ps : List Str} {sp : (XK → Hp → VK → Prop) → List V → Hp → VK → Prop} {tl : XK → Hp → VK → Prop} {x a : Str} {p p1 p2 pos : Pos}
theorem run_LT {pins : List (Addr × Obj)} {σ : L2.St} {H : Hp} {s : Shared} {Q : VK} {us : List Value} {vs : List V} (L : LOkT X.prog X.w X.K X.mg X.base k j g fd ps sp) (gd : X.A.guards = some []) (hr : Room k X.A) (hb : Binds X.K fd ps [])
    (I : Inv X pins σ H s) (R : RunsT X.prog X.w X.K X.mg X.base (frs X.stack) [] j f tl s H) (r : Vals vs us) (h : sp tl vs H Q) : wpAny (model X.prog X.w) X.A (call (.ref g) (.ref f :: us)) (EP X pins σ Q) X.xe s := by
  have n : (.ref f :: us : List Value).length = ps.length := by
    rw [List.length_cons, ← r.length]
    exact L.len _ _ _ _ h
  have b := hb s (.ref f :: us) I.kIn (by rw [List.append_nil]; exact n)
  rw [List.append_nil] at b
  refine wpAny_call (codeAny_mono (L.run X.A X.stack s H ⟨.ref f :: us, []⟩ us vs Q f tl gd hr I.env0 b r R h) fun res s1 z => ?_)
  match res, z with
  | .error _, z => exact z.elim
  | .ok (.ret u), z => exact I.after z
  | .ok .next, z => exact z.elim
  | .ok .brk, z => exact z.elim
  | .ok .cont, z => exact z.elim
def tHandT (i : Nat) (sp : (XK → Hp → VK → Prop) → List V → Hp → VK → Prop) (tl : Addr → XK → Hp → VK → Prop) : TE := fun σ H Q => ∃ f, σ[i]? = some (some (.ref f)) ∧ sp (tl f) [] H Q
def tLookT (i : Nat) (E : XK) (tl : Addr → XK → Hp → VK → Prop) : TE := fun σ H Q => ∃ f, σ[i]? = some (some (.ref f)) ∧ tl f E H Q
/-- g(x), x a name that holds such a callable -/
theorem pe_handT {tl : Addr → XK → Hp → VK → Prop} (R : ∀ f, RunsT X.prog X.w X.K X.mg X.base X.fs X.ex j f (tl f) X.s_0 X.H_0) (L : LOkT X.prog X.w X.K X.mg X.base k j g fd ps sp) (gd : X.A.guards = some []) (hr : Room k X.A) (hb : Binds X.K fd ps [])
    (hg : Gl X x) (hm : X.mg x = some (.ref g)) (hk : PySem.W.keepIn X.K (.ref g) = true) (hN : X.N[i]? = some a) (hv : Vis X.env.scope a) (hd : (a == ("__debug__" : Str)) = false := by decide) (hcd : (a == ("__classdict__" : Str)) = false := by decide) (hdb : (x == ("__debug__" : Str)) = false := by decide)
    (he : starEach [.Name a p1] X.env = (false, eval (.Name a p1) X.env) :: starEach [] X.env := by rfl) (hpl : (backTo pos (starEach [] X.env)).any (·.1) = false := by rfl) :
    PE X (.Call (.Name x p) [.Name a p1] [] pos) (tHandT i sp tl) := by
  constructor
  intro pins s σ H Q I ⟨f, hs, q⟩
  refine wpAny_Call_Name_kw (ld_glob I hg hm ?_ hdb)
  refine PySem.W.callWith_K (h₀ := X.base) I.ok.mod.kin hk (thn ((pa_cons (pe_var (pos := p1) (i := i) hN hv hd hcd) pa_nil).run pos pins s σ H (fun vs H1 => vs = [.ref f] ∧ H1 = H) I ⟨_, hs, rfl, rfl⟩) fun us s1 ⟨vs, H1, I1, r, ev, eH⟩ => ⟨I1.kIn, ?_⟩) he hpl
  subst ev eH
  cases r with
  | @cons _ u _ ur r1 r2 =>
    obtain rfl : u = Value.ref f := r1
    exact run_LT L gd hr hb I1 ((R f).now I1) r2 q
/-- x(), x a name that holds such a callable -/
theorem pe_lookT {E : XK} {tl : Addr → XK → Hp → VK → Prop} (R : ∀ f, RunsT X.prog X.w X.K X.mg X.base X.fs X.ex k f (tl f) X.s_0 X.H_0) (hx : Passes (L2.CX X.prog X.w) X E) (hr : Room (k + 1) X.A) (hN : X.N[i]? = some a) (hv : Vis X.env.scope a)
    (hd : (a == ("__debug__" : Str)) = false := by decide) (hcd : (a == ("__classdict__" : Str)) = false := by decide) :
    PE X (.Call (.Name a p1) [] [] p2) (tLookT i E tl) := by
  constructor
  intro pins s σ H Q I ⟨f, hs, t⟩
  refine wpAny_Call_Name_kw (thn ((pe_var (pos := p1) (i := i) hN hv hd hcd).run pins s σ H (fun v H1 => v = .ref f ∧ H1 = H) I ⟨_, hs, rfl, rfl⟩) fun u s1 ⟨v, H1, I1, r1, ev, eH⟩ => ?_)
  subst ev eH
  obtain rfl : u = Value.ref f := r1
  obtain ⟨ob, rc⟩ := ((R f).now I1).run X.A X.stack s1 _ Q E hr I1.env0 Un.refl t
  refine PySem.W.callWith_F0 (first := []) ob (wpAny_call (codeAny_mono rc fun res s2 z => ?_))
  match res, z with
  | .error e, z => exact hx pins σ _ s1 e s2 I1 z
  | .ok (.ret u), z => exact I1.after z
  | .ok .next, z => exact z.elim
  | .ok .brk, z => exact z.elim
  | .ok .cont, z => exact z.elim
/-- x() in a try's body -/
theorem pe_lookTS {W : WX} (tk : Takes X W) (R : RunsT X.prog X.w X.K X.mg X.base X.fs X.ex k f tl X.s_0 X.H_0) (hr : Room (k + 1) X.A) (hN : X.N[i]? = some a) (hv : Vis X.env.scope a)
    (hd : (a == ("__debug__" : Str)) = false := by decide) (hcd : (a == ("__classdict__" : Str)) = false := by decide) : PE X (.Call (.Name a p1) [] [] p2) (tLook f i tl W) := by
  constructor
  intro pins s σ H Q I ⟨E, Q0, hW, hQ, hs, t⟩
  refine wpAny_Call_Name_kw (thn ((pe_var (pos := p1) (i := i) hN hv hd hcd).run pins s σ H (fun v H1 => v = .ref f ∧ H1 = H) I ⟨_, hs, rfl, rfl⟩) fun u s1 ⟨v, H1, I1, r1, ev, eH⟩ => ?_)
  subst ev eH
  obtain rfl : u = Value.ref f := r1
  obtain ⟨ob, rc⟩ := (R.now I1).run X.A X.stack s1 _ Q0 E hr I1.env0 Un.refl t
  refine PySem.W.callWith_F0 (first := []) ob (wpAny_call (codeAny_mono rc fun res s2 z => ?_))
  match res, z with
  | .error e, z => exact tk e s2 (XE.of_call I1 hW z)
  | .ok (.ret u), z =>
    obtain ⟨v, H2, I2, rv, q⟩ := I1.after z
    exact ⟨v, H2, I2, rv, hQ _ _ q⟩
  | .ok .next, z => exact z.elim
  | .ok .brk, z => exact z.elim
  | .ok .cont, z => exact z.elim
end
theorem okLT {P : Program} {w : World} {K : PySem.W.Frag} {mg : Str → Option Value} {base : Heap} {x qual : Str} {st : Stmt} {g : Addr} {fd : FuncData} {N ps : List Str} {k j : Nat} {sp : (XK → Hp → VK → Prop) → List V → Hp → VK → Prop} (F : Fun K x qual st g fd) (S : FnScope N ps (defScope st))
    (len : ∀ tl vs H Q, sp tl vs H Q → vs.length + 1 = ps.length)
    (hb : ∀ (cdv : Value) (A : Around) (outer : List Env) (s : Shared) (H : Hp) (vs : List V) (Q : VK) (f : Addr) (tl : XK → Hp → VK → Prop), A.guards = some [] → Room k (A.deeper (envOfC qual (defScope st) s.heap.objs.size g cdv)) → RunsT P w K mg base (frs outer) [] j f tl s H → sp tl vs H Q →
      ∃ t, PSs (cxOf CX0 P w K mg base N qual (defScope st) g cdv A outer s H fun _ _ _ => False).nox (defBody st) t ∧ t { nx := fun _ H1 => Q .non H1, rt := Q } (start N (.ref f :: vs)) H) : LOkT P w K mg base (k + 1) j g fd ps sp := by
  obtain ⟨oc, od, kV, doc, pm, an, cdv, ct, osl, rfl, lk, hcd⟩ := F.ex
  refine ⟨len, fun A outer s H args us vs Q f tl gd hr e0 bnd r R h => ?_⟩
  refine run_ofS (vs := .ref f :: vs) lk hcd S hr e0 bnd (.cons rfl r) (len _ _ _ _ h) fun hr' => ?_
  obtain ⟨t, ht, hq⟩ := hb cdv A outer s H vs Q f tl gd hr' R h
  exact ⟨t, ht.nox, hq⟩
/-! ### the maker's lambdas are such callables, while its frame waits -/
/-- what a lambda of X's def is read as -/
def tlLm (X : Cx) (as : Arguments) (bd : Expr) (sc : Scope) (t : XK → TE) (σ : L2.St) (f : Addr) : XK → Hp → VK → Prop := fun E H Q => ∃ c1, H f = some (LmO f (lmX X as bd sc c1)) ∧ H c1 = some (CodeO c1 (X.env.qual ++ "<lambda>")) ∧ t E σ H Q
theorem runs_lm {X : Cx} {pins : List (Addr × Obj)} {σ : L2.St} {H : Hp} {s : Shared} {ex : List Addr} {k : Nat} {as : Arguments} {bd : Expr} {sc : Scope} {t : XK → TE} (I : Inv X pins σ H s) (hex : ∀ b ∈ ex, FpOk X pins H b) (S : LamS X.env.scope sc)
    (hbind : ∀ (q : Str) (cl : List (Str × Addr)) (pm cv ctv : Value), bindArgs (PySem.W.kla_fn "<lambda>" q as bd sc cl pm cv ctv) ⟨[], []⟩ = pure [])
    (hbody : ∀ (A : Around) (outer : List Env) (s : Shared) (H : Hp) (E : XK) (f c' : Addr), Room k (A.deeper (lamEnv X sc s.heap.objs.size f c')) → PE (lamCx X A outer s H E sc f c') bd (t E)) (f : Addr) :
    RunsT X.prog X.w X.K X.mg X.base (frs X.stack) ex k f (tlLm X as bd sc t σ f) s H := by
  refine ⟨fun A outer s1 HZ Q E hr e0 un ⟨c1, hf, hc, ht⟩ => ?_⟩
  have I1 : Inv X pins σ HZ { s1 with os := s.os } := I.call' (ch := ex) rfl un e0.hok e0.bare fun b hb => ⟨(hex b hb).2.2.2.1, (hex b hb).2.1, (hex b hb).2.2.2.2.1, (hex b hb).2.2.2.2.2⟩
  obtain ⟨pm, ctv, lies⟩ := lmO_at e0.hok hf
  refine ⟨⟨_, _, _, _, lies⟩, ?_⟩
  obtain ⟨⟨oc, fl, tg, g1, g2, g3⟩, _, _⟩ := e0.hok c1 _ hc
  refine PySem.W.kla_callFunE hr.depth lies rfl S.co S.gen rfl ⟨c1, oc, fl, tg, rfl, g1, g2, g3⟩ ?_
  rw [hbind]
  have lim : s1.heap.NoLimit := e0.mod.nolimit.keeps fun b o z => (e0.bs b o z).1
  refine wpAny_pure (wpAny_newFunctionEnv (fun y hy => (S.own y hy).2) (fun y hy => absurd hy List.not_mem_nil) (fun hn hns hsb => ⟨lim.fresh _ hsb, ?_⟩) S.kind)
  show codeAny _ _ (.expr bd (lamEnv X sc s1.heap.objs.size f c1)) _ _
  have kp : ∀ b o, s1.heap.get? b = some o → hn.get? b = some o := fun b o z => hsb.extBut b o (Nat.ne_of_lt (Heap.lt_size z)) (Heap.get?_push_of_some _ z)
  have J := lam_start2 (f := f) (c' := c1) (E := E) (tk := s1.toks + ([] : List (Str × Value)).length) I1 S e0 hr.hd (s1 := s1) Un.refl hns kp
  exact PySem.W.kla_codeExpr (wpAny_mono ((hbody A outer s1 HZ E f c1 (hr.deeper _)).run [] _ σ HZ Q J ht) (fun v s' ⟨w', H', J', rv, q'⟩ => ⟨w', H', J'.os, J'.bare, J'.base, J'.hok, rv, q'⟩) fun _ _ z => z)
/-- one of two -/
theorem RunsT.or {P : Program} {w : World} {K : PySem.W.Frag} {mg : Str → Option Value} {base : Heap} {fs ex : List Addr} {k : Nat} {f : Addr} {tl tl' : XK → Hp → VK → Prop} {s : Shared} {H : Hp} (a : RunsT P w K mg base fs ex k f tl s H) (b : RunsT P w K mg base fs ex k f tl' s H) :
    RunsT P w K mg base fs ex k f (fun E H Q => tl E H Q ∨ tl' E H Q) s H :=
  ⟨fun A outer s1 HZ Q E hr e0 un t => t.elim (fun t => a.run A outer s1 HZ Q E hr e0 un t) fun t => b.run A outer s1 HZ Q E hr e0 un t⟩
/-! ### a lambda by its reading -/
structure LamGood (X : Cx) (k : Nat) (as : Arguments) (bd : Expr) (sc : Scope) (t : XK → TE) : Prop where
  S : LamS X.env.scope sc
  bind : ∀ (q : Str) (cl : List (Str × Addr)) (pm cv ctv : Value), bindArgs (PySem.W.kla_fn "<lambda>" q as bd sc cl pm cv ctv) ⟨[], []⟩ = pure []
  body : ∀ (A : Around) (outer : List Env) (s : Shared) (H : Hp) (E : XK) (f c' : Addr), Room k (A.deeper (lamEnv X sc s.heap.objs.size f c')) → PE (lamCx X A outer s H E sc f c') bd (t E)
/-- at f stands a lambda of X's def that reads t -/
def LamAt (X : Cx) (k : Nat) (t : XK → TE) (H : Hp) (f : Addr) : Prop := ∃ as bd sc c1, LamGood X k as bd sc t ∧ H f = some (LmO f (lmX X as bd sc c1)) ∧ H c1 = some (CodeO c1 (X.env.qual ++ "<lambda>"))
theorem LamAt.ext {X : Cx} {k : Nat} {t : XK → TE} {H H' : Hp} {f : Addr} (h : LamAt X k t H f) (e : ExtN H H') : LamAt X k t H' f := by
  obtain ⟨as, bd, sc, c1, g, h1, h2⟩ := h
  exact ⟨as, bd, sc, c1, g, e _ _ h1 lmO_ne, e _ _ h2 codeO_ne⟩
def tLamG (X : Cx) (k : Nat) (T : List NTab) (t : XK → TE) : TE := fun _ H Q => TabsN T H ∧ ∀ (f : Addr) (H1 : Hp), ExtN H H1 → TabsN T H1 → H f = none → LamAt X k t H1 f → Q (.ref f) H1
theorem pe_lamG {X : Cx} {k : Nat} {T : List NTab} {nm : Nat → Nat → Str} {cd PT : Addr} {as : Arguments} {bd : Expr} {sc : Scope} {lp : Pos} {t : XK → TE} (TB : TabB X.base X.mg cd PT) (hcd : X.env.code = .ref cd) (mem : (PT, nm) ∈ T) (alike : ∀ p ∈ T, p.1 = PT → p.2 = nm) (named : nm lp.line lp.col = X.env.qual ++ "<lambda>")
    (nodef : defaultsOf as X.env = ([], [])) (g : LamGood X k as bd sc t) : PE X (.Lambda as bd sc lp) (tLamG X k T t) :=
  ⟨fun pins s σ H Q I ⟨tT, go⟩ => lam_makeT I TB hcd mem named alike tT nodef (g.S.has I.ok) fun f c1 H1 s1 I1 eN T1 n0 at1 co => ⟨.ref f, H1, I1, rfl, go f H1 eN T1 n0 ⟨as, bd, sc, c1, g, at1, co⟩⟩⟩
/-- any lambda of X's def, while its frame waits in the state σ -/
def tlAny (X : Cx) (k : Nat) (σ : L2.St) (f : Addr) : XK → Hp → VK → Prop := fun E H Q => ∃ t, LamAt X k t H f ∧ t E σ H Q
theorem runs_any {X : Cx} {pins : List (Addr × Obj)} {σ : L2.St} {H : Hp} {s : Shared} {ex : List Addr} {k : Nat} (I : Inv X pins σ H s) (hex : ∀ b ∈ ex, FpOk X pins H b) (f : Addr) : RunsT X.prog X.w X.K X.mg X.base (frs X.stack) ex k f (tlAny X k σ f) s H :=
  ⟨fun A outer s1 HZ Q E hr e0 un ⟨t, ⟨as, bd, sc, c1, g, h1, h2⟩, q⟩ => (runs_lm I hex g.S g.bind g.body f).run A outer s1 HZ Q E hr e0 un ⟨c1, h1, h2, q⟩⟩
end TT

set_option Elab.async false
set_option linter.all false
set_option maxRecDepth 100000
set_option maxHeartbeats 4000000
/-! A comprehension whose tests and elements may speak of the state in which its block began (lambdas of the def are called in it). It follows HandS/Comp's rule for a list comprehension, the state handed on. -/
namespace TT
open PySem PySem.Spec PyProof.Rows L2 LamX NdefX
section
variable {X : Cx}
theorem lc_coreI {pins : List (Addr × Obj)} {s : Shared} {σ : L2.St} {H : Hp} {Q : VK} {elt tg iter : Expr} {ifs : List Expr} {sc : Scope} {own : List (Str × Nat)} {pos pos' : Pos} {wi : TI} {g : TG} {tt : TT} {te : TE} {use : Option (Value → Sem Unit)} {Qf : Value → Shared → Prop}
    (calm : X.calm = true) (nd : X.N.Nodup) (I : Inv X pins σ H s) (hi : PI X tg iter wi) (ok : BlkOk X.N X.env.scope sc own)
    (hg : ∀ (s : Shared) (H : Hp) (C : Addr) (cl : List (Str × Addr)) (fp : List Addr), PG (X.blk s H sc (compEnvC sc cl C X.env) fp) tg g)
    (ht : ∀ (s : Shared) (H : Hp) (C : Addr) (cl : List (Str × Addr)) (fp : List Addr), Inv X pins σ H s → (∀ b ∈ fp, FpOk X pins H b) → PTs (X.blk s H sc (compEnvC sc cl C X.env) fp) ifs tt)
    (he : ∀ (s : Shared) (H : Hp) (C : Addr) (cl : List (Str × Addr)) (fp : List Addr), Inv X pins σ H s → (∀ b ∈ fp, FpOk X pins H b) → PE (X.blk s H sc (compEnvC sc cl C X.env) fp) elt te)
    (plain : ∀ x, foldedSetIterable iter X.env x = pure x) (h : tLc wi g tt te (own.map (·.2)) σ H Q)
    (done : ∀ D C s' m H', Inv X pins σ H' s' → Q (.ref D) H' → s'.heap.Ns C m → FpOk X pins H' C → compPost (model X.prog X.w) X.A X.xe use Qf (.ref D) C (.ok .next) s') :
    wpAny (model X.prog X.w) X.A (comprehension (.ListComp elt [⟨tg, iter, ifs, 0⟩] sc pos) sc X.env pos' (newList []) false (eval iter X.env) use) Qf X.xe s := by
  have caught : ∀ y ∈ sc.names, y.2 = .free → ∃ c, X.env.cells.lookup y.1 = some c := fun y hy e => (ok.free y hy e).elim (fun k => I.ok.has _ (.inl k)) fun k => I.ok.has _ (.inr k)
  refine wpAny_comprehension_free (use := use) rfl plain (closure_ok caught) ok.kind (fun y hy e => (ok.uniq y hy).trans (congrArg some e))
    (thn (hi.run pins s σ H _ I h) fun xv s1 hx => thn hx fun itv s2 h2 => ?_)
  obtain ⟨it, fp, tn, J, Ha, eq, Ia, T, sta, fa, q⟩ := h2
  subst eq
  refine wpAny_newObj_type (newEnv_comp ?_) (by show 0 ≤ sizeLine; decide)
  generalize hD : s2.heap.objs.size = D
  have newD : Ha D = none := Ia.hok.fresh (Nat.le_of_eq hD)
  obtain ⟨W, ⟨m0, w0⟩, turn⟩ := q D newD
  generalize hsb : ({ s2 with heap := s2.heap.push { cls := .type "list", data := .seq ([] : List Value).toArray } } : Shared) = sb
  have Ib : Inv X pins σ (upd Ha D (.lst [])) sb := by
    rw [← hsb]
    refine Ia.laid (t' := s2.toks) (fun b o e => Heap.get?_push_of_some _ e) (Nat.le_of_eq hD) ⟨Nat.zero_le _, [], 0, .nil, ?_⟩
    rw [← hD]
    exact Heap.get?_push_size _ rfl
  have heb : sb.heap = s2.heap.push { cls := .type "list", data := .seq ([] : List Value).toArray } := by rw [← hsb]
  have low : ∀ b ∈ fp, b < s2.heap.objs.size := fun b hb => (T.obj _ _ sta b hb).elim fun _ z => Heap.lt_size z.1
  have fb : ∀ b ∈ fp, FpOk X pins (upd Ha D (.lst [])) b ∧ b < sb.heap.objs.size := fun b hb => by
    have lt := low b hb
    refine ⟨⟨?_, (fa b hb).2⟩, by rw [heb, Heap.size_push]; exact Nat.lt_succ_of_lt lt⟩
    rw [upd_ne (by rw [← hD]; exact Nat.ne_of_lt lt)]
    exact (fa b hb).1
  have stb : tn 0 sb.heap := T.keep _ _ _ sta fun b _ o e => by rw [heb]; exact Heap.get?_push_of_some _ e
  have Ic := block_start Ib ok nd fb
  have pg := hg sb (upd Ha D (.lst [])) sb.heap.objs.size (cellsFrom (sb.heap.objs.size + 1) sc.names (cloFrom X.env.cells sc.names [])) fp
  have pt := ht sb (upd Ha D (.lst [])) sb.heap.objs.size (cellsFrom (sb.heap.objs.size + 1) sc.names (cloFrom X.env.cells sc.names [])) fp Ib fun b hb => (fb b hb).1
  have pe := he sb (upd Ha D (.lst [])) sb.heap.objs.size (cellsFrom (sb.heap.objs.size + 1) sc.names (cloFrom X.env.cells sc.names [])) fp Ib fun b hb => (fb b hb).1
  show codeAny _ _ (.compStart (.ListComp elt [⟨tg, iter, ifs, 0⟩] sc pos) 0 (.ref it) (.ref D) (compEnvC sc (cellsFrom (sb.heap.objs.size + 1) sc.names (cloFrom X.env.cells sc.names [])) sb.heap.objs.size X.env)) (compPost (model X.prog X.w) X.A X.xe use Qf (.ref D) sb.heap.objs.size) { sb with heap := pushCells (sb.heap.push { cls := .type "dict", data := .dict #[] }) sc.names }
  have off : ∀ b ∈ fp, (upd Ha D (.lst [])) b = none := fun b hb => (fb b hb).1.1
  generalize hce : compEnvC sc (cellsFrom (sb.heap.objs.size + 1) sc.names (cloFrom X.env.cells sc.names [])) sb.heap.objs.size X.env = ce at Ic pg pt pe ⊢
  have loc : ce.locals = sb.heap.objs.size := by subst hce; rfl
  generalize hHb : upd Ha D (.lst []) = Hb at Ib Ic pg pt pe w0 off fb
  generalize hsd : ({ sb with heap := pushCells (sb.heap.push { cls := .type "dict", data := .dict #[] }) sc.names } : Shared) = sd at Ic ⊢
  have std : tn 0 sd.heap := T.keep _ _ _ stb fun b _ o e => by rw [← hsd]; exact pushCells_keeps _ _ _ _ (Heap.get?_push_of_some _ e)
  have still : ∀ {σ' : L2.St} {H' : Hp} {s' : Shared}, Inv (X.blk sb Hb sc ce fp) [] σ' H' s' → (∀ b ∈ fp, H' b = none) → ∀ b ∈ fp, FpOk (X.blk sb Hb sc ce fp) [] H' b := fun {σ' H' s'} I' hn b hb =>
    ⟨hn b hb, (I'.ok.exf b hb).1, I'.ok.exfs b hb, .inl hb, fun x c e => (I'.ok.exf b hb).2 x c e, fun p hp => nomatch (show p ∈ ([] : List (Addr × Obj)) from hp)⟩
  have loop : codeAny (model X.prog X.w) X.A (.compLoop (.ListComp elt [⟨tg, iter, ifs, 0⟩] sc pos) 0 (.ref it) (.ref D) ce) (compPost (model X.prog X.w) X.A X.xe use Qf (.ref D) sb.heap.objs.size) sd := by
    refine compLoop_any (fun n s' => ∃ i H', Inv (X.blk sb Hb sc ce fp) [] (wipe σ (own.map (·.2))) H' s' ∧ tn i s'.heap ∧ (∀ b ∈ fp, H' b = none) ∧ W i n H') ?_ m0 ⟨0, Hb, Ic, std, off, w0⟩
    rintro n se ⟨i, He, Ie, ste, ne, we⟩
    rcases turn i n He we with ⟨stop, qq⟩ | ⟨go, Nx, hNx, step⟩
    · refine thnF (T.done (X.blk sb Hb sc ce fp) rfl rfl rfl calm i [] se _ He (fun _ _ => False) Ie (still Ie ne) ste stop) fun r sf ⟨hr, If⟩ => ?_
      subst hr
      have Ig : Inv X pins σ He sf := Ib.call' (ch := fp) If.os If.base If.hok If.bare fun b hb => ⟨(fb b hb).1.2.2.2.1, (fb b hb).1.2.1, (fb b hb).1.2.2.2.2.1, (fb b hb).1.2.2.2.2.2⟩
      have nC : He sb.heap.objs.size = none := loc ▸ If.free
      obtain ⟨m, hn, _⟩ := If.loc
      have hn : sf.heap.Ns ce.locals m := hn
      rw [loc] at hn
      exact done D sb.heap.objs.size sf m He Ig qq hn (Ib.fpOk (Nat.le_refl _) nC)
    · refine thnF (T.item (X.blk sb Hb sc ce fp) rfl rfl rfl calm i [] se _ He (fun _ _ => False) Ie (still Ie ne) ste go) fun r sf ⟨u, hr, hf⟩ => ?_
      subst hr
      refine thnF hf fun _ sg ⟨x, Hg, Ig, rg, yg, stg, ng⟩ => ?_
      have Ip := Ig.pinned (still Ig ng) (T.obj _ _ stg)
      refine thnF (pg.run _ sg _ Hg x u _ Ip rg (step x Hg yg)) fun _ sh ⟨σh, Hh, Ih, wh, qh⟩ => ?_
      refine thnF (pt.run _ sh σh Hh _ Ih qh) fun b si ⟨Hi, Ii, qi⟩ => ?_
      have fin : ∀ {s' : Shared} {H' : Hp}, Inv (X.blk sb Hb sc ce fp) ([] ++ pinsAt fp sg.heap) σh H' s' → Nx H' → ∃ m, m < n ∧ ∃ i H', Inv (X.blk sb Hb sc ce fp) [] (wipe σ (own.map (·.2))) H' s' ∧ tn i s'.heap ∧ (∀ b ∈ fp, H' b = none) ∧ W i m H' := fun {s' H'} I' nx => by
        obtain ⟨m', lt, w'⟩ := hNx H' nx
        have held : ∀ b ∈ fp, ∀ o, sg.heap.get? b = some o → s'.heap.get? b = some o ∧ H' b = none := fun b hb o e => ⟨(I'.pin (b, o) (List.mem_append_right _ (List.mem_append_right _ (mem_pinsAt hb e)))).1, (I'.pin (b, o) (List.mem_append_right _ (List.mem_append_right _ (mem_pinsAt hb e)))).2.1⟩
        have len : (wipe σ (own.map (·.2))).length = σh.length := by rw [← wh, wipe_length]
        refine ⟨m', lt, i + 1, H', (I'.unpinned (pins := [])).weak len (fun j v e => ?_), T.keep _ _ _ stg fun b hb o e => (held b hb o e).1, fun b hb => ?_, w'⟩
        · rw [← wh] at e
          exact (wipe_some e).1
        · obtain ⟨o, e, _⟩ := T.obj _ _ stg b hb
          exact (held b hb o e).2
      cases b with
      | false =>
        simp only [Bool.false_eq_true, if_false] at qi ⊢
        exact fin Ii qi
      | true =>
        simp only [if_true] at qi ⊢
        refine thnF (pe.run _ si σh Hi _ Ii qi) fun z sj ⟨yv, Hj, Ij, rj, acc, atD, short, nx⟩ => ?_
        exact app_ok (X := X.blk sb Hb sc ce fp) Ij atD short rj fun sk Ik => fin Ik nx
  exact codeAny_compStart_list loop (T.self X.A 0 _ _ _ std loop)
/-- name = [..] on one line, the name a local; tests and element may speak of the slots ahead -/
theorem ps_setLcI {i : Nat} {y : Str} {py : Pos} {elt tg iter : Expr} {ifs : List Expr} {sc : Scope} {own : List (Str × Nat)} {pos spos : Pos} {wi : TI} {g : TG} {tt : L2.St → TT} {te : L2.St → TE} (calm : X.calm = true) (nd : X.N.Nodup) (hy : X.N[i]? = some y) (hyl : X.env.scope.names.lookup y = some .local)
    (hsw : swapsWith (.ListComp elt [⟨tg, iter, ifs, 0⟩] sc pos) (some (.Name y py)) spos.line X.env = pure true) (hi : PI X tg iter wi) (ok : BlkOk X.N X.env.scope sc own)
    (hg : ∀ (s : Shared) (H : Hp) (C : Addr) (cl : List (Str × Addr)) (fp : List Addr), PG (X.blk s H sc (compEnvC sc cl C X.env) fp) tg g)
    (ht : ∀ (pins : List (Addr × Obj)) (σ : L2.St) (s : Shared) (H : Hp) (C : Addr) (cl : List (Str × Addr)) (fp : List Addr), Inv X pins σ H s → (∀ b ∈ fp, FpOk X pins H b) → PTs (X.blk s H sc (compEnvC sc cl C X.env) fp) ifs (tt σ))
    (he : ∀ (pins : List (Addr × Obj)) (σ : L2.St) (s : Shared) (H : Hp) (C : Addr) (cl : List (Str × Addr)) (fp : List Addr), Inv X pins σ H s → (∀ b ∈ fp, FpOk X pins H b) → PE (X.blk s H sc (compEnvC sc cl C X.env) fp) elt (te σ))
    (plain : ∀ x, foldedSetIterable iter X.env x = pure x := by intro _; rfl) :
    PS X (.Assign [.Name y py] (.ListComp elt [⟨tg, iter, ifs, 0⟩] sc pos) spos) (fun D σ H => tLc wi g (tt σ) (te σ) (own.map (·.2)) σ H fun x H1 => gName i x σ H1 D.nx) := by
  refine ⟨fun pins s σ H D I h => ?_⟩
  rw [exec_Assign_Name_used _ _ _ _ hsw]
  refine wpAny_bind (wpAny_standAt (wpAny_bind ?_))
  show wpAny _ X.A (do let _ ← comprehension (.ListComp elt [⟨tg, iter, ifs, 0⟩] sc pos) sc X.env (firstIterPos [⟨tg, iter, ifs, 0⟩] pos) (newList []) false (eval iter X.env) (some (assign (.Name y py) X.env))) _ _ s
  refine wpAny_bind (thn (lc_coreI (Qf := fun _ s' => SP X pins D .next s') calm nd I hi ok hg (ht pins σ) (he pins σ) plain h fun L C s' m H' I' q hn f => ?_) fun _ s' hq => wpAny_pure (wpAny_pure hq))
  show wpAny _ _ (assign (.Name y py) X.env (.ref L)) _ _ _
  refine wpAny_assign_Name (store_ok2 (v := V.ref L) I' nd hy (.inl hyl) rfl (fun s2 I2 ⟨a, sb, ha⟩ => ?_) (.inr hyl))
  have apart : C ≠ a := ha.elim (fun z => z ▸ f.2.1) fun z e => f.2.2.2.2.1 y a z e.symm
  exact ⟨m, hn.sameBut sb apart, fun h3 sb3 => ⟨_, H', I2.turned (t' := s2.toks) (fun b o hb e => (sb3.2 b hb).trans e) f.1 f.2.1 f.2.2.2.1 f.2.2.2.2.1 f.2.2.2.2.2, q⟩⟩
end
end TT

set_option Elab.async false
set_option linter.all false
set_option maxRecDepth 100000
set_option maxHeartbeats 4000000
/-! Code objects whose own tables are known: lambdas made in a lambda. -/
namespace TT
open PySem PySem.Spec PyProof.Rows L2 LamX NdefX
/-- at c stands a code object of the name q whose table stands at P -/
def CodeT (c : Addr) (q : Str) (P : Addr) : HO := .ext fun h => PySem.W.CodeHd h c P ∧ ∃ (oc : Obj) (vs : Array Value) (t : Tok), h.get? c = some oc ∧ oc.data = .fields vs ∧ vs[1]? = some (.str q t)
theorem codeT_ne {c P : Addr} {q : Str} (ps : Array Value) : CodeT c q P ≠ .tbl ps := fun z => by
  unfold CodeT at z
  cases z
theorem codeT_at {M : Program} {w : World} {H : Hp} {h : Heap} {c P : Addr} {q : Str} (hok : HOk M w H h) (e : H c = some (CodeT c q P)) : PySem.W.CodeHd h c P ∧ h.CodeRec (.ref c) q := by
  obtain ⟨⟨hd, oc, vs, t, h1, h2, h3⟩, _, _⟩ := hok c _ e
  exact ⟨hd, c, oc, vs, t, rfl, h1, h2, h3⟩
theorem codeT_ok {M : Program} {w : World} {H : Hp} {h : Heap} {c P : Addr} {q : Str} (hd : PySem.W.CodeHd h c P) {oc : Obj} {vs : Array Value} {t : Tok} (h1 : h.get? c = some oc) (h2 : oc.data = .fields vs) (h3 : vs[1]? = some (.str q t)) : ObjOk M w H h c (CodeT c q P) :=
  ⟨⟨hd, oc, vs, t, h1, h2, h3⟩, ⟨oc, h1⟩, fun a b ⟨⟨o, ws, file, tf, flags, tg, inF, text, tt, e1, r⟩, oc, vs, t, g1, g2, g3⟩ st => ⟨⟨o, ws, file, tf, flags, tg, inF, text, tt, st _ e1, r⟩, oc, vs, t, st _ g1, g2, g3⟩⟩
/-- a code object of this name; if it is deep, its table is known, too -/
def CodeK (nmI : Nat → Nat → Str) (T : List NTab) (H : Hp) (c : Addr) (q : Str) : Bool → Prop
  | false => H c = some (CodeO c q)
  | true => ∃ P1, H c = some (CodeT c q P1) ∧ (∀ p ∈ T, p.1 ≠ P1) ∧ TabN H P1 nmI
/-- tables of defs, with the tables of what is deep -/
def TabX (dp : Nat → Nat → Bool) (nmI : Nat → Nat → Str) (T : List NTab) (H : Hp) : Prop := ∀ p ∈ T, ∃ ps : Array Value, H p.1 = some (.tbl ps) ∧ TriplesOk ps.toList ∧ ∀ (pos : Pos) (cv : Value), codeAmong pos ps.toList = some cv → ∃ c, cv = .ref c ∧ CodeK nmI T H c (p.2 pos.line pos.col) (dp pos.line pos.col)
section
variable {dp : Nat → Nat → Bool} {nmI : Nat → Nat → Str} {T : List NTab} {H H' : Hp}
/-- all tables and code objects stay -/
theorem CodeK.by_ {c : Addr} {q : Str} {b : Bool} (h : CodeK nmI T H c q b) (e : ∀ a o, H a = some o → (∀ xs, o ≠ .lst xs) → H' a = some o) : CodeK nmI T H' c q b := by
  cases b with
  | false => exact e _ _ h fun xs z => by unfold CodeO at z; cases z
  | true =>
    obtain ⟨P1, h1, h2, ps, g1, g2, g3⟩ := h
    refine ⟨P1, e _ _ h1 (fun xs z => by unfold CodeT at z; cases z), h2, ps, e _ _ g1 (fun xs z => by cases z), g2, fun pos cv hc => ?_⟩
    obtain ⟨c2, q1, q2⟩ := g3 pos cv hc
    exact ⟨c2, q1, e _ _ q2 fun xs z => by unfold CodeO at z; cases z⟩
theorem TabX.by_ (t : TabX dp nmI T H) (e : ∀ a o, H a = some o → (∀ xs, o ≠ .lst xs) → H' a = some o) : TabX dp nmI T H' := fun p hp => by
  obtain ⟨ps, h1, h2, h3⟩ := t p hp
  refine ⟨ps, e _ _ h1 (fun xs z => by cases z), h2, fun pos cv hc => ?_⟩
  obtain ⟨c, q1, q2⟩ := h3 pos cv hc
  exact ⟨c, q1, q2.by_ e⟩
theorem TabX.ext (t : TabX dp nmI T H) (e : ∀ a o, H a = some o → H' a = some o) : TabX dp nmI T H' := t.by_ fun a o h _ => e a o h
theorem TabX.lst {D : Addr} {xs : List V} {o : HO} (hD : H D = some (.lst xs)) (t : TabX dp nmI T H) : TabX dp nmI T (upd H D o) := t.by_ fun a u h n => (upd_ne (fun z => by
  rw [z, hD] at h
  exact n xs (Option.some.inj h).symm)).trans h
end
/-! ### making them -/
section
variable {M : Model} {A : Around} {E : Value → Shared → Prop} {s : Shared} {name qual : Str} {as : Arguments} {bd : Expr} {sc : Scope} {env : Env} {c PT : Addr} {tb : Array Value} {pos : Pos} {line1 : Nat} {mg : Str → Option Value} {cl : List (Str × Addr)} {Q : Value → Shared → Prop}
/-- a new code object, told with its own table -/
theorem lam_newX (hcl : closureFor sc env = pure cl) (glo : env.globals = mainGlobals) (hg : s.heap.Ns mainGlobals mg) (hcode : env.code = .ref c) (C : PySem.W.CodeHd s.heap c PT) (hT : s.heap.get? PT = some { cls := .none, data := .fields tb }) (tri : TriplesOk tb.toList)
    (new : codeAmong pos tb.toList = none) (away : mainGlobals ≠ PT) (hb : s.heap.BuiltinsAt mg PT)
    (k : ∀ c1 P1 ctv hn tk, Heap.ExtBut PT s.heap hn → s.heap.objs.size ≤ c1 → c1 < hn.objs.size → s.heap.objs.size ≤ P1 → P1 < hn.objs.size → hn.CodeRec (.ref c1) qual → hn.get? PT = some { cls := .none, data := .fields (tb ++ #[rawInt pos.line, rawInt pos.col, .ref c1]) } → PySem.W.CodeHd hn c1 P1 → hn.get? P1 = some { cls := .none, data := .fields #[] } →
      Q (.ref hn.objs.size) { s with heap := hn.push (PySem.W.kla_obj name qual as bd sc cl ((mg "__name__").getD .none) c1 ctv), toks := tk }) :
    wpAny M A (makeFunction name qual as (.expr bd) sc env [] [] [] pos line1) Q E s := by
  rw [makeFunction_eq]
  simp only [List.zip_nil_right, List.filterMap_nil, List.isEmpty_nil, if_true, pure_bind]
  obtain ⟨bm, ob, b1, b2, _, b3, b4, b5, b6, b7⟩ := hb
  unfold makeTail
  rw [hcl, glo]
  refine wpAny_bind (wpAny_pure ?_)
  cases cl with
  | nil =>
    simp only [List.isEmpty_nil, if_true]
    refine wpAny_bind (wpAny_pure (wpAny_bind (wpAny_functionCodeX hcode (C.code hT tri) (C.tab hT) new fun c1 hn tk old ge lt _ rec tab ⟨P1, gP, ic, ta⟩ => ?_)))
    have hg2 := hg.extBut old away
    exact wpAny_bind (wpAny_builtinsFor hg2 b1 b2 (old _ _ b3 b4) b5 b6 b7 (wpAny_bind (wpAny_nsGet hg2 (wpAny_bind (wpAny_pure (wpAny_newObj_type (k c1 P1 .none hn tk old ge lt gP (Heap.lt_size ta.2) rec tab.2 (.of ic ta) ta.2) (by size_fits)))))))
  | cons x r =>
    simp only [List.isEmpty_cons, Bool.false_eq_true, if_false]
    refine wpAny_bind (wpAny_newTextTuple (wpAny_bind (wpAny_functionCodeX hcode ((C.keeps fun b o e => Heap.get?_push_of_some _ e).code (Heap.get?_push_of_some _ hT) tri) ((C.keeps fun b o e => Heap.get?_push_of_some _ e).tab (Heap.get?_push_of_some _ hT)) new fun c1 hn tk old ge lt _ rec tab ⟨P1, gP, ic, ta⟩ => ?_)))
    have hg2 := (hg.push _).extBut old away
    have old2 : Heap.ExtBut PT s.heap hn := fun b o ne e => old b o ne (Heap.get?_push_of_some _ e)
    have ge2 : s.heap.objs.size ≤ c1 := Nat.le_trans (by rw [Heap.size_push]; omega) ge
    have gP2 : s.heap.objs.size ≤ P1 := Nat.le_trans (by rw [Heap.size_push]; omega) gP
    exact wpAny_bind (wpAny_builtinsFor hg2 b1 b2 (old2 _ _ b3 b4) b5 b6 b7 (wpAny_bind (wpAny_nsGet hg2 (wpAny_bind (wpAny_pure (wpAny_newObj_type (k c1 P1 _ hn tk old2 ge2 lt gP2 (Heap.lt_size ta.2) rec tab.2 (.of ic ta) ta.2) (by size_fits)))))))
end
section
variable {X : Cx} {pins : List (Addr × Obj)} {σ : L2.St} {H : Hp} {s : Shared}
/-- a table is written; the code object at c and its table at P1 are new -/
theorem inv_tableX {PT c P1 : Addr} {q : Str} {tb more : Array Value} {hn : Heap} {tk : Nat} (I : Inv X pins σ H s) (hT : H PT = some (.tbl tb)) (k : ∀ b o, b ≠ PT → s.heap.get? b = some o → hn.get? b = some o)
    (hm : hn.get? PT = some { cls := .none, data := .fields (tb ++ more) }) (gc : s.heap.objs.size ≤ c) (gP : s.heap.objs.size ≤ P1) (ne : c ≠ P1) (hd : PySem.W.CodeHd hn c P1) (rec : hn.CodeRec (.ref c) q) (h1 : hn.get? P1 = some { cls := .none, data := .fields #[] }) :
    Inv X pins σ (upd (upd (upd H PT (.tbl (tb ++ more))) c (CodeT c q P1)) P1 (.tbl #[])) { s with heap := hn, toks := tk } := by
  obtain ⟨c2, oc, fl, tg, ec, g1, g2, g3⟩ := rec
  cases ec
  have nC : H c = none := I.hok.fresh gc
  have nP : H P1 = none := I.hok.fresh gP
  have tc : PT ≠ c := ne_of_none hT nC
  have tp : PT ≠ P1 := ne_of_none hT nP
  have at_ : ∀ b, b ≠ PT → b ≠ c → b ≠ P1 → upd (upd (upd H PT (.tbl (tb ++ more))) c (CodeT c q P1)) P1 (.tbl #[]) b = H b := fun b h1 h2 h3 => by rw [upd_ne h3, upd_ne h2, upd_ne h1]
  have atT : upd (upd (upd H PT (.tbl (tb ++ more))) c (CodeT c q P1)) P1 (.tbl #[]) PT = some (.tbl (tb ++ more)) := by rw [upd_ne tp, upd_ne tc, upd_same]
  have other : ∀ b u, H b = some u → (∀ q, u ≠ .tbl q) → b ≠ PT := fun b u e n z => by
    rw [z, hT] at e
    exact n tb (Option.some.inj e).symm
  have empty : ∀ b, H b = none → b ≠ PT := fun b e z => by
    rw [z, hT] at e
    cases e
  have old : ∀ b o, s.heap.get? b = some o → b ≠ c ∧ b ≠ P1 := fun b o e => by
    have := Heap.lt_size e
    exact ⟨fun z => by rw [z] at this; exact absurd (Nat.lt_of_lt_of_le this gc) (Nat.lt_irrefl _), fun z => by rw [z] at this; exact absurd (Nat.lt_of_lt_of_le this gP) (Nat.lt_irrefl _)⟩
  have known : ∀ b u, H b = some u → b ≠ c ∧ b ≠ P1 := fun b u e => ⟨ne_of_none e nC, ne_of_none e nP⟩
  refine I.step (g' := s.gens) (d' := s.drawn) (ch := []) (fun b z => nomatch z) (fun b o _ _ _ e n => k b o (empty b n) e) (fun b o _ _ _ e n => ⟨o.slots, k b o (empty b n) e⟩)
    (fun b o _ e n => (at_ b (empty b n) (old b o e).1 (old b o e).2).trans n) (fun b o _ e => ?_) (fun b xs e => (at_ b (other b _ e fun _ z => nomatch z) (known b _ e).1 (known b _ e).2).trans e)
    (fun b o u e => (at_ b (other b _ e fun _ z => nomatch z) (known b _ e).1 (known b _ e).2).trans e) (fun b qs e => ?_) (fun m hm2 => ?_) (fun b u e => ?_) I.bare
  · by_cases z : b = PT
    · exact ⟨_, z ▸ hm⟩
    · exact ⟨o, k b o z e⟩
  · by_cases z : b = PT
    · subst z
      rw [hT] at e
      cases e
      exact ⟨more, atT⟩
    · exact ⟨#[], by rw [at_ b z (known b _ e).1 (known b _ e).2, e]; simp⟩
  · obtain ⟨ob, es, ep, lies, r⟩ := hm2
    exact ⟨ob, es, ep, k _ ob (empty _ I.free) lies, r⟩
  · by_cases z1 : b = P1
    · subst z1
      rw [upd_same] at e
      cases e
      exact h1
    · rw [upd_ne z1] at e
      by_cases z2 : b = c
      · subst z2
        rw [upd_same] at e
        cases e
        exact codeT_ok hd g1 g2 g3
      · rw [upd_ne z2] at e
        by_cases z3 : b = PT
        · subst z3
          rw [upd_same] at e
          cases e
          exact hm
        · rw [upd_ne z3] at e
          refine (I.hok b u e).stay (fun d v hd2 e2 => k d v ?_ e2) (fun d e2 => (at_ d (other d _ e2 fun _ z => nomatch z) (known d _ e2).1 (known d _ e2).2).trans e2) fun d xs e2 => (at_ d (other d _ e2 fun _ z => nomatch z) (known d _ e2).1 (known d _ e2).2).trans e2
          rcases hd2 with y | y
          · rw [y]
            exact z3
          · exact other d _ y fun _ z => nomatch z
end
/-! ### tables that grow -/
section
variable {dp : Nat → Nat → Bool} {nmI : Nat → Nat → Str} {T : List NTab} {H H2 : Hp}
theorem TabN.grow {P c : Addr} {nm : Nat → Nat → Str} {tb : Array Value} {lp : Pos} (t : TabN H P nm) (tP : H P = some (.tbl tb)) (e : ∀ a o, a ≠ P → H a = some o → H2 a = some o) (e2 : H2 P = some (.tbl (tb ++ #[rawInt lp.line, rawInt lp.col, .ref c]))) (hc : H2 c = some (CodeO c (nm lp.line lp.col))) : TabN H2 P nm := by
  obtain ⟨ps, h1, tri, each⟩ := t
  rw [tP] at h1
  cases h1
  have app : (tb ++ #[rawInt lp.line, rawInt lp.col, .ref c]).toList = tb.toList ++ [rawInt lp.line, rawInt lp.col, .ref c] := by simp
  refine ⟨_, e2, by rw [app]; exact PySem.TriplesOk_snoc _ _ _ _ tri, fun pos cv among => ?_⟩
  rw [app] at among
  rcases among_app2 _ tri among with was | ⟨is, l1, l2⟩
  · obtain ⟨c0, g1, g2⟩ := each pos cv was
    exact ⟨c0, g1, e _ _ (fun z => by rw [z, tP] at g2; exact absurd (Option.some.inj g2) (fun y => (codeO_ne _ y.symm))) g2⟩
  · exact ⟨c, is, by rw [← l1, ← l2]; exact hc⟩
theorem CodeK.off {PT c : Addr} {q : Str} {b : Bool} {tb : Array Value} (h : CodeK nmI T H c q b) (tP : H PT = some (.tbl tb)) (e : ∀ a o, a ≠ PT → H a = some o → H2 a = some o) (g : ∀ P1, TabN H P1 nmI → (∀ p ∈ T, p.1 ≠ P1) → TabN H2 P1 nmI) : CodeK nmI T H2 c q b := by
  cases b with
  | false => exact e _ _ (ne_of h tP fun z => codeO_ne _ z) h
  | true =>
    obtain ⟨P1, h1, h2, h3⟩ := h
    exact ⟨P1, e _ _ (ne_of h1 tP fun z => codeT_ne _ z) h1, h2, g P1 h3 h2⟩
/-- a def's table has one more -/
theorem TabX.grow {PT c : Addr} {nm : Nat → Nat → Str} {tb : Array Value} {lp : Pos} (t : TabX dp nmI T H) (mem : (PT, nm) ∈ T) (alike : ∀ p ∈ T, p.1 = PT → p.2 = nm) (tP : H PT = some (.tbl tb)) (e : ∀ a o, a ≠ PT → H a = some o → H2 a = some o)
    (e2 : H2 PT = some (.tbl (tb ++ #[rawInt lp.line, rawInt lp.col, .ref c]))) (hc : CodeK nmI T H2 c (nm lp.line lp.col) (dp lp.line lp.col)) : TabX dp nmI T H2 := by
  have gN : ∀ P1, TabN H P1 nmI → (∀ p ∈ T, p.1 ≠ P1) → TabN H2 P1 nmI := fun P1 ⟨ps, h1, h2, h3⟩ n => by
    have ne : P1 ≠ PT := fun z => n _ mem z.symm
    refine ⟨ps, e _ _ ne h1, h2, fun pos cv among => ?_⟩
    obtain ⟨c0, g1, g2⟩ := h3 pos cv among
    exact ⟨c0, g1, e _ _ (ne_of g2 tP fun z => codeO_ne _ z) g2⟩
  intro p hp
  obtain ⟨ps, h1, tri, each⟩ := t p hp
  by_cases here : p.1 = PT
  · rw [here, tP] at h1
    cases h1
    rw [alike p hp here, here]
    have app : (tb ++ #[rawInt lp.line, rawInt lp.col, .ref c]).toList = tb.toList ++ [rawInt lp.line, rawInt lp.col, .ref c] := by simp
    refine ⟨_, e2, by rw [app]; exact PySem.TriplesOk_snoc _ _ _ _ tri, fun pos cv among => ?_⟩
    rw [app] at among
    rcases among_app2 _ tri among with was | ⟨is, l1, l2⟩
    · obtain ⟨c0, g1, g2⟩ := each pos cv was
      rw [alike p hp here] at g2
      exact ⟨c0, g1, g2.off tP e gN⟩
    · exact ⟨c, is, by rw [← l1, ← l2]; exact hc⟩
  · refine ⟨ps, e _ _ here h1, tri, fun pos cv among => ?_⟩
    obtain ⟨c0, g1, g2⟩ := each pos cv among
    exact ⟨c0, g1, g2.off tP e gN⟩
/-- a table of what is deep has one more -/
theorem TabX.inner {P1 c : Addr} {tb : Array Value} {lp : Pos} (t : TabX dp nmI T H) (n : ∀ p ∈ T, p.1 ≠ P1) (tP : H P1 = some (.tbl tb)) (e : ∀ a o, a ≠ P1 → H a = some o → H2 a = some o) (e2 : H2 P1 = some (.tbl (tb ++ #[rawInt lp.line, rawInt lp.col, .ref c]))) (hc : H2 c = some (CodeO c (nmI lp.line lp.col))) : TabX dp nmI T H2 := by
  intro p hp
  obtain ⟨ps, h1, tri, each⟩ := t p hp
  refine ⟨ps, e _ _ (n p hp) h1, tri, fun pos cv among => ?_⟩
  obtain ⟨c0, g1, g2⟩ := each pos cv among
  refine ⟨c0, g1, g2.off tP e fun P2 t2 _ => ?_⟩
  by_cases z : P2 = P1
  · subst z
    exact TT.TabN.grow t2 tP e e2 hc
  · obtain ⟨ps2, h1, h2, h3⟩ := t2
    refine ⟨ps2, e _ _ z h1, h2, fun pos cv among => ?_⟩
    obtain ⟨c2, q1, q2⟩ := h3 pos cv among
    exact ⟨c2, q1, e _ _ (ne_of q2 tP fun z => codeO_ne _ z) q2⟩
end
/-! ### lambdas as values -/
section
variable {X : Cx} {pins : List (Addr × Obj)} {σ : L2.St} {H : Hp} {s : Shared} {dp : Nat → Nat → Bool} {nmI : Nat → Nat → Str} {T : List NTab}
/-- in a def -/
theorem lam_makeX {nm : Nat → Nat → Str} {cd PT : Addr} {as : Arguments} {bd : Expr} {sc : Scope} {lp : Pos} {ER : Value → Shared → Prop} {R : Value → Shared → Prop} (I : Inv X pins σ H s) (TB : TabB X.base X.mg cd PT) (hcd : X.env.code = .ref cd)
    (mem : (PT, nm) ∈ T) (named : nm lp.line lp.col = X.env.qual ++ "<lambda>") (alike : ∀ p ∈ T, p.1 = PT → p.2 = nm) (tT : TabX dp nmI T H) (nodef : defaultsOf as X.env = ([], [])) (fr : ∀ y ∈ sc.names, y.2 = .free → ∃ c, X.env.cells.lookup y.1 = some c)
    (go : ∀ (f c1 : Addr) (H1 : Hp) (s1 : Shared), Inv X pins σ H1 s1 → ExtN H H1 → TabX dp nmI T H1 → H f = none → H1 f = some (LmO f (lmX X as bd sc c1)) → CodeK nmI T H1 c1 (X.env.qual ++ "<lambda>") (dp lp.line lp.col) → R (.ref f) s1) :
    wpAny (model X.prog X.w) X.A (eval (.Lambda as bd sc lp) X.env) R ER s := by
  obtain ⟨tb, tP, tri, each⟩ := tT _ mem
  refine PySem.W.kla_eval nodef ?_
  have bAt := TB.bm.keeps I.bk
  have sP : s.heap.get? PT = some { cls := .none, data := .fields tb } := I.hok PT _ tP
  have fin : ∀ {H2 : Hp} {hn : Heap} {tk : Nat} {c1 : Addr} {ctv : Value}, Inv X pins σ H2 { s with heap := hn, toks := tk } → ExtN H H2 → TabX dp nmI T H2 → H hn.objs.size = none → CodeK nmI T H2 c1 (X.env.qual ++ "<lambda>") (dp lp.line lp.col) →
      R (.ref hn.objs.size) { s with heap := hn.push (PySem.W.kla_obj "<lambda>" (X.env.qual ++ "<lambda>") as bd sc (cloFrom X.env.cells sc.names []) ((X.mg "__name__").getD .none) c1 ctv), toks := tk } := fun {H2 hn tk c1 ctv} J ext tX n0 ck => by
    have nF := J.hok.fresh (Nat.le_refl _)
    have J2 := inv_lm (D := lmX X as bd sc c1) (t' := tk) (pm := (X.mg "__name__").getD .none) (ctv := ctv) J rfl
    have up : ∀ b o, H2 b = some o → upd H2 hn.objs.size (LmO hn.objs.size (lmX X as bd sc c1)) b = some o := fun b o hb => (upd_ne (ne_of_none hb nF)).trans hb
    exact go hn.objs.size c1 _ _ J2 (fun b o hb no => up _ _ (ext b o hb no)) (tX.ext up) n0 upd_same (ck.by_ fun a o h _ => up a o h)
  cases found : codeAmong lp tb.toList with
  | none =>
    cases hd : dp lp.line lp.col with
    | false =>
      refine PySem.W.kla_makeFunction (mg := X.mg) (c := cd) (P := PT) (ps := tb) (closure_ok fr) I.ok.glob (I.mod.glob.keeps I.bk) hcd (TB.code.keeps I.bk) sP tri found TB.gP bAt fun c1 ctv hn tk old ge lt rec tab => ?_
      obtain ⟨c2, oc, fl, tg, ec, gc, dc, nc⟩ := rec
      cases ec
      have new : H c1 = none := I.hok.fresh ge
      have J := inv_table (t' := tk) (more := #[rawInt lp.line, rawInt lp.col, .ref c1]) (h' := hn) I tP (fun b o ne g => old b o ne g) tab ge ⟨oc, fl, tg, gc, dc, nc⟩
      have ext : ∀ b o, b ≠ PT → H b = some o → upd (upd H PT (.tbl (tb ++ #[rawInt lp.line, rawInt lp.col, .ref c1]))) c1 (CodeO c1 (X.env.qual ++ "<lambda>")) b = some o := fun b o ne hb => (upd_ne (ne_of_none hb new)).trans ((upd_ne ne).trans hb)
      have ck : CodeK nmI T (upd (upd H PT (.tbl (tb ++ #[rawInt lp.line, rawInt lp.col, .ref c1]))) c1 (CodeO c1 (X.env.qual ++ "<lambda>"))) c1 (X.env.qual ++ "<lambda>") (dp lp.line lp.col) := by
        rw [hd]
        exact upd_same
      exact fin J (fun b o hb no => ext b o (fun z => no tb (Option.some.inj (hb.symm.trans (by rw [z]; exact tP)))) hb) (tT.grow (lp := lp) mem alike tP ext ((upd_ne (ne_of_none tP new)).trans upd_same) (by rw [named]; exact ck)) (I.hok.fresh (Nat.le_trans ge (Nat.le_of_lt lt))) ck
    | true =>
      refine lam_newX (mg := X.mg) (c := cd) (PT := PT) (tb := tb) (closure_ok fr) I.ok.glob (I.mod.glob.keeps I.bk) hcd (TB.code.keeps I.bk) sP tri found TB.gP bAt fun c1 P1 ctv hn tk old ge lt gP lP rec tab hcd1 tab1 => ?_
      have new : H c1 = none := I.hok.fresh ge
      have newP : H P1 = none := I.hok.fresh gP
      have cP : c1 ≠ P1 := by
        obtain ⟨_, _, _, _, _, _, _, _, _, _, _, _, _, _, _, _, _, _, z⟩ := hcd1
        exact z
      have J := inv_tableX (tk := tk) (more := #[rawInt lp.line, rawInt lp.col, .ref c1]) I tP (fun b o ne g => old b o ne g) tab ge gP cP hcd1 rec tab1
      have ext : ∀ b o, b ≠ PT → H b = some o → upd (upd (upd H PT (.tbl (tb ++ #[rawInt lp.line, rawInt lp.col, .ref c1]))) c1 (CodeT c1 (X.env.qual ++ "<lambda>") P1)) P1 (.tbl #[]) b = some o := fun b o ne hb => (upd_ne (ne_of_none hb newP)).trans ((upd_ne (ne_of_none hb new)).trans ((upd_ne ne).trans hb))
      have ck : CodeK nmI T (upd (upd (upd H PT (.tbl (tb ++ #[rawInt lp.line, rawInt lp.col, .ref c1]))) c1 (CodeT c1 (X.env.qual ++ "<lambda>") P1)) P1 (.tbl #[])) c1 (X.env.qual ++ "<lambda>") (dp lp.line lp.col) := by
        rw [hd]
        refine ⟨P1, (upd_ne cP).trans upd_same, fun p hp z => ?_, .nil upd_same⟩
        obtain ⟨ps, q, _⟩ := tT p hp
        rw [z, newP] at q
        cases q
      exact fin J (fun b o hb no => ext b o (fun z => no tb (Option.some.inj (hb.symm.trans (by rw [z]; exact tP)))) hb) (tT.grow (lp := lp) mem alike tP ext ((upd_ne (ne_of_none tP newP)).trans ((upd_ne (ne_of_none tP new)).trans upd_same)) (by rw [named]; exact ck)) (I.hok.fresh (Nat.le_trans ge (Nat.le_of_lt lt))) ck
  | some cv =>
    obtain ⟨c1, ec, known⟩ := each lp cv found
    subst ec
    dsimp only at known
    rw [named] at known
    refine PySem.W.kla_makeFunctionHit (mg := X.mg) (c := cd) (P := PT) (ps := tb) (closure_ok fr) I.ok.glob (I.mod.glob.keeps I.bk) hcd (TB.code.keeps I.bk) sP tri found bAt fun ctv hn tk old ge => ?_
    have J : Inv X pins σ H { s with heap := hn, toks := tk } := I.kept old
    exact fin J (ExtN.refl H) tT (J.hok.fresh (Nat.le_refl _)) known
/-- in a lambda whose code object is deep -/
theorem lam_makeI {cd P1 : Addr} {q : Str} {as : Arguments} {bd : Expr} {sc : Scope} {lp : Pos} {ER : Value → Shared → Prop} {R : Value → Shared → Prop} (I : Inv X pins σ H s) (hcd : X.env.code = .ref cd) (hT : H cd = some (CodeT cd q P1)) (off : ∀ p ∈ T, p.1 ≠ P1) (away : mainGlobals ≠ P1) (bAt : s.heap.BuiltinsAt X.mg P1) (tN : TabN H P1 nmI)
    (named : nmI lp.line lp.col = X.env.qual ++ "<lambda>") (tT : TabX dp nmI T H) (nodef : defaultsOf as X.env = ([], [])) (fr : ∀ y ∈ sc.names, y.2 = .free → ∃ c, X.env.cells.lookup y.1 = some c)
    (go : ∀ (f c1 : Addr) (H1 : Hp) (s1 : Shared), Inv X pins σ H1 s1 → ExtN H H1 → TabX dp nmI T H1 → H f = none → H1 f = some (LmO f (lmX X as bd sc c1)) → H1 c1 = some (CodeO c1 (X.env.qual ++ "<lambda>")) → R (.ref f) s1) :
    wpAny (model X.prog X.w) X.A (eval (.Lambda as bd sc lp) X.env) R ER s := by
  obtain ⟨tb, tP, tri, each⟩ := id tN
  refine PySem.W.kla_eval nodef ?_
  have hd := (codeT_at I.hok hT).1
  have sP : s.heap.get? P1 = some { cls := .none, data := .fields tb } := I.hok P1 _ tP
  cases found : codeAmong lp tb.toList with
  | none =>
    refine PySem.W.kla_makeFunction (mg := X.mg) (c := cd) (P := P1) (ps := tb) (closure_ok fr) I.ok.glob (I.mod.glob.keeps I.bk) hcd hd sP tri found away bAt fun c1 ctv hn tk old ge lt rec tab => ?_
    obtain ⟨c2, oc, fl, tg, ec, gc, dc, nc⟩ := rec
    cases ec
    have new : H c1 = none := I.hok.fresh ge
    have J := inv_table (t' := tk) (more := #[rawInt lp.line, rawInt lp.col, .ref c1]) (h' := hn) I tP (fun b o ne g => old b o ne g) tab ge ⟨oc, fl, tg, gc, dc, nc⟩
    have ext : ∀ b o, b ≠ P1 → H b = some o → upd (upd H P1 (.tbl (tb ++ #[rawInt lp.line, rawInt lp.col, .ref c1]))) c1 (CodeO c1 (X.env.qual ++ "<lambda>")) b = some o := fun b o ne hb => (upd_ne (ne_of_none hb new)).trans ((upd_ne ne).trans hb)
    have tX : TabX dp nmI T (upd (upd H P1 (.tbl (tb ++ #[rawInt lp.line, rawInt lp.col, .ref c1]))) c1 (CodeO c1 (X.env.qual ++ "<lambda>"))) := tT.inner (lp := lp) off tP ext ((upd_ne (ne_of_none tP new)).trans upd_same) (by rw [named]; exact upd_same)
    have nF := J.hok.fresh (Nat.le_refl _)
    have J2 := inv_lm (D := lmX X as bd sc c1) (t' := tk) (pm := (X.mg "__name__").getD .none) (ctv := ctv) J rfl
    refine go hn.objs.size c1 _ _ J2 (fun b o hb no => ?_) (tX.ext fun b o hb => (upd_ne (ne_of_none hb nF)).trans hb) (I.hok.fresh (Nat.le_trans ge (Nat.le_of_lt lt))) upd_same ((upd_ne (Nat.ne_of_lt lt)).trans upd_same)
    have q := ext b o (fun z => no tb (Option.some.inj (hb.symm.trans (by rw [z]; exact tP)))) hb
    exact (upd_ne (ne_of_none q nF)).trans q
  | some cv =>
    obtain ⟨c1, ec, known⟩ := each lp cv found
    subst ec
    rw [named] at known
    refine PySem.W.kla_makeFunctionHit (mg := X.mg) (c := cd) (P := P1) (ps := tb) (closure_ok fr) I.ok.glob (I.mod.glob.keeps I.bk) hcd hd sP tri found bAt fun ctv hn tk old ge => ?_
    have J : Inv X pins σ H { s with heap := hn, toks := tk } := I.kept old
    have nF : H hn.objs.size = none := J.hok.fresh (Nat.le_refl _)
    have J2 := inv_lm (D := lmX X as bd sc c1) (t' := tk) (pm := (X.mg "__name__").getD .none) (ctv := ctv) J rfl
    exact go hn.objs.size c1 _ _ J2 (fun b o hb _ => (upd_ne (ne_of_none hb nF)).trans hb) (tT.ext fun b o hb => (upd_ne (ne_of_none hb nF)).trans hb) nF upd_same ((upd_ne (ne_of_none known nF)).trans known)
end
end TT

set_option Elab.async false
set_option linter.all false
set_option maxRecDepth 100000
set_option maxHeartbeats 4000000
/-! Callables with arguments handed to defs and methods: lambdas, nested defs. -/
namespace TT
open PySem PySem.Spec PyProof.Rows L2 LamX NdefX
abbrev TL := XK → List V → Hp → VK → Prop
/-- what the callable at f does at any later state, the frames fs waiting -/
structure RunsB (P : Program) (w : World) (K : PySem.W.Frag) (mg : Str → Option Value) (base : Heap) (fs : List Addr) (k : Nat) (f : Addr) (tl : TL) (s : Shared) (H : Hp) : Prop where
  run : ∀ (A : Around) (outer : List Env) (s1 : Shared) (HZ : Hp) (us : List Value) (vs : List V) (Q : VK) (E : XK), Room (k + 1) A → Env0 P w K mg base A outer s1 HZ → Un fs [] H HZ s.heap s1.heap → (∀ c ∈ frs outer, c ∈ fs ∨ s.heap.get? c = none) → (∀ c ∈ fs, c ∈ frs outer) → Vals vs us → tl E vs HZ Q →
    PySem.W.FnAt f s1.heap ∧ codeAny (model P w) A (.call (.ref f) ⟨us, []⟩) (CR (L2.CX P w) outer P w HZ s1 Q E) s1
section
variable {P : Program} {w : World} {K : PySem.W.Frag} {mg : Str → Option Value} {base : Heap} {k j : Nat} {f : Addr} {tl : TL}
theorem RunsB.step {fs fs' : List Addr} {s s1 : Shared} {H H1 : Hp} (R : RunsB P w K mg base fs k f tl s H) (u : Un fs [] H H1 s.heap s1.heap) (new : ∀ c ∈ fs', c ∈ fs ∨ s.heap.get? c = none) (sub : ∀ c ∈ fs, c ∈ fs') : RunsB P w K mg base fs' k f tl s1 H1 :=
  ⟨fun A outer s2 HZ us vs Q E hr e0 u2 n2 b2 r t => R.run A outer s2 HZ us vs Q E hr e0 (un_thenE u u2 new sub) (fun c hc => (n2 c hc).elim (new c) fun z => .inr (by
    cases e : s.heap.get? c with
    | none => rfl
    | some o =>
      obtain ⟨o', e'⟩ := u.there c o e List.not_mem_nil
      rw [z] at e'
      cases e')) (fun c hc => b2 c (sub c hc)) r t⟩
theorem RunsB.now {X : Cx} {pins : List (Addr × Obj)} {σ : L2.St} {H : Hp} {s : Shared} (R : RunsB X.prog X.w X.K X.mg X.base X.fs k f tl X.s_0 X.H_0) (hex : X.ex = []) (I : Inv X pins σ H s) : RunsB X.prog X.w X.K X.mg X.base (frs X.stack) k f tl s H := by
  refine R.step (hex ▸ I.base) (fun c hc => ?_) fun c hc => ?_
  · rcases List.mem_cons.mp (I.stkSub c hc) with z | z
    · exact .inr (Heap.get?_none_of_le (z ▸ I.ok.above))
    · exact .inl z
  · rcases I.ok.stk with z | ⟨z, hf⟩
    · rw [z]; exact hc
    · rw [z]
      unfold frs
      rw [List.filterMap_cons, hf]
      exact List.mem_cons_of_mem _ hc
end
/-- a def or method that is handed callables -/
structure FOkB (P : Program) (w : World) (K : PySem.W.Frag) (mg : Str → Option Value) (base : Heap) (CX : CXT) (k j : Nat) (g : Addr) (fd : FuncData) (ps : List Str) (sp : (Addr → TL) → Sp) : Prop where
  len : ∀ tl vs H Q E, sp tl vs H Q E → vs.length = ps.length
  run : ∀ (tl : Addr → TL) (A : Around) (outer : List Env) (s : Shared) (H : Hp) (args : Args) (us : List Value) (vs : List V) (Q : VK) (E : XK), Room k A → Env0 P w K mg base A outer s H →
    BindsTo s fd args (ps.zip us) → Vals vs us → (∀ f, RunsB P w K mg base (frs outer) j f (tl f) s H) → sp tl vs H Q E → codeAny (model P w) A (.call (.ref g) args) (CR CX outer P w H s Q E) s
theorem okB {CX : CXT} {P : Program} {w : World} {K : PySem.W.Frag} {mg : Str → Option Value} {base : Heap} {x qual : Str} {st : Stmt} {g : Addr} {fd : FuncData} {N ps : List Str} {k j : Nat} {sp : (Addr → TL) → Sp} (F : Fun K x qual st g fd) (S : FnScope N ps (defScope st))
    (len : ∀ tl vs H Q E, sp tl vs H Q E → vs.length = ps.length)
    (hb : ∀ (cdv : Value) (tl : Addr → TL) (A : Around) (outer : List Env) (s : Shared) (H : Hp) (vs : List V) (Q : VK) (E : XK), Room k (A.deeper (envOfC qual (defScope st) s.heap.objs.size g cdv)) → (∀ f, RunsB P w K mg base (frs outer) j f (tl f) s H) → sp tl vs H Q E →
      ∃ t, PSs (cxOf CX P w K mg base N qual (defScope st) g cdv A outer s H E) (defBody st) t ∧ t { nx := fun _ H1 => Q .non H1, rt := Q } (start N vs) H) : FOkB P w K mg base CX (k + 1) j g fd ps sp := by
  obtain ⟨oc, od, kV, doc, pm, an, cdv, ct, osl, rfl, lk, hcd⟩ := F.ex
  refine ⟨len, fun tl A outer s H args us vs Q E hr e0 bnd r R h => ?_⟩
  exact run_ofS (vs := vs) lk hcd S hr e0 bnd r (len _ _ _ _ _ h) fun hr' => hb cdv tl A outer s H vs Q E hr' R h
section
variable {X : Cx} {CX : CXT} {k j i i2 : Nat} {f g : Addr} {fd : FuncData} {ps : List Str} {sp : (Addr → TL) → Sp} {tl : Addr → TL} {x a b : Str} {p p1 p2 pos : Pos} {e : Expr} {es : List Expr} {ta : TA} {E : XK}
theorem run_B {pins : List (Addr × Obj)} {σ : L2.St} {H : Hp} {s : Shared} {Q : VK} {us : List Value} {vs : List V} (L : FOkB X.prog X.w X.K X.mg X.base CX k j g fd ps sp) (hr : Room k X.A) (hb : Binds X.K fd ps []) (hx : Passes CX X E)
    (I : Inv X pins σ H s) (R : ∀ f, RunsB X.prog X.w X.K X.mg X.base (frs X.stack) j f (tl f) s H) (r : Vals vs us) (h : sp tl vs H Q E) : wpAny (model X.prog X.w) X.A (call (.ref g) us) (EP X pins σ Q) X.xe s := by
  have n : us.length = ps.length := by
    rw [← r.length]
    exact L.len _ _ _ _ _ h
  have b := hb s us I.kIn (by rw [List.append_nil]; exact n)
  rw [List.append_nil] at b
  refine wpAny_call (codeAny_mono (L.run tl X.A X.stack s H ⟨us, []⟩ us vs Q E hr I.env0 b r R h) fun res s1 z => ?_)
  match res, z with
  | .error e, z => exact hx pins σ H s e s1 I z
  | .ok (.ret u), z => exact I.after z
  | .ok .next, z => exact z.elim
  | .ok .brk, z => exact z.elim
  | .ok .cont, z => exact z.elim
/-- g(..), some arguments callables -/
def tCallB (sp : (Addr → TL) → Sp) (tl : L2.St → Addr → TL) (E : XK) (ta : TA) : TE := fun σ H Q => ta σ H fun vs H1 => sp (tl σ) vs H1 Q E
theorem pe_callFB {tl : L2.St → Addr → TL} (R : ∀ (pins : List (Addr × Obj)) (σ : L2.St) (H : Hp) (s : Shared), Inv X pins σ H s → ∀ f, RunsB X.prog X.w X.K X.mg X.base (frs X.stack) j f (tl σ f) s H) (L : FOkB X.prog X.w X.K X.mg X.base CX k j g fd ps sp) (hr : Room k X.A) (hb : Binds X.K fd ps []) (hx : Passes CX X E)
    (hg : Gl X x) (hm : X.mg x = some (.ref g)) (hk : PySem.W.keepIn X.K (.ref g) = true) (ha : PA X (e :: es) ta) (hdb : (x == ("__debug__" : Str)) = false := by decide)
    (he : starEach (e :: es) X.env = (false, eval e X.env) :: starEach es X.env := by rfl) (hpl : (backTo pos (starEach es X.env)).any (·.1) = false := by rfl) :
    PE X (.Call (.Name x p) (e :: es) [] pos) (tCallB sp tl E ta) := by
  constructor
  intro pins s σ H Q I h
  refine wpAny_Call_Name_kw (ld_glob I hg hm (PySem.W.callWith_K (h₀ := X.base) I.ok.mod.kin hk (thn (ha.run pos pins s σ H _ I h) fun us s1 ⟨vs, H1, I1, r, q⟩ => ⟨I1.kIn, ?_⟩) he hpl) hdb)
  exact run_B L hr hb hx I1 (R pins σ H1 s1 I1) r q
/-- o.m(..), some arguments callables -/
def tMethB (C : Addr) (m : Str) (sp : (Addr → TL) → Sp) (tl : L2.St → Addr → TL) (E : XK) (to : TE) (ta : TA) : TE := fun σ H Q => to σ H fun x H1 => ∃ a dx fs, x = .ref a ∧ H1 a = some (.ins C dx fs) ∧ fs.lookup m = none ∧ ta σ H1 fun vs H2 => sp (tl σ) (x :: vs) H2 Q E
theorem pe_methB {tl : L2.St → Addr → TL} {C : Addr} {m : Str} {o : Expr} {to : TE} {apos : Pos} {pl : Sem Bool} (R : ∀ (pins : List (Addr × Obj)) (σ : L2.St) (H : Hp) (s : Shared), Inv X pins σ H s → ∀ f, RunsB X.prog X.w X.K X.mg X.base (frs X.stack) j f (tl σ f) s H) (ho : PE X o to) (c : Cls X.K C) (hm : Meth X.K C m g)
    (L : FOkB X.prog X.w X.K X.mg X.base CX k j g fd ps sp) (hr : Room k X.A) (hb : Binds X.K fd ps []) (hx : Passes CX X E) (ha : PA X (e :: es) ta)
    (he : starEach (e :: es) X.env = (false, eval e X.env) :: starEach es X.env := by rfl) (hpl : (backTo pos (starEach es X.env)).any (·.1) = false := by rfl)
    (ht : eval (.Call (.Attribute o m apos) (e :: es) [] pos) X.env = (do
      let ov ← eval o X.env
      standAt apos.atName
      let (f, first) ← holding [ov] (getMethod ov m pl)
      callWith pos f first (backTo pos (starEach (e :: es) X.env)) (backToKw pos (keywordEach [] X.env))) := by rfl) :
    PE X (.Call (.Attribute o m apos) (e :: es) [] pos) (tMethB C m sp tl E to ta) := by
  constructor
  intro pins s σ H Q I h
  refine PySem.W.methodCall_KW (pl := pl) (thn (ho.run pins s σ H _ I h) fun u s1 ⟨x, H1, I1, rx, a, dx, fs, ex, ea, l, q⟩ => ?_) ht
  subst ex
  obtain rfl : u = Value.ref a := rx
  refine getmeth_ok I1 ea c hm l (PySem.W.callWith_K (first := [.ref a]) (h₀ := X.base) I.ok.mod.kin hm.kp (thn (ha.run pos pins s1 σ H1 _ I1 q) fun us s2 ⟨vs, H2, I2, r, q2⟩ => ⟨I2.kIn, ?_⟩) he hpl)
  exact run_B (us := .ref a :: us) (vs := .ref a :: vs) L hr hb hx I2 (R pins σ H2 s2 I2) (.cons rfl r) q2
/-- x(y), both names -/
def tLookB (i i2 : Nat) (tl : Addr → TL) (E : XK) : TE := fun σ H Q => ∃ f v, σ[i]? = some (some (.ref f)) ∧ σ[i2]? = some (some v) ∧ tl f E [v] H Q
theorem pe_lookB (R : ∀ f, RunsB X.prog X.w X.K X.mg X.base X.fs k f (tl f) X.s_0 X.H_0) (hex : X.ex = []) (hx : Passes (L2.CX X.prog X.w) X E) (hr : Room (k + 1) X.A) (hN : X.N[i]? = some a) (hv : Vis X.env.scope a) (hN2 : X.N[i2]? = some b) (hv2 : Vis X.env.scope b)
    (hd : (a == ("__debug__" : Str)) = false := by decide) (hcd : (a == ("__classdict__" : Str)) = false := by decide) (hd2 : (b == ("__debug__" : Str)) = false := by decide) (hcd2 : (b == ("__classdict__" : Str)) = false := by decide)
    (he : starEach [.Name b p1] X.env = (false, eval (.Name b p1) X.env) :: starEach [] X.env := by rfl) (hpl : (backTo pos (starEach [] X.env)).any (·.1) = false := by rfl) :
    PE X (.Call (.Name a p) [.Name b p1] [] pos) (tLookB i i2 tl E) := by
  constructor
  intro pins s σ H Q I ⟨f, v, hs, hs2, t⟩
  refine wpAny_Call_Name_kw (thn ((pe_var (pos := p) (i := i) hN hv hd hcd).run pins s σ H (fun v H1 => v = .ref f ∧ H1 = H) I ⟨_, hs, rfl, rfl⟩) fun u s1 ⟨v1, H1, I1, r1, ev, eH⟩ => ?_)
  subst ev eH
  obtain rfl : u = Value.ref f := r1
  have Rn := (R f).now hex I1
  obtain ⟨us0, ru⟩ : ∃ us, Vals [v] us := by
    obtain ⟨m, _, hl⟩ := I1.loc
    obtain ⟨u, r, _⟩ := hl i2 b v hN2 hs2 hv2
    exact ⟨[u], .cons r .nil⟩
  have fn := (Rn.run X.A X.stack s1 _ us0 [v] Q E hr I1.env0 Un.refl (fun c hc => .inl hc) (fun c hc => hc) ru t).1
  refine PySem.W.callWith_F (first := []) fn (thn ((pa_cons (pe_var (pos := p1) (i := i2) hN2 hv2 hd2 hcd2) pa_nil).run pos pins s1 σ _ (fun vs H2 => vs = [v] ∧ H2 = H1) I1 ⟨_, hs2, rfl, rfl⟩) fun us s2 ⟨vs, H2, I2, r, ev, eH⟩ => ?_) he hpl
  subst ev eH
  obtain ⟨ob, rc⟩ := ((R f).now hex I2).run X.A X.stack s2 _ us _ Q E hr I2.env0 Un.refl (fun c hc => .inl hc) (fun c hc => hc) r t
  refine ⟨ob, wpAny_call (codeAny_mono rc fun res s3 z => ?_)⟩
  match res, z with
  | .error e, z => exact hx pins σ _ s2 e s3 I2 z
  | .ok (.ret u), z => exact I2.after z
  | .ok .next, z => exact z.elim
  | .ok .brk, z => exact z.elim
  | .ok .cont, z => exact z.elim
/-- x() in a try's body -/
def tLookS (i : Nat) (tl : Addr → TL) (W : WX) : TE := fun σ H Q => ∃ (f : Addr) (E : XK) (Q0 : VK), (∀ cls d H', E cls d H' → W cls d σ H') ∧ (∀ v H', Q0 v H' → Q v H') ∧ σ[i]? = some (some (.ref f)) ∧ tl f E [] H Q0
theorem pe_lookBS {W : WX} (tk : Takes X W) (R : ∀ f, RunsB X.prog X.w X.K X.mg X.base X.fs k f (tl f) X.s_0 X.H_0) (hex : X.ex = []) (hr : Room (k + 1) X.A) (hN : X.N[i]? = some a) (hv : Vis X.env.scope a)
    (hd : (a == ("__debug__" : Str)) = false := by decide) (hcd : (a == ("__classdict__" : Str)) = false := by decide) : PE X (.Call (.Name a p1) [] [] p2) (tLookS i tl W) := by
  constructor
  intro pins s σ H Q I ⟨f, E, Q0, hW, hQ, hs, t⟩
  refine wpAny_Call_Name_kw (thn ((pe_var (pos := p1) (i := i) hN hv hd hcd).run pins s σ H (fun v H1 => v = .ref f ∧ H1 = H) I ⟨_, hs, rfl, rfl⟩) fun u s1 ⟨v, H1, I1, r1, ev, eH⟩ => ?_)
  subst ev eH
  obtain rfl : u = Value.ref f := r1
  obtain ⟨ob, rc⟩ := ((R f).now hex I1).run X.A X.stack s1 _ [] [] Q0 E hr I1.env0 Un.refl (fun c hc => .inl hc) (fun c hc => hc) .nil t
  refine PySem.W.callWith_F0 (first := []) ob (wpAny_call (codeAny_mono rc fun res s2 z => ?_))
  match res, z with
  | .error e, z => exact tk e s2 (XE.of_call I1 hW z)
  | .ok (.ret u), z =>
    obtain ⟨v, H2, I2, rv, q⟩ := I1.after z
    exact ⟨v, H2, I2, rv, hQ _ _ q⟩
  | .ok .next, z => exact z.elim
  | .ok .brk, z => exact z.elim
  | .ok .cont, z => exact z.elim
end
end TT

set_option Elab.async false
set_option linter.all false
set_option maxRecDepth 100000
set_option maxHeartbeats 4000000
/-! What callables do: lambdas of a def, lambdas with parameters, nested defs. -/
namespace TT
open PySem PySem.Spec PyProof.Rows L2 LamX NdefX
/-- a code object of this name -/
def CodeA (H : Hp) (c : Addr) (q : Str) : Prop := H c = some (CodeO c q) ∨ ∃ P, H c = some (CodeT c q P)
theorem codeA_at {M : Program} {w : World} {H : Hp} {h : Heap} {c : Addr} {q : Str} (hok : HOk M w H h) (e : CodeA H c q) : h.CodeRec (.ref c) q := by
  rcases e with e | ⟨P, e⟩
  · obtain ⟨⟨oc, vs, t, h1, h2, h3⟩, _, _⟩ := hok c _ e
    exact ⟨c, oc, vs, t, rfl, h1, h2, h3⟩
  · exact (codeT_at hok e).2
theorem CodeK.a {nmI : Nat → Nat → Str} {T : List NTab} {H : Hp} {c : Addr} {q : Str} {b : Bool} (h : CodeK nmI T H c q b) : CodeA H c q := by
  cases b with
  | false => exact .inl h
  | true =>
    obtain ⟨P, h, _⟩ := h
    exact .inr ⟨P, h⟩
/-! ### lambdas without parameters, in a def whose other callables are tl0 -/
structure LamGoodB (X : Cx) (k j : Nat) (tl0 : L2.St → Addr → TL) (as : Arguments) (bd : Expr) (sc : Scope) (t : Addr → L2.St → XK → TE) : Prop where
  S : LamS X.env.scope sc
  bind : ∀ (q : Str) (cl : List (Str × Addr)) (pm cv ctv : Value), bindArgs (PySem.W.kla_fn "<lambda>" q as bd sc cl pm cv ctv) ⟨[], []⟩ = pure []
  body : ∀ (A : Around) (outer : List Env) (s : Shared) (H : Hp) (E : XK) (f c' : Addr) (σ : L2.St), Room k (A.deeper (lamEnv X sc s.heap.objs.size f c')) → (∀ g, RunsB X.prog X.w X.K X.mg X.base (frs outer) j g (tl0 σ g) s H) → PE (lamCx X A outer s H E sc f c') bd (t c' σ E)
/-- at f stands such a lambda; its code object is one that C tells -/
def LamAtB (X : Cx) (k j : Nat) (tl0 : L2.St → Addr → TL) (t : Addr → L2.St → XK → TE) (C : Hp → Addr → Prop) (H : Hp) (f : Addr) : Prop := ∃ as bd sc c1, LamGoodB X k j tl0 as bd sc t ∧ H f = some (LmO f (lmX X as bd sc c1)) ∧ CodeA H c1 (X.env.qual ++ "<lambda>") ∧ C H c1
def tLamB (X : Cx) (k j : Nat) (tl0 : L2.St → Addr → TL) (dp : Nat → Nat → Bool) (nmI : Nat → Nat → Str) (T : List NTab) (d : Bool) (t : Addr → L2.St → XK → TE) : TE := fun _ H Q => TabX dp nmI T H ∧ ∀ (f : Addr) (H1 : Hp), ExtN H H1 → TabX dp nmI T H1 → H f = none →
  LamAtB X k j tl0 t (fun H1 c1 => CodeK nmI T H1 c1 (X.env.qual ++ "<lambda>") d) H1 f → Q (.ref f) H1
theorem pe_lamB {X : Cx} {k j : Nat} {tl0 : L2.St → Addr → TL} {dp : Nat → Nat → Bool} {nmI : Nat → Nat → Str} {T : List NTab} {nm : Nat → Nat → Str} {cd PT : Addr} {as : Arguments} {bd : Expr} {sc : Scope} {lp : Pos} {d : Bool} {t : Addr → L2.St → XK → TE} (TB : TabB X.base X.mg cd PT) (hcd : X.env.code = .ref cd) (mem : (PT, nm) ∈ T) (alike : ∀ p ∈ T, p.1 = PT → p.2 = nm)
    (named : nm lp.line lp.col = X.env.qual ++ "<lambda>") (deep : dp lp.line lp.col = d) (nodef : defaultsOf as X.env = ([], [])) (g : LamGoodB X k j tl0 as bd sc t) : PE X (.Lambda as bd sc lp) (tLamB X k j tl0 dp nmI T d t) :=
  ⟨fun pins s σ H Q I ⟨tT, go⟩ => lam_makeX I TB hcd mem named alike tT nodef (g.S.has I.ok) fun f c1 H1 s1 I1 eN T1 n0 at1 co => ⟨.ref f, H1, I1, rfl, go f H1 eN T1 n0 ⟨as, bd, sc, c1, g, at1, co.a, deep ▸ co⟩⟩⟩
/-- such a lambda as a callable, while the def's frame waits in the state σ -/
def tlA (X : Cx) (k j : Nat) (tl0 : L2.St → Addr → TL) (σ : L2.St) (f : Addr) : TL := fun E vs H Q => vs = [] ∧ ∃ t as bd sc c1, LamGoodB X k j tl0 as bd sc t ∧ H f = some (LmO f (lmX X as bd sc c1)) ∧ CodeA H c1 (X.env.qual ++ "<lambda>") ∧ t c1 σ E σ H Q
theorem runs_A {X : Cx} {k j : Nat} {tl0 : L2.St → Addr → TL} (R0 : ∀ (pins : List (Addr × Obj)) (σ : L2.St) (H : Hp) (s : Shared), Inv X pins σ H s → ∀ f, RunsB X.prog X.w X.K X.mg X.base (frs X.stack) j f (tl0 σ f) s H)
    (pins : List (Addr × Obj)) (σ : L2.St) (H : Hp) (s : Shared) (I : Inv X pins σ H s) (f : Addr) : RunsB X.prog X.w X.K X.mg X.base (frs X.stack) k f (fun E vs H Q => tlA X k j tl0 σ f E vs H Q) s H := by
  refine ⟨fun A outer s1 HZ us vs Q E hr e0 un new sub rv ⟨ev, t, as, bd, sc, c1, g, hf, hc, ht⟩ => ?_⟩
  subst ev
  cases rv
  have I1 : Inv X pins σ HZ { s1 with os := s.os } := I.call' (ch := []) rfl un e0.hok e0.bare fun b hb => nomatch hb
  obtain ⟨pm, ctv, lies⟩ := lmO_at e0.hok hf
  refine ⟨⟨_, _, _, _, lies⟩, ?_⟩
  refine PySem.W.kla_callFunE hr.depth lies rfl g.S.co g.S.gen rfl (codeA_at e0.hok hc) ?_
  rw [g.bind]
  have lim : s1.heap.NoLimit := e0.mod.nolimit.keeps fun b o z => (e0.bs b o z).1
  refine wpAny_pure (wpAny_newFunctionEnv (fun y hy => (g.S.own y hy).2) (fun y hy => absurd hy List.not_mem_nil) (fun hn hns hsb => ⟨lim.fresh _ hsb, ?_⟩) g.S.kind)
  show codeAny _ _ (.expr bd (lamEnv X sc s1.heap.objs.size f c1)) _ _
  have kp : ∀ b o, s1.heap.get? b = some o → hn.get? b = some o := fun b o z => hsb.extBut b o (Nat.ne_of_lt (Heap.lt_size z)) (Heap.get?_push_of_some _ z)
  have J := lam_start2 (f := f) (c' := c1) (E := E) (tk := s1.toks + ([] : List (Str × Value)).length) I1 g.S e0 hr.hd (s1 := s1) Un.refl hns kp
  have R1 : ∀ g', RunsB X.prog X.w X.K X.mg X.base (frs outer) j g' (tl0 σ g') s1 HZ := fun g' => (R0 pins σ H s I g').step un new sub
  exact PySem.W.kla_codeExpr (wpAny_mono ((g.body A outer s1 HZ E f c1 σ (hr.deeper _) R1).run [] _ σ HZ Q J ht) (fun v s' ⟨w', H', J', rv, q'⟩ => ⟨w', H', J'.os, J'.bare, J'.base, J'.hok, rv, q'⟩) fun _ _ z => z)
/-- .. in its frame, at any time: the other callables of the def -/
theorem R_in {X : Cx} {A : Around} {outer : List Env} {s : Shared} {H : Hp} {E : XK} {sc : Scope} {f c' : Addr} {j : Nat} {tl : Addr → TL} (R : ∀ g, RunsB X.prog X.w X.K X.mg X.base (frs outer) j g (tl g) s H) :
    ∀ (pins : List (Addr × Obj)) (σ' : L2.St) (H' : Hp) (s' : Shared), Inv (lamCx X A outer s H E sc f c') pins σ' H' s' → ∀ g, RunsB X.prog X.w X.K X.mg X.base (frs (lamCx X A outer s H E sc f c').stack) j g (tl g) s' H' :=
  fun pins σ' H' s' I g => RunsB.now (X := lamCx X A outer s H E sc f c') (R g) rfl I
/-! ### nested defs -/
def tlC (X : Cx) (k : Nat) (σ : L2.St) (f : Addr) : TL := fun E vs H Q => ∃ (F : NF) (ps fr : List Str) (js : List Nat) (sp : List (Option V) → Sp), NOk X.prog X.w X.K X.mg X.base (L2.CX X.prog X.w) (k + 1) f F ps fr sp ∧ (X.Ok → Caps X F.cl fr js) ∧ H f = some (FnO f F) ∧ H F.c = some (CodeO F.c F.qual) ∧ sp (js.map (slotAt σ)) vs H Q E
theorem runs_C {X : Cx} {k : Nat} (pins : List (Addr × Obj)) (σ : L2.St) (H : Hp) (s : Shared) (I : Inv X pins σ H s) (f : Addr) : RunsB X.prog X.w X.K X.mg X.base (frs X.stack) k f (tlC X k σ f) s H := by
  refine ⟨fun A outer s1 HZ us vs Q E hr e0 un new sub rv ⟨F, ps, fr, js, sp, Fn, cp, hf, hc, ht⟩ => ?_⟩
  have I1 : Inv X pins σ HZ { s1 with os := s.os } := I.call' (ch := []) rfl un e0.hok e0.bare fun b hb => nomatch hb
  obtain ⟨od, sl, doc, pm, ctv, lies⟩ := fnO_at e0.hok hf
  exact ⟨⟨_, od, _, sl, lies⟩, Fn.run A outer s1 HZ us vs _ Q E hr e0 hf hc (cells_of (s := { s1 with os := s.os }) I1 (cp I1.ok)) rv ht⟩
/-! ### lambdas with parameters that capture nothing -/
structure LamGoodP (P : Program) (w : World) (K : PySem.W.Frag) (mg : Str → Option Value) (base : Heap) (k : Nat) (N ps : List Str) (as : Arguments) (bd : Expr) (sc : Scope) (t : XK → TE) : Prop where
  S : NScope N ps [] sc
  nofree : ∀ y ∈ sc.names, y.2 ≠ .free
  bind : ∀ (q : Str) (cl : List (Str × Addr)) (pm cv ctv : Value) (us : List Value), us.length = ps.length → bindArgs (PySem.W.kla_fn "<lambda>" q as bd sc cl pm cv ctv) ⟨us, []⟩ = pure (ps.zip us)
  body : ∀ (F : NF) (f : Addr) (A : Around) (outer : List Env) (s : Shared) (H : Hp) (E : XK), F.scope = sc → Room k (A.deeper (envF F f s.heap.objs.size)) → PE (ncx (L2.CX P w) P w K mg base N F f A outer s H E) bd (t E)
def tlP (P : Program) (w : World) (K : PySem.W.Frag) (mg : Str → Option Value) (base : Heap) (k : Nat) (f : Addr) : TL := fun E vs H Q => ∃ (D : LmD) (N ps : List Str) (t : XK → TE), LamGoodP P w K mg base k N ps D.as D.bd D.sc t ∧ (∀ y, D.cl.lookup y = none) ∧ H f = some (LmO f D) ∧ H D.c = some (CodeO D.c D.qual) ∧ vs.length = ps.length ∧ t E (startF N vs []) H Q
theorem runs_P {P : Program} {w : World} {K : PySem.W.Frag} {mg : Str → Option Value} {base : Heap} {k : Nat} {fs : List Addr} {s : Shared} {H : Hp} (f : Addr) : RunsB P w K mg base fs k f (tlP P w K mg base k f) s H := by
  refine ⟨fun A outer s1 HZ us vs Q E hr e0 un new sub rv ⟨D, N, ps, t, g, no, hf, hc, hl, ht⟩ => ?_⟩
  obtain ⟨pm, ctv, lies⟩ := lmO_at e0.hok hf
  refine ⟨⟨_, _, _, _, lies⟩, ?_⟩
  refine PySem.W.kla_callFunE hr.depth lies rfl g.S.co g.S.gen rfl (codeO_at e0.hok hc) ?_
  rw [g.bind _ _ _ _ _ us (by rw [← rv.length]; exact hl)]
  have lim : s1.heap.NoLimit := e0.mod.nolimit.keeps fun b o z => (e0.bs b o z).1
  refine wpAny_pure (wpAny_newFunctionEnv g.S.nocell (fun ⟨n, _⟩ hy => g.S.par n (List.of_mem_zip hy).1) (fun hn hns hsb => ⟨lim.fresh _ hsb, ?_⟩) g.S.kind)
  show codeAny _ _ (.expr D.bd (envF ⟨"<lambda>", D.qual, D.as, [], D.sc, D.cl, D.c⟩ f s1.heap.objs.size)) _ _
  have kp : ∀ b o, s1.heap.get? b = some o → hn.get? b = some o := fun b o z => hsb.extBut b o (Nat.ne_of_lt (Heap.lt_size z)) (Heap.get?_push_of_some _ z)
  have C : CellsAt D.cl [] [] s1.heap HZ := ⟨rfl, (fun y c e => by rw [no y] at e; cases e), (fun x y c e => by rw [no x] at e; cases e), fun i y e => by simp at e⟩
  have J : Inv (ncx (L2.CX P w) P w K mg base N ⟨"<lambda>", D.qual, D.as, [], D.sc, D.cl, D.c⟩ f A outer s1 HZ E) [] (startF N vs []) HZ { s1 with heap := hn, toks := s1.toks + (ps.zip us).length } := inv_startN g.S hr.hd e0 hl rv C hns kp
  exact PySem.W.kla_codeExpr (wpAny_mono ((g.body ⟨"<lambda>", D.qual, D.as, [], D.sc, D.cl, D.c⟩ f A outer s1 HZ E rfl (hr.deeper _)).run [] _ (startF N vs []) HZ Q J ht) (fun v s' ⟨w', H', J', rv, q'⟩ => ⟨w', H', J'.os, J'.bare, J'.base, J'.hok, rv, q'⟩) fun _ _ z => z)
theorem cl_none {cells : List (Str × Addr)} {names : List (Str × NameKind)} (h : ∀ y ∈ names, y.2 ≠ .free) (y : Str) : (cloFrom cells names []).lookup y = none := by
  cases e : (cloFrom cells names []).lookup y with
  | none => rfl
  | some c =>
    rcases cloFrom_mem (PySem.mem_of_lookup e) with hm | ⟨h1, _⟩
    · cases hm
    · exact absurd rfl (h _ h1)
/-- such a lambda stands at f -/
def LamAtP (P : Program) (w : World) (K : PySem.W.Frag) (mg : Str → Option Value) (base : Heap) (k : Nat) (N ps : List Str) (t : XK → TE) (H : Hp) (f : Addr) : Prop := ∃ D : LmD, LamGoodP P w K mg base k N ps D.as D.bd D.sc t ∧ (∀ y, D.cl.lookup y = none) ∧ H f = some (LmO f D) ∧ H D.c = some (CodeO D.c D.qual)
theorem LamAtP.tl {P : Program} {w : World} {K : PySem.W.Frag} {mg : Str → Option Value} {base : Heap} {k : Nat} {N ps : List Str} {t : XK → TE} {H : Hp} {f : Addr} {E : XK} {vs : List V} {Q : VK} (h : LamAtP P w K mg base k N ps t H f) (hl : vs.length = ps.length) (q : t E (startF N vs []) H Q) : tlP P w K mg base k f E vs H Q := by
  obtain ⟨D, g, no, h1, h2⟩ := h
  exact ⟨D, N, ps, t, g, no, h1, h2, hl, q⟩
theorem LamAtP.by_ {P : Program} {w : World} {K : PySem.W.Frag} {mg : Str → Option Value} {base : Heap} {k : Nat} {N ps : List Str} {t : XK → TE} {H H' : Hp} {f : Addr} (h : LamAtP P w K mg base k N ps t H f) (e : ∀ a o, H a = some o → (∀ xs, o ≠ .lst xs) → (∀ ps, o ≠ .tbl ps) → H' a = some o) : LamAtP P w K mg base k N ps t H' f := by
  obtain ⟨D, g, no, h1, h2⟩ := h
  exact ⟨D, g, no, e _ _ h1 (fun xs z => by unfold LmO at z; cases z) lmO_ne, e _ _ h2 (fun xs z => by unfold CodeO at z; cases z) codeO_ne⟩
/-- made in a def -/
def tLamP (X : Cx) (k : Nat) (dp : Nat → Nat → Bool) (nmI : Nat → Nat → Str) (T : List NTab) (N ps : List Str) (t : XK → TE) : TE := fun _ H Q => TabX dp nmI T H ∧ ∀ (f : Addr) (H1 : Hp), ExtN H H1 → TabX dp nmI T H1 → H f = none → LamAtP X.prog X.w X.K X.mg X.base k N ps t H1 f → Q (.ref f) H1
theorem pe_lamP {X : Cx} {k : Nat} {dp : Nat → Nat → Bool} {nmI : Nat → Nat → Str} {T : List NTab} {nm : Nat → Nat → Str} {cd PT : Addr} {as : Arguments} {bd : Expr} {sc : Scope} {lp : Pos} {N ps : List Str} {t : XK → TE} (TB : TabB X.base X.mg cd PT) (hcd : X.env.code = .ref cd) (mem : (PT, nm) ∈ T) (alike : ∀ p ∈ T, p.1 = PT → p.2 = nm)
    (named : nm lp.line lp.col = X.env.qual ++ "<lambda>") (flat : dp lp.line lp.col = false) (nodef : defaultsOf as X.env = ([], [])) (g : LamGoodP X.prog X.w X.K X.mg X.base k N ps as bd sc t) : PE X (.Lambda as bd sc lp) (tLamP X k dp nmI T N ps t) :=
  ⟨fun pins s σ H Q I ⟨tT, go⟩ => lam_makeX I TB hcd mem named alike tT nodef (fun y hy e => absurd e (g.nofree y hy)) fun f c1 H1 s1 I1 eN T1 n0 at1 co => ⟨.ref f, H1, I1, rfl, go f H1 eN T1 n0 ⟨lmX X as bd sc c1, g, cl_none g.nofree, at1, by rw [flat] at co; exact co⟩⟩⟩
/-- made in a lambda of a def -/
def tLamI (X : Cx) (c0 : Addr) (q0 : Str) (k : Nat) (dp : Nat → Nat → Bool) (nmI : Nat → Nat → Str) (T : List NTab) (N ps : List Str) (t : XK → TE) : TE := fun _ H Q => TabX dp nmI T H ∧ CodeK nmI T H c0 q0 true ∧ ∀ (f : Addr) (H1 : Hp), ExtN H H1 → TabX dp nmI T H1 → H f = none → LamAtP X.prog X.w X.K X.mg X.base k N ps t H1 f → Q (.ref f) H1
theorem pe_lamI {X : Cx} {k : Nat} {dp : Nat → Nat → Bool} {nmI : Nat → Nat → Str} {T : List NTab} {cd cb PT : Addr} {q0 : Str} {as : Arguments} {bd : Expr} {sc : Scope} {lp : Pos} {N ps : List Str} {t : XK → TE} (TB : TabB X.base X.mg cb PT) (hcd : X.env.code = .ref cd)
    (named : nmI lp.line lp.col = X.env.qual ++ "<lambda>") (nodef : defaultsOf as X.env = ([], [])) (g : LamGoodP X.prog X.w X.K X.mg X.base k N ps as bd sc t) : PE X (.Lambda as bd sc lp) (tLamI X cd q0 k dp nmI T N ps t) := by
  refine ⟨fun pins s σ H Q I ⟨tT, ⟨P1, h1, off, tN⟩, go⟩ => ?_⟩
  obtain ⟨bm, ob, b1, b2, b3, b4, b5, b6⟩ := TB.bm
  have tP : ∃ tb, H P1 = some (.tbl tb) := let ⟨tb, e, _⟩ := tN; ⟨tb, e⟩
  obtain ⟨tb, tP⟩ := tP
  have away : ∀ b o, X.base.get? b = some o → b ≠ P1 := fun b o e z => by
    have n := (I.bs b o e).2
    rw [z, tP] at n
    cases n
  have gA : mainGlobals ≠ P1 := by
    obtain ⟨o, es, ep, lies, _⟩ := I.mod.glob
    exact away _ _ lies
  have bA : s.heap.BuiltinsAt X.mg P1 := ⟨bm, ob, b1, b2, b3, away _ _ b5, I.bk _ _ b5, b6⟩
  exact lam_makeI (nmI := nmI) I hcd h1 off gA bA tN named tT nodef (fun y hy e => absurd e (g.nofree y hy)) fun f c1 H1 s1 I1 eN T1 n0 at1 co => ⟨.ref f, H1, I1, rfl, go f H1 eN T1 n0 ⟨lmX X as bd sc c1, g, cl_none g.nofree, at1, co⟩⟩
end TT

set_option Elab.async false
set_option linter.all false
set_option maxRecDepth 100000
set_option maxHeartbeats 4000000
/-! A def in a def, the tables known as TabX. -/
namespace TT
open PySem PySem.Spec PyProof.Rows L2 LamX NdefX
section
variable {X : Cx} {pins : List (Addr × Obj)} {σ : L2.St} {H : Hp} {s : Shared} {dp : Nat → Nat → Bool} {nmI : Nat → Nat → Str} {T : List NTab}
theorem ndef_makeX {nm : Nat → Nat → Str} {cd PT : Addr} {name : Str} {as : Arguments} {bd : List Stmt} {sc : Scope} {lp : Pos} {ER : Value → Shared → Prop} {R : Value → Shared → Prop} (I : Inv X pins σ H s) (TB : TabB X.base X.mg cd PT) (hcd : X.env.code = .ref cd)
    (mem : (PT, nm) ∈ T) (named : nm lp.line lp.col = X.env.qual ++ name) (alike : ∀ p ∈ T, p.1 = PT → p.2 = nm) (flat : dp lp.line lp.col = false) (tT : TabX dp nmI T H) (fr : ∀ y ∈ sc.names, y.2 = .free → ∃ c, X.env.cells.lookup y.1 = some c)
    (go : ∀ (f c1 : Addr) (H1 : Hp) (s1 : Shared), Inv X pins σ H1 s1 → ExtN H H1 → TabX dp nmI T H1 → H f = none → H1 f = some (FnO f ⟨name, X.env.qual ++ name, as, bd, sc, cloFrom X.env.cells sc.names [], c1⟩) → H1 c1 = some (CodeO c1 (X.env.qual ++ name)) → R (.ref f) s1) :
    wpAny (model X.prog X.w) X.A (makeFunction name (X.env.qual ++ name) as (.stmts bd) sc X.env [] [] [] lp lp.line) R ER s := by
  obtain ⟨tb, tP, tri, each⟩ := tT _ mem
  have bAt := TB.bm.keeps I.bk
  have sP : s.heap.get? PT = some { cls := .none, data := .fields tb } := I.hok PT _ tP
  have fin : ∀ {H2 : Hp} {hn : Heap} {tk : Nat} {c1 : Addr} {doc ctv : Value}, Inv X pins σ H2 { s with heap := hn, toks := tk } → ExtN H H2 → TabX dp nmI T H2 → H hn.objs.size = none → H2 c1 = some (CodeO c1 (X.env.qual ++ name)) → ∀ {o : Obj}, o = { cls := .type "function", data := .func ((⟨name, X.env.qual ++ name, as, bd, sc, cloFrom X.env.cells sc.names [], c1⟩ : NF).fd doc ((X.mg "__name__").getD .none) ctv) } →
      R (.ref hn.objs.size) { s with heap := hn.push o, toks := tk } := fun {H2 hn tk c1 doc ctv} J ext tX n0 ck {o} ho => by
    have nF := J.hok.fresh (Nat.le_refl _)
    have J2 := inv_fn (F := ⟨name, X.env.qual ++ name, as, bd, sc, cloFrom X.env.cells sc.names [], c1⟩) (t' := tk) (doc := doc) (pm := (X.mg "__name__").getD .none) (ctv := ctv) J ho
    have up : ∀ b o, H2 b = some o → upd H2 hn.objs.size (FnO hn.objs.size ⟨name, X.env.qual ++ name, as, bd, sc, cloFrom X.env.cells sc.names [], c1⟩) b = some o := fun b o hb => (upd_ne (ne_of_none hb nF)).trans hb
    exact go hn.objs.size c1 _ _ J2 (fun b o hb no => up _ _ (ext b o hb no)) (tX.ext up) n0 upd_same (up _ _ ck)
  cases found : codeAmong lp tb.toList with
  | none =>
    refine PySem.W.makeFunction_K (mg := X.mg) (c := cd) (P := PT) (ps := tb) (closure_ok fr) I.ok.glob (I.mod.glob.keeps I.bk) hcd (TB.code.keeps I.bk) sP tri found TB.gP bAt fun c1 ctv doc hn tk old ge lt rec tab => ?_
    obtain ⟨c2, oc, fl, tg, ec, gc, dc, nc⟩ := rec
    cases ec
    have new : H c1 = none := I.hok.fresh ge
    have J := inv_table (t' := tk) (more := #[rawInt lp.line, rawInt lp.col, .ref c1]) (h' := hn) I tP (fun b o ne g => old b o ne g) tab ge ⟨oc, fl, tg, gc, dc, nc⟩
    have ext : ∀ b o, b ≠ PT → H b = some o → upd (upd H PT (.tbl (tb ++ #[rawInt lp.line, rawInt lp.col, .ref c1]))) c1 (CodeO c1 (X.env.qual ++ name)) b = some o := fun b o ne hb => (upd_ne (ne_of_none hb new)).trans ((upd_ne ne).trans hb)
    exact fin J (fun b o hb no => ext b o (fun z => no tb (Option.some.inj (hb.symm.trans (by rw [z]; exact tP)))) hb) (tT.grow (lp := lp) mem alike tP ext ((upd_ne (ne_of_none tP new)).trans upd_same) (by rw [named, flat]; exact upd_same)) (I.hok.fresh (Nat.le_trans ge (Nat.le_of_lt lt))) upd_same rfl
  | some cv =>
    obtain ⟨c1, ec, known⟩ := each lp cv found
    subst ec
    dsimp only at known
    rw [named, flat] at known
    refine PySem.W.makeFunction_hit (mg := X.mg) (c := cd) (P := PT) (ps := tb) (closure_ok fr) I.ok.glob (I.mod.glob.keeps I.bk) hcd (TB.code.keeps I.bk) sP tri found bAt fun ctv doc hn tk old ge => ?_
    have J : Inv X pins σ H { s with heap := hn, toks := tk } := I.kept old
    exact fin J (ExtN.refl H) tT (J.hok.fresh (Nat.le_refl _)) known rfl
end
/-- «def name(..): ..» in a def: the slot i holds it -/
def tNdX (dp : Nat → Nat → Bool) (nmI : Nat → Nat → Str) (T : List NTab) (i : Nat) (mk : Addr → NF) : TS := fun D σ H => TabX dp nmI T H ∧ ∀ (f c1 : Addr) (H1 : Hp), ExtN H H1 → TabX dp nmI T H1 → H f = none → H1 f = some (FnO f (mk c1)) → H1 c1 = some (CodeO c1 (mk c1).qual) → D.nx (σ.set i (some (.ref f))) H1
theorem ps_ndX {X : Cx} {dp : Nat → Nat → Bool} {nmI : Nat → Nat → Str} {T : List NTab} {nm : Nat → Nat → Str} {cd PT : Addr} {name : Str} {as : Arguments} {bd : List Stmt} {sc : Scope} {lp : Pos} {i : Nat} (TB : TabB X.base X.mg cd PT) (hcd : X.env.code = .ref cd) (mem : (PT, nm) ∈ T) (alike : ∀ p ∈ T, p.1 = PT → p.2 = nm)
    (named : nm lp.line lp.col = X.env.qual ++ name) (flat : dp lp.line lp.col = false) (free : ∀ y ∈ sc.names, y.2 = .free → X.env.scope.names.lookup y.1 = some .cell ∨ X.env.scope.names.lookup y.1 = some .free) (d0 : as.defaults = []) (k0 : as.kw_defaults = []) (ann : annTrees as none X.env = [])
    (nd : X.N.Nodup) (hi : X.N[i]? = some name) (hx : Loc X.env.scope name) (hf : X.fn name = true ∨ X.env.scope.names.lookup name = some .local) :
    PS X (.FunctionDef name as bd [] none [] sc none name lp) (tNdX dp nmI T i fun c1 => ⟨name, X.env.qual ++ name, as, bd, sc, cloFrom X.env.cells sc.names [], c1⟩) := by
  refine ⟨fun pins s σ H D I ⟨tT, go⟩ => ?_⟩
  have hq : qualnameIn X.env name name = X.env.qual ++ name := by
    have k : X.env.kindOf name = some .local ∨ X.env.kindOf name = some .cell := hx
    unfold qualnameIn
    rcases k with k | k <;> rw [k] <;> first | rfl | exact if_neg (by decide)
  refine PySem.W.nestDef_K d0 k0 ann ?_
  rw [hq]
  exact ndef_makeX I TB hcd mem named alike flat tT (fun y hy e => (free y hy e).elim (fun z => I.ok.has _ (.inl z)) fun z => I.ok.has _ (.inr z)) fun f c1 H1 s1 I1 eN T1 n0 at1 co => store_ok I1 nd hi hx (v := .ref f) rfl (fun s2 J => ⟨_, H1, J, go f c1 H1 eN T1 n0 at1 co⟩) hf
end TT

set_option Elab.async false
set_option linter.all false
set_option maxRecDepth 100000
set_option maxHeartbeats 4000000
/-! Sets of ints, by the ints put in: comprehensions, set(list), sorted(set). -/
namespace TT
open PySem PySem.Spec PyProof.Rows L2 LamX NdefX
/-- at a stands a set of the ints l -/
def SetL (w : World) (a : Addr) (l : List Int) : HO := .ext fun h => ∃ n, n ≤ l.length ∧ SetR w h a (fun j => decide (j ∈ l)) n
theorem setL_ok {P : Program} {w : World} {H : Hp} {h : Heap} {a : Addr} {l : List Int} {n : Nat} (le : n ≤ l.length) (R : SetR w h a (fun j => decide (j ∈ l)) n) : ObjOk P w H h a (SetL w a l) := by
  have ⟨o, _, _, _, ho, _⟩ := R
  exact ⟨⟨n, le, R⟩, ⟨o, ho⟩, fun h1 h2 ⟨m, lm, p⟩ k => ⟨m, lm, SetR.at p k⟩⟩
theorem setL_new {P : Program} (w : World) {H : Hp} {h : Heap} : ObjOk P w H (h.push { cls := .type "set", dict := none, data := .set #[] 0 (.fresh 0 0 (!w.params.followText "set-order")) }) h.objs.size (SetL w h.objs.size []) :=
  setL_ok (Nat.le_refl 0) ((setR_fresh w).congr fun k => by simp)
section
variable {X : Cx}
theorem put_int {pins : List (Addr × Obj)} {σ : L2.St} {H : Hp} {s : Shared} {E : Value → Shared → Prop} {D : Addr} {l : List Int} {y : Int} {t : Tok} {Q : Value → Shared → Prop} (I : Inv X pins σ H s) (hD : H D = some (SetL X.w D l)) (room : l.length + 1 < scanBound)
    (h : ∀ s', Inv X pins σ (upd H D (SetL X.w D (l ++ [y]))) s' → Q .none s') : wpAny (model X.prog X.w) X.A (call (.builtin "set.add") [.ref D, .int y t]) Q E s := by
  obtain ⟨⟨n, le, R⟩, _, _⟩ := I.hok D _ hD
  refine setR_add R (by omega) fun h' sb new => ?_
  have R2 : SetR X.w h' D (fun j => decide (j ∈ l ++ [y])) (if decide (y ∈ l) = true then n else n + 1) := new.congr fun k => by simp [List.mem_append]
  have he : ∃ u, h'.get? D = some u := by
    have ⟨o, _, _, _, ho, _⟩ := new
    exact ⟨o, ho⟩
  exact h _ (I.write (e := D) (t' := s.toks + 1) (by rw [hD]; trivial) (.inl rfl) (fun b u hb hu => (sb.2 b hb).trans hu) he (setL_ok (by rw [List.length_append, List.length_singleton]; split <;> omega) R2))
/-! ### {elt for target in iter if test} -/
def tScI (w : World) (wi : TI) (g : TG) (tt : TT) (te : TE) (vs : List Nat) : TE := fun σ H Q => wi σ H fun J H1 => ∀ D, H1 D = none → ∃ W : Nat → Nat → Hp → Prop, (∃ m, W 0 m (upd H1 D (SetL w D []))) ∧ ∀ i m H, W i m H →
  (J.stop i H ∧ Q (.ref D) H) ∨ (J.go i H ∧ ∃ Nx : Hp → Prop, (∀ H', Nx H' → ∃ m', m' < m ∧ W (i + 1) m' H') ∧ ∀ x H', J.yld i H x H' → g x (wipe σ vs) H' fun σ2 H2 => wipe σ2 vs = wipe σ vs ∧ tt σ2 H2 fun b H3 =>
    if b = true then te σ2 H3 fun y H4 => ∃ (k : Int) (l : List Int), y = .int k ∧ H4 D = some (SetL w D l) ∧ l.length + 1 < scanBound ∧ Nx (upd H4 D (SetL w D (l ++ [k]))) else Nx H3)
theorem sc_core {pins : List (Addr × Obj)} {s : Shared} {σ : L2.St} {H : Hp} {Q : VK} {elt tg iter : Expr} {ifs : List Expr} {sc : Scope} {own : List (Str × Nat)} {pos pos' : Pos} {wi : TI} {g : TG} {tt : TT} {te : TE} {use : Option (Value → Sem Unit)} {Qf : Value → Shared → Prop}
    (calm : X.calm = true) (nd : X.N.Nodup) (I : Inv X pins σ H s) (hi : PI X tg iter wi) (ok : BlkOk X.N X.env.scope sc own)
    (hg : ∀ (s : Shared) (H : Hp) (C : Addr) (cl : List (Str × Addr)) (fp : List Addr), PG (X.blk s H sc (compEnvC sc cl C X.env) fp) tg g)
    (ht : ∀ (s : Shared) (H : Hp) (C : Addr) (cl : List (Str × Addr)) (fp : List Addr), Inv X pins σ H s → (∀ b ∈ fp, FpOk X pins H b) → PTs (X.blk s H sc (compEnvC sc cl C X.env) fp) ifs tt)
    (he : ∀ (s : Shared) (H : Hp) (C : Addr) (cl : List (Str × Addr)) (fp : List Addr), Inv X pins σ H s → (∀ b ∈ fp, FpOk X pins H b) → PE (X.blk s H sc (compEnvC sc cl C X.env) fp) elt te)
    (plain : ∀ x, foldedSetIterable iter X.env x = pure x) (h : tScI X.w wi g tt te (own.map (·.2)) σ H Q)
    (done : ∀ D C s' m H', Inv X pins σ H' s' → Q (.ref D) H' → s'.heap.Ns C m → FpOk X pins H' C → compPost (model X.prog X.w) X.A X.xe use Qf (.ref D) C (.ok .next) s') :
    wpAny (model X.prog X.w) X.A (comprehension (.SetComp elt [⟨tg, iter, ifs, 0⟩] sc pos) sc X.env pos' (newSet (.type "set")) false (eval iter X.env) use) Qf X.xe s := by
  have caught : ∀ y ∈ sc.names, y.2 = .free → ∃ c, X.env.cells.lookup y.1 = some c := fun y hy e => (ok.free y hy e).elim (fun k => I.ok.has _ (.inl k)) fun k => I.ok.has _ (.inr k)
  refine wpAny_comprehension_free (use := use) rfl plain (closure_ok caught) ok.kind (fun y hy e => (ok.uniq y hy).trans (congrArg some e))
    (thn (hi.run pins s σ H _ I h) fun xv s1 hx => thn hx fun itv s2 h2 => ?_)
  obtain ⟨it, fp, tn, J, Ha, eq, Ia, T, sta, fa, q⟩ := h2
  subst eq
  refine PpSet.newSet_ok (newEnv_comp ?_)
  generalize hD : s2.heap.objs.size = D
  have newD : Ha D = none := Ia.hok.fresh (Nat.le_of_eq hD)
  obtain ⟨W, ⟨m0, w0⟩, turn⟩ := q D newD
  generalize hsb : ({ s2 with heap := s2.heap.push { cls := .type "set", dict := none, data := .set #[] 0 (.fresh 0 0 (!X.w.params.followText "set-order")) } } : Shared) = sb
  have Ib : Inv X pins σ (upd Ha D (SetL X.w D [])) sb := by
    rw [← hsb]
    refine Ia.laid (t' := s2.toks) (fun b o e => Heap.get?_push_of_some _ e) (Nat.le_of_eq hD) ?_
    rw [← hD]
    exact setL_new X.w
  have heb : sb.heap = s2.heap.push { cls := .type "set", dict := none, data := .set #[] 0 (.fresh 0 0 (!X.w.params.followText "set-order")) } := by rw [← hsb]
  have low : ∀ b ∈ fp, b < s2.heap.objs.size := fun b hb => (T.obj _ _ sta b hb).elim fun _ z => Heap.lt_size z.1
  have fb : ∀ b ∈ fp, FpOk X pins (upd Ha D (SetL X.w D [])) b ∧ b < sb.heap.objs.size := fun b hb => by
    have lt := low b hb
    refine ⟨⟨?_, (fa b hb).2⟩, by rw [heb, Heap.size_push]; exact Nat.lt_succ_of_lt lt⟩
    rw [upd_ne (by rw [← hD]; exact Nat.ne_of_lt lt)]
    exact (fa b hb).1
  have stb : tn 0 sb.heap := T.keep _ _ _ sta fun b _ o e => by rw [heb]; exact Heap.get?_push_of_some _ e
  have Ic := block_start Ib ok nd fb
  have pg := hg sb (upd Ha D (SetL X.w D [])) sb.heap.objs.size (cellsFrom (sb.heap.objs.size + 1) sc.names (cloFrom X.env.cells sc.names [])) fp
  have pt := ht sb (upd Ha D (SetL X.w D [])) sb.heap.objs.size (cellsFrom (sb.heap.objs.size + 1) sc.names (cloFrom X.env.cells sc.names [])) fp Ib fun b hb => (fb b hb).1
  have pe := he sb (upd Ha D (SetL X.w D [])) sb.heap.objs.size (cellsFrom (sb.heap.objs.size + 1) sc.names (cloFrom X.env.cells sc.names [])) fp Ib fun b hb => (fb b hb).1
  show codeAny _ _ (.compStart (.SetComp elt [⟨tg, iter, ifs, 0⟩] sc pos) 0 (.ref it) (.ref D) (compEnvC sc (cellsFrom (sb.heap.objs.size + 1) sc.names (cloFrom X.env.cells sc.names [])) sb.heap.objs.size X.env)) (compPost (model X.prog X.w) X.A X.xe use Qf (.ref D) sb.heap.objs.size) { sb with heap := pushCells (sb.heap.push { cls := .type "dict", data := .dict #[] }) sc.names }
  have off : ∀ b ∈ fp, (upd Ha D (SetL X.w D [])) b = none := fun b hb => (fb b hb).1.1
  generalize hce : compEnvC sc (cellsFrom (sb.heap.objs.size + 1) sc.names (cloFrom X.env.cells sc.names [])) sb.heap.objs.size X.env = ce at Ic pg pt pe ⊢
  have loc : ce.locals = sb.heap.objs.size := by subst hce; rfl
  generalize hHb : upd Ha D (SetL X.w D []) = Hb at Ib Ic pg pt pe w0 off fb
  generalize hsd : ({ sb with heap := pushCells (sb.heap.push { cls := .type "dict", data := .dict #[] }) sc.names } : Shared) = sd at Ic ⊢
  have std : tn 0 sd.heap := T.keep _ _ _ stb fun b _ o e => by rw [← hsd]; exact pushCells_keeps _ _ _ _ (Heap.get?_push_of_some _ e)
  have still : ∀ {σ' : L2.St} {H' : Hp} {s' : Shared}, Inv (X.blk sb Hb sc ce fp) [] σ' H' s' → (∀ b ∈ fp, H' b = none) → ∀ b ∈ fp, FpOk (X.blk sb Hb sc ce fp) [] H' b := fun {σ' H' s'} I' hn b hb =>
    ⟨hn b hb, (I'.ok.exf b hb).1, I'.ok.exfs b hb, .inl hb, fun x c e => (I'.ok.exf b hb).2 x c e, fun p hp => nomatch (show p ∈ ([] : List (Addr × Obj)) from hp)⟩
  have loop : codeAny (model X.prog X.w) X.A (.compLoop (.SetComp elt [⟨tg, iter, ifs, 0⟩] sc pos) 0 (.ref it) (.ref D) ce) (compPost (model X.prog X.w) X.A X.xe use Qf (.ref D) sb.heap.objs.size) sd := by
    refine PpSet.compLoopS_any (fun n s' => ∃ i H', Inv (X.blk sb Hb sc ce fp) [] (wipe σ (own.map (·.2))) H' s' ∧ tn i s'.heap ∧ (∀ b ∈ fp, H' b = none) ∧ W i n H') ?_ m0 ⟨0, Hb, Ic, std, off, w0⟩
    rintro n se ⟨i, He, Ie, ste, ne, we⟩
    rcases turn i n He we with ⟨stop, qq⟩ | ⟨go, Nx, hNx, step⟩
    · refine thnF (T.done (X.blk sb Hb sc ce fp) rfl rfl rfl calm i [] se _ He (fun _ _ => False) Ie (still Ie ne) ste stop) fun r sf ⟨hr, If⟩ => ?_
      subst hr
      have Ig : Inv X pins σ He sf := Ib.call' (ch := fp) If.os If.base If.hok If.bare fun b hb => ⟨(fb b hb).1.2.2.2.1, (fb b hb).1.2.1, (fb b hb).1.2.2.2.2.1, (fb b hb).1.2.2.2.2.2⟩
      have nC : He sb.heap.objs.size = none := loc ▸ If.free
      obtain ⟨m, hn, _⟩ := If.loc
      have hn : sf.heap.Ns ce.locals m := hn
      rw [loc] at hn
      exact done D sb.heap.objs.size sf m He Ig qq hn (Ib.fpOk (Nat.le_refl _) nC)
    · refine thnF (T.item (X.blk sb Hb sc ce fp) rfl rfl rfl calm i [] se _ He (fun _ _ => False) Ie (still Ie ne) ste go) fun r sf ⟨u, hr, hf⟩ => ?_
      subst hr
      refine thnF hf fun _ sg ⟨x, Hg, Ig, rg, yg, stg, ng⟩ => ?_
      have Ip := Ig.pinned (still Ig ng) (T.obj _ _ stg)
      refine thnF (pg.run _ sg _ Hg x u _ Ip rg (step x Hg yg)) fun _ sh ⟨σh, Hh, Ih, wh, qh⟩ => ?_
      refine thnF (pt.run _ sh σh Hh _ Ih qh) fun b si ⟨Hi, Ii, qi⟩ => ?_
      have fin : ∀ {s' : Shared} {H' : Hp}, Inv (X.blk sb Hb sc ce fp) ([] ++ pinsAt fp sg.heap) σh H' s' → Nx H' → ∃ m, m < n ∧ ∃ i H', Inv (X.blk sb Hb sc ce fp) [] (wipe σ (own.map (·.2))) H' s' ∧ tn i s'.heap ∧ (∀ b ∈ fp, H' b = none) ∧ W i m H' := fun {s' H'} I' nx => by
        obtain ⟨m', lt, w'⟩ := hNx H' nx
        have held : ∀ b ∈ fp, ∀ o, sg.heap.get? b = some o → s'.heap.get? b = some o ∧ H' b = none := fun b hb o e => ⟨(I'.pin (b, o) (List.mem_append_right _ (List.mem_append_right _ (mem_pinsAt hb e)))).1, (I'.pin (b, o) (List.mem_append_right _ (List.mem_append_right _ (mem_pinsAt hb e)))).2.1⟩
        have len : (wipe σ (own.map (·.2))).length = σh.length := by rw [← wh, wipe_length]
        refine ⟨m', lt, i + 1, H', (I'.unpinned (pins := [])).weak len (fun j v e => ?_), T.keep _ _ _ stg fun b hb o e => (held b hb o e).1, fun b hb => ?_, w'⟩
        · rw [← wh] at e
          exact (wipe_some e).1
        · obtain ⟨o, e, _⟩ := T.obj _ _ stg b hb
          exact (held b hb o e).2
      cases b with
      | false =>
        simp only [Bool.false_eq_true, if_false] at qi ⊢
        exact fin Ii qi
      | true =>
        simp only [if_true] at qi ⊢
        refine thnF (pe.run _ si σh Hi _ Ii qi) fun z sj ⟨yv, Hj, Ij, rj, y, l, ey, atD, room, nx⟩ => ?_
        subst ey
        obtain ⟨tz, rfl⟩ := (show ∃ t, z = Value.int y t from rj)
        exact put_int (X := X.blk sb Hb sc ce fp) Ij atD room fun sk Ik => fin Ik nx
  exact PpSet.codeAny_compStart_set loop (T.self X.A 0 _ _ _ std loop)
/-- as a value -/
theorem pe_scI {elt tg iter : Expr} {ifs : List Expr} {sc : Scope} {own : List (Str × Nat)} {pos : Pos} {wi : TI} {g : TG} {tt : TT} {te : TE} (calm : X.calm = true) (nd : X.N.Nodup) (hi : PI X tg iter wi) (ok : BlkOk X.N X.env.scope sc own)
    (hg : ∀ (s : Shared) (H : Hp) (C : Addr) (cl : List (Str × Addr)) (fp : List Addr), PG (X.blk s H sc (compEnvC sc cl C X.env) fp) tg g) (ht : ∀ (s : Shared) (H : Hp) (C : Addr) (cl : List (Str × Addr)) (fp : List Addr), PTs (X.blk s H sc (compEnvC sc cl C X.env) fp) ifs tt)
    (he : ∀ (s : Shared) (H : Hp) (C : Addr) (cl : List (Str × Addr)) (fp : List Addr), PE (X.blk s H sc (compEnvC sc cl C X.env) fp) elt te) (plain : ∀ x, foldedSetIterable iter X.env x = pure x := by intro _; rfl) :
    PE X (.SetComp elt [⟨tg, iter, ifs, 0⟩] sc pos) (tScI X.w wi g tt te (own.map (·.2))) :=
  ⟨fun pins s σ H Q I h => by
    rw [PpSet.eval_SetComp]
    exact sc_core calm nd I hi ok hg (fun s H C cl fp _ _ => ht s H C cl fp) (fun s H C cl fp _ _ => he s H C cl fp) plain h fun D C s' m H' I' q hn f =>
      ⟨m, hn, fun h2 sb => ⟨.ref D, H', I'.turned (t' := s'.toks) (fun b o hb e => (sb.2 b hb).trans e) f.1 f.2.1 f.2.2.2.1 f.2.2.2.2.1 f.2.2.2.2.2, rfl, q⟩⟩⟩
/-- over a list that stays -/
theorem sc_list {w : World} {K : PySem.W.Frag} {a : Addr} {xs : List V} {g : TG} {tt : TT} {te : TE} {vs : List Nat} {σ : L2.St} {H1 : Hp} {D : Addr} {Qd : Hp → Prop} (Pv : Nat → Hp → Prop) (h0 : Pv 0 (upd H1 D (SetL w D []))) (hl : ∀ i H, i ≤ xs.length → Pv i H → SqL K H a xs)
    (hs : ∀ i x H, xs[i]? = some x → Pv i H → g x (wipe σ vs) H fun σ2 H2 => wipe σ2 vs = wipe σ vs ∧ tt σ2 H2 fun b H3 =>
      if b = true then te σ2 H3 fun y H4 => ∃ (k : Int) (l : List Int), y = .int k ∧ H4 D = some (SetL w D l) ∧ l.length + 1 < scanBound ∧ Pv (i + 1) (upd H4 D (SetL w D (l ++ [k]))) else Pv (i + 1) H3) (hd : ∀ H, Pv xs.length H → Qd H) :
    ∃ W : Nat → Nat → Hp → Prop, (∃ m, W 0 m (upd H1 D (SetL w D []))) ∧ ∀ i m H, W i m H →
      ((Itl K a).stop i H ∧ Qd H) ∨ ((Itl K a).go i H ∧ ∃ Nx : Hp → Prop, (∀ H', Nx H' → ∃ m', m' < m ∧ W (i + 1) m' H') ∧ ∀ x H', (Itl K a).yld i H x H' → g x (wipe σ vs) H' fun σ2 H2 => wipe σ2 vs = wipe σ vs ∧ tt σ2 H2 fun b H3 =>
        if b = true then te σ2 H3 fun y H4 => ∃ (k : Int) (l : List Int), y = .int k ∧ H4 D = some (SetL w D l) ∧ l.length + 1 < scanBound ∧ Nx (upd H4 D (SetL w D (l ++ [k]))) else Nx H3) :=
  ⟨fun i m H => i ≤ xs.length ∧ xs.length = i + m ∧ Pv i H, ⟨xs.length, Nat.zero_le _, (Nat.zero_add _).symm, h0⟩, fun i m H ⟨le, em, pv⟩ => by
    have sq := hl i H le pv
    rcases Nat.lt_or_ge i xs.length with lt | ge
    · exact .inr ⟨⟨xs, xs[i], sq, List.getElem?_eq_getElem lt⟩, Pv (i + 1), fun H' pv' => ⟨xs.length - (i + 1), by omega, lt, by omega, pv'⟩, fun x H' ⟨eH, y⟩ => by
        subst eH
        exact hs i x _ (y xs sq) pv⟩
    · obtain rfl : i = xs.length := Nat.le_antisymm le ge
      exact .inl ⟨⟨xs, sq, Nat.le_refl _⟩, hd H pv⟩⟩
/-! ### sorted(set) -/
def rSortedS (w : World) : List V → Hp → VK → Prop := fun vs H Q => ∃ (a : Addr) (l : List Int), vs = [V.ref a] ∧ H a = some (SetL w a l) ∧ l.length ≤ sizeLine ∧ ∀ (ns : List Int) (p : Addr), ns.Pairwise (· < ·) → (∀ k, k ∈ ns ↔ k ∈ l) → ns.length ≤ l.length → H p = none → Q (.ref p) (upd H p (.lst (ns.map V.int)))
theorem cr_sortedS (calm : X.calm = true) : CallR X (.builtin "sorted") (rSortedS X.w) := by
  intro pins s σ H vs us Q I r ⟨a, l, ev, ha, room, q⟩
  subst ev
  rw [Vals.ref1 r]
  obtain ⟨⟨n, le, R⟩, _, _⟩ := I.hok a _ ha
  obtain ⟨o, es, ep, t, ho, hex, hd, g, nd, hm, hb, hf, hn, hr, hl⟩ := R
  refine Calls.call_function_entry kind_sorted plain_sorted entry_sorted (args_sorted1 _) ?_
  unfold Builtin.«sorted»
  refine wpAny_bind (m := checkCount "sorted" 1 1 _) (wpAny_pure ?_)
  refine wpAny_bind (collect_set (A := X.A.in1) (I.ok.hd calm) ⟨o, ho, hex.1, hd⟩ hf hb hr hl fun s1 out up grow gn os pm => ?_)
  have many : out.length = n := by rw [pm.length_eq, List.length_map, Array.length_toList, hn]
  have hI : PyProof.Rows.IntsAre out (out.map SrtO.iv) := SrtO.ints_iv fun v hv => by
    obtain ⟨e, he, z⟩ := List.mem_map.mp (pm.mem_iff.mp hv)
    obtain ⟨k, tk, z1, _⟩ := g e he
    exact ⟨k, tk, z.symm.trans z1⟩
  have keys : (out.map SrtO.iv).Perm (es.toList.map keyOf) := by
    have z := pm.map SrtO.iv
    rw [List.map_map] at z
    exact z
  have fits : out.length ≤ sizeLine := by omega
  refine wpAny_bind (wpAny_newList ?_ fits)
  have lies : (s1.heap.push (seqObj "list" out.toArray 0)).get? s1.heap.objs.size = some (seqObj "list" out.toArray 0) := Heap.get?_push_size _ rfl
  refine wpAny_bind (wpAny_holding (wpAny_call_entry slot_list_sort ⟨_, lies, rfl⟩ entry_list_sort (SrtO.list_sort_ord SrtO.swo_int lies fits (fun h2 => SrtO.ints_sortable hI h2) fun out2 h1 h2 => ⟨_, rfl, ?_⟩) (args_list_sort _)))
  obtain ⟨k1, k2, k3⟩ := SrtO.ints_out hI h1 h2
  obtain ⟨c, hc⟩ := sortedHeap_at (vs := out) (out := out2.toArray) lies
  have same := k2.trans keys
  have old : ∀ b u, s.heap.get? b = some u → (sortedHeap (s1.heap.push (seqObj "list" out.toArray 0)) s1.heap.objs.size out out2.toArray).get? b = some u := fun b u e => by
    have lt := Heap.lt_size (up b u e)
    rw [sortedHeap_old (Nat.ne_of_lt lt) (by rw [size_push']; exact Nat.lt_succ_of_lt lt)]
    exact Heap.get?_push_of_some _ (up b u e)
  have short : (out2.map SrtO.iv).length = n := by rw [k2.length_eq, List.length_map, many]
  have hn0 : H s1.heap.objs.size = none := I.hok.fresh grow
  have new : ObjOk X.prog X.w (upd H s1.heap.objs.size (.lst ((out2.map SrtO.iv).map V.int))) (sortedHeap (s1.heap.push (seqObj "list" out.toArray 0)) s1.heap.objs.size out out2.toArray) s1.heap.objs.size (.lst ((out2.map SrtO.iv).map V.int)) := ⟨by rw [List.length_map, short]; omega, out2, c, vals_of_ints k1, hc⟩
  have J := I.call (ch := []) (g' := s1.gens) (d' := s1.drawn) (t' := s1.toks) (Un.laid old grow hn0) (I.hok.laid old grow new) (by rw [gn]; exact I.bare) fun _ z => nomatch z
  have e : ({ s1 with heap := sortedHeap (s1.heap.push (seqObj "list" out.toArray 0)) s1.heap.objs.size out out2.toArray } : Shared) = { s with heap := sortedHeap (s1.heap.push (seqObj "list" out.toArray 0)) s1.heap.objs.size out out2.toArray, gens := s1.gens, drawn := s1.drawn, toks := s1.toks } := by
    cases s1
    cases s
    cases os
    rfl
  refine wpAny_pure ⟨_, rfl, ?_⟩
  show EP X pins σ Q (.ref s1.heap.objs.size) { s1 with heap := sortedHeap (s1.heap.push (seqObj "list" out.toArray 0)) s1.heap.objs.size out out2.toArray }
  rw [e]
  exact ⟨.ref _, _, J, rfl, q _ _ (lt_of_le_nodup _ k3 (same.nodup_iff.mpr nd)) (fun k => by rw [same.mem_iff, ← hm k, decide_eq_true_eq]) (by rw [short]; exact le) hn0⟩
end
end TT

set_option Elab.async false
set_option linter.all false
set_option maxRecDepth 100000
set_option maxHeartbeats 4000000
/-! set(list) of ints. -/
namespace TT
open PySem PySem.Spec PyProof.Rows L2
section
variable {P : Program} {w : World} {A : Around} {E : Value → Shared → Prop} {s : Shared}
/-- what set(list) leaves: the members, all else as it stood -/
def Made (w : World) (s : Shared) (ns : List Int) (s2 : Shared) : Prop := ∃ (h2 : Heap) (tk c : Nat), s2 = { s with heap := h2, toks := tk } ∧ SetR w h2 s.heap.objs.size (fun j => decide (j ∈ ns)) c ∧ c ≤ ns.length ∧ ∀ b o, s.heap.get? b = some o → h2.get? b = some o
theorem set_of_list {l : Addr} {its : Array Value} {ns : List Int} {Q : Value → Shared → Prop} (calm : A.handled = none) (hl : s.heap.IsList l its) (hi : IntsAre its.toList ns) (room : ns.length + 1 < scanBound)
    (k : ∀ s2, Made w s ns s2 → Q (.ref s.heap.objs.size) s2) : wpAny (model P w) A (call (.type "set") [.ref l]) Q E s := by
  have len : its.size = ns.length := (Array.length_toList (xs := its)).symm.trans (IntsAre.length hi)
  obtain ⟨c0, tl0, mro⟩ := F.called_set.mro
  have made := F.called_set.made
  have below := F.called_set.sub
  refine wpAny_call (codeAny_of_tree ?_)
  show wpAny _ _ (callAny (.type "set") _) _ _ _
  refine wpAny_pure ⟨Code.quiet_builtin _ (by decide +kernel), codeAny_builtin F.entry_type_call ?_⟩
  rw [Around.under_plain (weight_type_call_type "set" [.ref l] []) rfl]
  have noType := F.called_set.notType
  have creates := F.called_set.canCreate
  have checked := F.typeCall_set_1 (.ref l)
  repeat (any_goals (first | assumption | wp_step))
  -- the new set
  generalize hO : ({ cls := .type "set", dict := none, data := .set #[] 0 (.fresh 0 0 (!w.params.followText "set-order")) } : Obj) = O
  refine codeAny_mono (code_set_led1 (.ref l) (E := E) (Q₁ := fun x s1 => x = .ref s.heap.objs.size ∧ s1 = { s with heap := s.heap.push O }) ⟨rfl, by rw [hO]⟩) fun r s1 hr => ?_
  match r, hr with
  | .error e, hr => exact hr
  | .ok .next, hr => exact hr.elim
  | .ok .brk, hr => exact hr.elim
  | .ok .cont, hr => exact hr.elim
  | .ok (.ret x), ⟨ex, es⟩ =>
    subst ex es
    have lies : (s.heap.push O).get? s.heap.objs.size = some O := Heap.get?_push_size _ (by subst hO; rfl)
    have ty : Shared.TypeIs { s with heap := s.heap.push O } (.ref s.heap.objs.size) "set" := ⟨_, lies, by subst hO; rfl⟩
    have look := F.called_set.init.lookup
    have bound := F.called_set.init.bind (.ref s.heap.objs.size)
    repeat (any_goals (first | assumption | wp_step))
    refine codeAny_mono (codeAny_call_builtin (R := wants (fun v s2 => v = .none ∧ Made w s ns s2) E) F.called_set.init.plain F.entry_set_init (check_set_init_1 ty ?_)) fun r2 s2 hr2 => ?_
    · -- each of the list's is put in
      have hl1 : (s.heap.push O).IsList l its := hl.push _
      obtain ⟨ol, liesL, clsL, nl, dataL⟩ := id hl
      have liesL1 : (s.heap.push O).get? l = some ol := Heap.get?_push_of_some _ liesL
      have tyL : Shared.TypeIs { s with heap := s.heap.push O } (.ref l) "list" := ⟨_, liesL1, clsL⟩
      have noSet := F.sub_list_set
      have noFrz := F.sub_list_frozenset
      have noDict : (Value.type "list" == Value.type "dict") = false := by decide
      subst hO
      unfold Builtin.«set.__init__» noKeywords Builtin.Frozenset.updateFrom
      generalize hIt : pyIter = It
      wp_walk
      subst hIt
      refine wpAny_pyIter_list hl1 ?_
      refine wpAny_bind (wpAny_runValue ?_)
      have ltL : l < s.heap.objs.size := Heap.lt_size liesL
      have calm3 : A.in1.in1.in1.handled = none := calm
      have sz : (s.heap.push { cls := .type "set", dict := none, data := .set #[] 0 (.fresh 0 0 (!w.params.followText "set-order")) }).objs.size = s.heap.objs.size + 1 := Heap.size_push ..
      refine set_update_ints ((Walks.list calm3 _ l (by rw [sz]; exact Nat.ne_of_lt (Nat.lt_succ_of_lt ltL)) its).toS) s.heap.objs.size (fun hm => ?_) ns len room (fun i v hv => ?_) (its.size - 0) 0 _ rfl (Nat.zero_le _) ⟨⟨_, Heap.get?_push_size _ rfl, rfl, rfl⟩, hl1.push _⟩ ⟨0, Nat.le_refl 0, setR_new_at (Heap.get?_push_of_some _ lies)⟩ fun s3 c mv lc R3 => ?_
      · rw [sz] at hm
        rcases List.mem_cons.mp hm with z | z
        · exact absurd z (Nat.ne_of_lt (Nat.lt_succ_self _))
        · exact absurd (List.mem_singleton.mp z) (Nat.ne_of_gt ltL)
      · have lt : i < ns.length := len ▸ (Array.getElem?_eq_some_iff.mp hv).1
        obtain ⟨t, e⟩ := PyProof.Rows.IntsAre.int_at hi i v (by rw [Array.getElem?_toList]; exact hv)
        exact ⟨ns[i], t, List.getElem?_eq_getElem lt, by rw [e, List.getD_eq_getElem?_getD, List.getElem?_eq_getElem lt] <;> rfl⟩
      · obtain ⟨h3, g3, d3, t3, o3⟩ := s3
        obtain rfl : g3 = s.gens := mv.gens
        obtain rfl : d3 = s.drawn := mv.drawn
        obtain rfl : o3 = s.os := mv.os
        show wpAny _ _ _ _ _ _
        refine wpAny_pure ?_
        show wpAny _ _ (ret Value.none) _ _ _
        refine wpAny_pure ⟨rfl, h3, t3, c, rfl, R3, len ▸ lc, fun b o e => ?_⟩
        have lt := Heap.lt_size e
        refine mv.heap b o (fun hm => ?_) (Heap.get?_push_of_some _ (Heap.get?_push_of_some _ e))
        rcases List.mem_cons.mp hm with z | z
        · exact absurd z (Nat.ne_of_lt lt)
        · have z := List.mem_singleton.mp z
          rw [sz] at z
          exact absurd z (Nat.ne_of_lt (Nat.lt_succ_of_lt lt))
    · match r2, hr2 with
      | .error e, hr2 => exact hr2
      | .ok .next, hr2 => exact hr2.elim
      | .ok .brk, hr2 => exact hr2.elim
      | .ok .cont, hr2 => exact hr2.elim
      | .ok (.ret v), ⟨ev, mk⟩ =>
        subst ev
        repeat (any_goals (first | assumption | wp_step))
        exact k s2 mk
end
section
variable {X : Cx}
/-- set(xs), ints -/
def rSetOfI (K : PySem.W.Frag) (w : World) : List V → Hp → VK → Prop := fun xs H Q => ∃ (a : Addr) (ns : List Int), xs = [V.ref a] ∧ SqL K H a (ns.map V.int) ∧ ns.length + 1 < scanBound ∧ ∀ p, H p = none → Q (.ref p) (upd H p (SetL w p ns))
theorem cr_setOfI (calm : X.calm = true) : CallR X (.type "set") (rSetOfI X.K X.w) := by
  intro pins s σ H xs us Q I r ⟨a, ns, ev, ha, room, q⟩
  subst ev
  rw [Vals.ref1 r]
  obtain ⟨its, rv, lies, _⟩ := I.list ha
  refine set_of_list (I.ok.hd calm) lies.isList (by simpa using rv.ints) room fun s2 ⟨h2, tk, c, es, R, le, up⟩ => ?_
  subst es
  exact ⟨.ref _, _, I.laid (t' := tk) up (Nat.le_refl _) (setL_ok le R), rfl, q _ (I.hok.fresh (Nat.le_refl _))⟩
end
end TT

set_option Elab.async false
set_option linter.all false
set_option maxRecDepth 100000
set_option maxHeartbeats 4000000
namespace TT
open PySem PySem.Spec PyProof.Rows L2
def top (i : Nat) : Stmt := PySem.Challenge.pw_turnedtunes_k40_melodies_played.main.body.getD i (.Pass ⟨0, 0, 0, 0⟩)
abbrev s_E_init : Stmt := inClass (top 2) 0
theorem sc_E_init : FnScope ["self", "value"] ["self", "value"] (defScope s_E_init) := ⟨rfl, rfl, rfl, by decide +kernel, rfl, by decide +kernel, by decide +kernel⟩
abbrev s_is_whole : Stmt := top 9
theorem sc_is_whole : FnScope ["value"] ["value"] (defScope s_is_whole) := ⟨rfl, rfl, rfl, by decide +kernel, rfl, by decide +kernel, by decide +kernel⟩
abbrev s_is_from : Stmt := top 10
theorem sc_is_from : FnScope ["value", "least"] ["value", "least"] (defScope s_is_from) := ⟨rfl, rfl, rfl, by decide +kernel, rfl, by decide +kernel, by decide +kernel⟩
abbrev s_is_between : Stmt := top 11
theorem sc_is_between : FnScope ["value", "least", "greatest"] ["value", "least", "greatest"] (defScope s_is_between) := ⟨rfl, rfl, rfl, by decide +kernel, rfl, by decide +kernel, by decide +kernel⟩
abbrev s_led_by : Stmt := top 14
theorem sc_led_by : FnScope ["lead", "note", "amount", "down"] ["lead", "note"] (defScope s_led_by) := ⟨rfl, rfl, rfl, by decide +kernel, rfl, by decide +kernel, by decide +kernel⟩
abbrev s_led_on : Stmt := top 15
theorem sc_led_on : FnScope ["lead", "other"] ["lead", "other"] (defScope s_led_on) := ⟨rfl, rfl, rfl, by decide +kernel, rfl, by decide +kernel, by decide +kernel⟩
abbrev s_led_often : Stmt := top 17
theorem sc_led_often : FnScope ["lead", "many", "amount", "down"] ["lead", "many"] (defScope s_led_often) := ⟨rfl, rfl, rfl, by decide +kernel, rfl, by decide +kernel, by decide +kernel⟩
abbrev s_word_of : Stmt := top 18
theorem sc_word_of : FnScope ["lead"] ["lead"] (defScope s_word_of) := ⟨rfl, rfl, rfl, by decide +kernel, rfl, by decide +kernel, by decide +kernel⟩
abbrev s_length_of : Stmt := top 45
theorem sc_length_of : FnScope ["piece"] ["piece"] (defScope s_length_of) := ⟨rfl, rfl, rfl, by decide +kernel, rfl, by decide +kernel, by decide +kernel⟩
abbrev s_starts_of : Stmt := top 46
theorem sc_starts_of : FnScope ["pieces", "starts", "piece"] ["pieces"] (defScope s_starts_of) := ⟨rfl, rfl, rfl, by decide +kernel, rfl, by decide +kernel, by decide +kernel⟩
abbrev s_new_ahead : Stmt := top 47
theorem sc_new_ahead : FnScope ["pieces", "many", "piece"] ["pieces"] (defScope s_new_ahead) := ⟨rfl, rfl, rfl, by decide +kernel, rfl, by decide +kernel, by decide +kernel⟩
abbrev s_index_at : Stmt := top 49
theorem sc_index_at : FnScope ["starts", "place", "low", "high", "middle"] ["starts", "place"] (defScope s_index_at) := ⟨rfl, rfl, rfl, by decide +kernel, rfl, by decide +kernel, by decide +kernel⟩
abbrev s_read : Stmt := top 50
theorem sc_read : FnScope ["pieces", "starts", "place", "lead", "at", "piece", "many"] ["pieces", "starts", "place"] (defScope s_read) := ⟨rfl, rfl, rfl, by decide +kernel, rfl, by decide +kernel, by decide +kernel⟩
abbrev s_source : Stmt := top 51
theorem sc_source : FnScope ["piece", "here", "place", "shift", "many"] ["piece", "here", "place"] (defScope s_source) := ⟨rfl, rfl, rfl, by decide +kernel, rfl, by decide +kernel, by decide +kernel⟩
abbrev s_check_place : Stmt := top 57
theorem sc_check_place : FnScope ["place", "size"] ["place", "size"] (defScope s_check_place) := ⟨rfl, rfl, rfl, by decide +kernel, rfl, by decide +kernel, by decide +kernel⟩
abbrev s_check_stretch : Stmt := top 58
theorem sc_check_stretch : FnScope ["first", "length", "size"] ["first", "length", "size"] (defScope s_check_stretch) := ⟨rfl, rfl, rfl, by decide +kernel, rfl, by decide +kernel, by decide +kernel⟩
abbrev s_M_init : Stmt := inClass (top 60) 0
theorem sc_M_init : FnScope ["self", "pieces"] ["self", "pieces"] (defScope s_M_init) := ⟨rfl, rfl, rfl, by decide +kernel, rfl, by decide +kernel, by decide +kernel⟩
abbrev s_M_getitem : Stmt := inClass (top 60) 1
theorem sc_M_getitem : FnScope ["self", "at", "found", "word", "place", "amount", "piece"] ["self", "at"] (defScope s_M_getitem) := ⟨rfl, rfl, rfl, by decide +kernel, rfl, by decide +kernel, by decide +kernel⟩
abbrev s_M_played : Stmt := inClass (top 60) 3
theorem sc_M_played : FnScope ["self", "look", "first", "length", "found", "chosen", "number", "note", "place", "what"] ["self", "look", "first", "length"] (defScope s_M_played) := ⟨rfl, rfl, rfl, by decide +kernel, rfl, by decide +kernel, by decide +kernel⟩
abbrev s_note_of : Stmt := top 61
theorem sc_note_of : FnScope ["what", "chosen", "word", "number", "amount"] ["what", "chosen"] (defScope s_note_of) := ⟨rfl, rfl, rfl, by decide +kernel, rfl, by decide +kernel, by decide +kernel⟩
abbrev s_are_pieces : Stmt := top 63
theorem sc_are_pieces : FnScope ["value", "here", "piece"] ["value"] (defScope s_are_pieces) := ⟨rfl, rfl, rfl, by decide +kernel, rfl, by decide +kernel, by decide +kernel⟩
abbrev s_is_piece : Stmt := top 64
theorem sc_is_piece : FnScope ["value", "here"] ["value", "here"] (defScope s_is_piece) := ⟨rfl, rfl, rfl, by decide +kernel, rfl, by decide +kernel, by decide +kernel⟩
abbrev s_is_copy : Stmt := top 65
theorem sc_is_copy : FnScope ["piece", "here", "_", "first", "length", "amount", "down", "backward"] ["piece", "here"] (defScope s_is_copy) := ⟨rfl, rfl, rfl, by decide +kernel, rfl, by decide +kernel, by decide +kernel⟩
abbrev s_l_pot : Stmt := top 67
theorem sc_l_pot : FnScope ["_law_script", "_law_k", "_law_cell", "_law_own", "_law_small"] ["_law_script", "_law_k"] (defScope s_l_pot) := ⟨rfl, rfl, rfl, by decide +kernel, rfl, by decide +kernel, by decide +kernel⟩
abbrev s_l_take : Stmt := top 68
theorem sc_l_take : FnScope ["_law_pot_here", "_law_upto", "_law_digit", "_law_prime", "_law_mixed"] ["_law_pot_here", "_law_upto"] (defScope s_l_take) := ⟨rfl, rfl, rfl, by decide +kernel, rfl, by decide +kernel, by decide +kernel⟩
abbrev s_l_of : Stmt := top 69
theorem sc_l_of : FnScope ["_law_pot_here", "_law_some"] ["_law_pot_here", "_law_some"] (defScope s_l_of) := ⟨rfl, rfl, rfl, by decide +kernel, rfl, by decide +kernel, by decide +kernel⟩
abbrev s_l_pots : Stmt := top 70
theorem sc_l_pots : FnScope ["_law_script", "_law_most", "_law_k"] ["_law_script", "_law_most"] (defScope s_l_pots) := ⟨rfl, rfl, rfl, by decide +kernel, rfl, by decide +kernel, by decide +kernel⟩
abbrev s_l_told : Stmt := top 71
theorem sc_l_told : FnScope ["_law_look_here", "_law_caught", "_law_found", "error"] ["_law_look_here"] (defScope s_l_told) := ⟨rfl, rfl, rfl, by decide +kernel, rfl, by decide +kernel, by decide +kernel⟩
abbrev s_l_is_int : Stmt := top 72
theorem sc_l_is_int : FnScope ["_law_value", "_law_low", "_law_high"] ["_law_value", "_law_low", "_law_high"] (defScope s_l_is_int) := ⟨rfl, rfl, rfl, by decide +kernel, rfl, by decide +kernel, by decide +kernel⟩
abbrev s_l_amount : Stmt := top 73
theorem sc_l_amount : FnScope ["_law_pot_here"] ["_law_pot_here"] (defScope s_l_amount) := ⟨rfl, rfl, rfl, by decide +kernel, rfl, by decide +kernel, by decide +kernel⟩
abbrev s_l_lead : Stmt := top 74
theorem sc_l_lead : FnScope ["_law_entry", "_law_is_down", "_law_amount_here"] ["_law_entry", "_law_is_down", "_law_amount_here"] (defScope s_l_lead) := ⟨rfl, rfl, rfl, by decide +kernel, rfl, by decide +kernel, by decide +kernel⟩
abbrev s_l_shown : Stmt := top 75
theorem sc_l_shown : FnScope ["_law_pieces_here", "_law_found", "_law_fresh", "_law_piece_here", "_law_number", "_law_spot"] ["_law_pieces_here"] (defScope s_l_shown) := ⟨rfl, rfl, rfl, by decide +kernel, rfl, by decide +kernel, by decide +kernel⟩
abbrev s_l_piece : Stmt := top 76
theorem sc_l_piece : FnScope ["_law_pot_here", "_law_here", "_law_room_left", "_law_length", "_law_way", "_law_first", "_law_is_down", "_law_is_back"] ["_law_pot_here", "_law_here", "_law_room_left"] (defScope s_l_piece) := ⟨rfl, rfl, rfl, by decide +kernel, rfl, by decide +kernel, by decide +kernel⟩
abbrev s_l_pieces : Stmt := top 77
theorem sc_l_pieces : FnScope ["_law_pot_here", "_law_size", "_law_found", "_law_here", "_law_lap", "_law_piece_here"] ["_law_pot_here", "_law_size"] (defScope s_l_pieces) := ⟨rfl, rfl, rfl, by decide +kernel, rfl, by decide +kernel, by decide +kernel⟩
abbrev s_l_note_of : Stmt := top 78
theorem sc_l_note_of : FnScope ["_law_entry", "_law_notes"] ["_law_entry", "_law_notes"] (defScope s_l_note_of) := ⟨rfl, rfl, rfl, by decide +kernel, rfl, by decide +kernel, by decide +kernel⟩
abbrev s_l_played_right : Stmt := top 79
theorem sc_l_played_right : FnScope ["_law_pot_here", "_law_tune", "_law_shown_here", "_law_notes", "_law_first", "_law_length", "_law_some", "_law_asked", "_law_look", "_law_caught", "_law_found", "_law_due", "_law_bad", "_law_entry", "_law_number", "_law_one"] ["_law_pot_here", "_law_tune", "_law_shown_here", "_law_notes"] (defScope s_l_played_right) := ⟨rfl, rfl, rfl, by decide +kernel, rfl, by decide +kernel, by decide +kernel⟩
abbrev s_l_refusals_right : Stmt := top 80
theorem sc_l_refusals_right : FnScope ["_law_pot_here", "_law_tune", "_law_size", "_law_first", "_law_length", "_law_caught", "_law_found"] ["_law_pot_here", "_law_tune", "_law_size"] (defScope s_l_refusals_right) := ⟨rfl, rfl, rfl, by decide +kernel, rfl, by decide +kernel, by decide +kernel⟩
abbrev s_l_right : Stmt := top 81
theorem sc_l_right : FnScope ["_law_pot_here", "_law_pieces_here", "_law_tune", "_law_shown_here", "_law_notes", "_law_others", "_law_wide", "_law_gone", "_law_caught", "_law_number", "_law_own", "_law_lap"] ["_law_pot_here"] (defScope s_l_right) := ⟨rfl, rfl, rfl, by decide +kernel, rfl, by decide +kernel, by decide +kernel⟩
abbrev s_law : Stmt := top 82
theorem sc_law : FnScope ["_law_script", "_law_pot_here"] ["_law_script"] (defScope s_law) := ⟨rfl, rfl, rfl, by decide +kernel, rfl, by decide +kernel, by decide +kernel⟩
structure Zs where
  c : Nat → Addr
  f_E_init : Addr
  d_E_init : FuncData
  f_is_whole : Addr
  d_is_whole : FuncData
  f_is_from : Addr
  d_is_from : FuncData
  f_is_between : Addr
  d_is_between : FuncData
  f_led_by : Addr
  d_led_by : FuncData
  f_led_on : Addr
  d_led_on : FuncData
  f_led_often : Addr
  d_led_often : FuncData
  f_word_of : Addr
  d_word_of : FuncData
  f_length_of : Addr
  d_length_of : FuncData
  f_starts_of : Addr
  d_starts_of : FuncData
  f_new_ahead : Addr
  d_new_ahead : FuncData
  f_index_at : Addr
  d_index_at : FuncData
  f_read : Addr
  d_read : FuncData
  f_source : Addr
  d_source : FuncData
  f_check_place : Addr
  d_check_place : FuncData
  f_check_stretch : Addr
  d_check_stretch : FuncData
  f_M_init : Addr
  d_M_init : FuncData
  f_M_getitem : Addr
  d_M_getitem : FuncData
  f_M_played : Addr
  d_M_played : FuncData
  f_note_of : Addr
  d_note_of : FuncData
  f_are_pieces : Addr
  d_are_pieces : FuncData
  f_is_piece : Addr
  d_is_piece : FuncData
  f_is_copy : Addr
  d_is_copy : FuncData
  f_l_pot : Addr
  d_l_pot : FuncData
  f_l_take : Addr
  d_l_take : FuncData
  f_l_of : Addr
  d_l_of : FuncData
  f_l_pots : Addr
  d_l_pots : FuncData
  f_l_told : Addr
  d_l_told : FuncData
  f_l_is_int : Addr
  d_l_is_int : FuncData
  f_l_amount : Addr
  d_l_amount : FuncData
  f_l_lead : Addr
  d_l_lead : FuncData
  f_l_shown : Addr
  d_l_shown : FuncData
  f_l_piece : Addr
  d_l_piece : FuncData
  f_l_pieces : Addr
  d_l_pieces : FuncData
  f_l_note_of : Addr
  d_l_note_of : FuncData
  f_l_played_right : Addr
  d_l_played_right : FuncData
  f_l_refusals_right : Addr
  d_l_refusals_right : FuncData
  f_l_right : Addr
  d_l_right : FuncData
  f_law : Addr
  d_law : FuncData
  c_l_played_right : Addr
  t_l_played_right : Addr
  c_l_refusals_right : Addr
  t_l_refusals_right : Addr
  c_l_right : Addr
  t_l_right : Addr
  cB : Addr
  t_GREATEST : Tok
  t__LONGEST : Tok
  aS : Addr
/-- where the top has put each def, and what it says of them -/
structure Txt (K : PySem.W.Frag) (mg : Str → Option Value) (Z : Zs) : Prop where
  F_E_init : Fun K "__init__" "TuneError.__init__" s_E_init Z.f_E_init Z.d_E_init
  bn_E_init : Binds K Z.d_E_init ["self", "value"] []
  k_E_init : PySem.W.keepIn K (.ref Z.f_E_init) = true
  i_E_init : PySem.W.isFn K (.ref Z.f_E_init) = true
  F_is_whole : Fun K "is_whole" "is_whole" s_is_whole Z.f_is_whole Z.d_is_whole
  bn_is_whole : Binds K Z.d_is_whole ["value"] []
  k_is_whole : PySem.W.keepIn K (.ref Z.f_is_whole) = true
  g_is_whole : mg "is_whole" = some (.ref Z.f_is_whole)
  F_is_from : Fun K "is_from" "is_from" s_is_from Z.f_is_from Z.d_is_from
  bn_is_from : Binds K Z.d_is_from ["value", "least"] []
  k_is_from : PySem.W.keepIn K (.ref Z.f_is_from) = true
  g_is_from : mg "is_from" = some (.ref Z.f_is_from)
  F_is_between : Fun K "is_between" "is_between" s_is_between Z.f_is_between Z.d_is_between
  bn_is_between : Binds K Z.d_is_between ["value", "least", "greatest"] []
  k_is_between : PySem.W.keepIn K (.ref Z.f_is_between) = true
  g_is_between : mg "is_between" = some (.ref Z.f_is_between)
  F_led_by : Fun K "led_by" "led_by" s_led_by Z.f_led_by Z.d_led_by
  bn_led_by : Binds K Z.d_led_by ["lead", "note"] []
  k_led_by : PySem.W.keepIn K (.ref Z.f_led_by) = true
  g_led_by : mg "led_by" = some (.ref Z.f_led_by)
  F_led_on : Fun K "led_on" "led_on" s_led_on Z.f_led_on Z.d_led_on
  bn_led_on : Binds K Z.d_led_on ["lead", "other"] []
  k_led_on : PySem.W.keepIn K (.ref Z.f_led_on) = true
  g_led_on : mg "led_on" = some (.ref Z.f_led_on)
  F_led_often : Fun K "led_often" "led_often" s_led_often Z.f_led_often Z.d_led_often
  bn_led_often : Binds K Z.d_led_often ["lead", "many"] []
  k_led_often : PySem.W.keepIn K (.ref Z.f_led_often) = true
  g_led_often : mg "led_often" = some (.ref Z.f_led_often)
  F_word_of : Fun K "word_of" "word_of" s_word_of Z.f_word_of Z.d_word_of
  bn_word_of : Binds K Z.d_word_of ["lead"] []
  k_word_of : PySem.W.keepIn K (.ref Z.f_word_of) = true
  g_word_of : mg "word_of" = some (.ref Z.f_word_of)
  F_length_of : Fun K "length_of" "length_of" s_length_of Z.f_length_of Z.d_length_of
  bn_length_of : Binds K Z.d_length_of ["piece"] []
  k_length_of : PySem.W.keepIn K (.ref Z.f_length_of) = true
  g_length_of : mg "length_of" = some (.ref Z.f_length_of)
  F_starts_of : Fun K "starts_of" "starts_of" s_starts_of Z.f_starts_of Z.d_starts_of
  bn_starts_of : Binds K Z.d_starts_of ["pieces"] []
  k_starts_of : PySem.W.keepIn K (.ref Z.f_starts_of) = true
  g_starts_of : mg "starts_of" = some (.ref Z.f_starts_of)
  F_new_ahead : Fun K "new_ahead" "new_ahead" s_new_ahead Z.f_new_ahead Z.d_new_ahead
  bn_new_ahead : Binds K Z.d_new_ahead ["pieces"] []
  k_new_ahead : PySem.W.keepIn K (.ref Z.f_new_ahead) = true
  g_new_ahead : mg "new_ahead" = some (.ref Z.f_new_ahead)
  F_index_at : Fun K "index_at" "index_at" s_index_at Z.f_index_at Z.d_index_at
  bn_index_at : Binds K Z.d_index_at ["starts", "place"] []
  k_index_at : PySem.W.keepIn K (.ref Z.f_index_at) = true
  g_index_at : mg "index_at" = some (.ref Z.f_index_at)
  F_read : Fun K "read" "read" s_read Z.f_read Z.d_read
  bn_read : Binds K Z.d_read ["pieces", "starts", "place"] []
  k_read : PySem.W.keepIn K (.ref Z.f_read) = true
  g_read : mg "read" = some (.ref Z.f_read)
  F_source : Fun K "_source" "_source" s_source Z.f_source Z.d_source
  bn_source : Binds K Z.d_source ["piece", "here", "place"] []
  k_source : PySem.W.keepIn K (.ref Z.f_source) = true
  g_source : mg "_source" = some (.ref Z.f_source)
  F_check_place : Fun K "check_place" "check_place" s_check_place Z.f_check_place Z.d_check_place
  bn_check_place : Binds K Z.d_check_place ["place", "size"] []
  k_check_place : PySem.W.keepIn K (.ref Z.f_check_place) = true
  g_check_place : mg "check_place" = some (.ref Z.f_check_place)
  F_check_stretch : Fun K "check_stretch" "check_stretch" s_check_stretch Z.f_check_stretch Z.d_check_stretch
  bn_check_stretch : Binds K Z.d_check_stretch ["first", "length", "size"] []
  k_check_stretch : PySem.W.keepIn K (.ref Z.f_check_stretch) = true
  g_check_stretch : mg "check_stretch" = some (.ref Z.f_check_stretch)
  F_M_init : Fun K "__init__" "Melody.__init__" s_M_init Z.f_M_init Z.d_M_init
  bn_M_init : Binds K Z.d_M_init ["self", "pieces"] []
  k_M_init : PySem.W.keepIn K (.ref Z.f_M_init) = true
  i_M_init : PySem.W.isFn K (.ref Z.f_M_init) = true
  a_M_init : PySem.W.findIn K (.ref Z.cB) "__init__" = some (some (.ref Z.f_M_init))
  F_M_getitem : Fun K "__getitem__" "Melody.__getitem__" s_M_getitem Z.f_M_getitem Z.d_M_getitem
  bn_M_getitem : Binds K Z.d_M_getitem ["self", "at"] []
  k_M_getitem : PySem.W.keepIn K (.ref Z.f_M_getitem) = true
  i_M_getitem : PySem.W.isFn K (.ref Z.f_M_getitem) = true
  a_M_getitem : PySem.W.findIn K (.ref Z.cB) "__getitem__" = some (some (.ref Z.f_M_getitem))
  F_M_played : Fun K "played" "Melody.played" s_M_played Z.f_M_played Z.d_M_played
  bn_M_played : Binds K Z.d_M_played ["self", "look", "first", "length"] []
  k_M_played : PySem.W.keepIn K (.ref Z.f_M_played) = true
  i_M_played : PySem.W.isFn K (.ref Z.f_M_played) = true
  a_M_played : PySem.W.findIn K (.ref Z.cB) "played" = some (some (.ref Z.f_M_played))
  F_note_of : Fun K "_note_of" "_note_of" s_note_of Z.f_note_of Z.d_note_of
  bn_note_of : Binds K Z.d_note_of ["what", "chosen"] []
  k_note_of : PySem.W.keepIn K (.ref Z.f_note_of) = true
  g_note_of : mg "_note_of" = some (.ref Z.f_note_of)
  F_are_pieces : Fun K "_are_pieces" "_are_pieces" s_are_pieces Z.f_are_pieces Z.d_are_pieces
  bn_are_pieces : Binds K Z.d_are_pieces ["value"] []
  k_are_pieces : PySem.W.keepIn K (.ref Z.f_are_pieces) = true
  g_are_pieces : mg "_are_pieces" = some (.ref Z.f_are_pieces)
  F_is_piece : Fun K "_is_piece" "_is_piece" s_is_piece Z.f_is_piece Z.d_is_piece
  bn_is_piece : Binds K Z.d_is_piece ["value", "here"] []
  k_is_piece : PySem.W.keepIn K (.ref Z.f_is_piece) = true
  g_is_piece : mg "_is_piece" = some (.ref Z.f_is_piece)
  F_is_copy : Fun K "_is_copy" "_is_copy" s_is_copy Z.f_is_copy Z.d_is_copy
  bn_is_copy : Binds K Z.d_is_copy ["piece", "here"] []
  k_is_copy : PySem.W.keepIn K (.ref Z.f_is_copy) = true
  g_is_copy : mg "_is_copy" = some (.ref Z.f_is_copy)
  F_l_pot : Fun K "_law_pot" "_law_pot" s_l_pot Z.f_l_pot Z.d_l_pot
  bn_l_pot : Binds K Z.d_l_pot ["_law_script", "_law_k"] []
  k_l_pot : PySem.W.keepIn K (.ref Z.f_l_pot) = true
  g_l_pot : mg "_law_pot" = some (.ref Z.f_l_pot)
  F_l_take : Fun K "_law_take" "_law_take" s_l_take Z.f_l_take Z.d_l_take
  bn_l_take : Binds K Z.d_l_take ["_law_pot_here", "_law_upto"] []
  k_l_take : PySem.W.keepIn K (.ref Z.f_l_take) = true
  g_l_take : mg "_law_take" = some (.ref Z.f_l_take)
  F_l_of : Fun K "_law_of" "_law_of" s_l_of Z.f_l_of Z.d_l_of
  bn_l_of : Binds K Z.d_l_of ["_law_pot_here", "_law_some"] []
  k_l_of : PySem.W.keepIn K (.ref Z.f_l_of) = true
  g_l_of : mg "_law_of" = some (.ref Z.f_l_of)
  F_l_pots : Fun K "_law_pots" "_law_pots" s_l_pots Z.f_l_pots Z.d_l_pots
  bn_l_pots : Binds K Z.d_l_pots ["_law_script", "_law_most"] []
  k_l_pots : PySem.W.keepIn K (.ref Z.f_l_pots) = true
  g_l_pots : mg "_law_pots" = some (.ref Z.f_l_pots)
  F_l_told : Fun K "_law_told" "_law_told" s_l_told Z.f_l_told Z.d_l_told
  bn_l_told : Binds K Z.d_l_told ["_law_look_here"] []
  k_l_told : PySem.W.keepIn K (.ref Z.f_l_told) = true
  g_l_told : mg "_law_told" = some (.ref Z.f_l_told)
  F_l_is_int : Fun K "_law_is_int" "_law_is_int" s_l_is_int Z.f_l_is_int Z.d_l_is_int
  bn_l_is_int : Binds K Z.d_l_is_int ["_law_value", "_law_low", "_law_high"] []
  k_l_is_int : PySem.W.keepIn K (.ref Z.f_l_is_int) = true
  g_l_is_int : mg "_law_is_int" = some (.ref Z.f_l_is_int)
  F_l_amount : Fun K "_law_amount" "_law_amount" s_l_amount Z.f_l_amount Z.d_l_amount
  bn_l_amount : Binds K Z.d_l_amount ["_law_pot_here"] []
  k_l_amount : PySem.W.keepIn K (.ref Z.f_l_amount) = true
  g_l_amount : mg "_law_amount" = some (.ref Z.f_l_amount)
  F_l_lead : Fun K "_law_lead" "_law_lead" s_l_lead Z.f_l_lead Z.d_l_lead
  bn_l_lead : Binds K Z.d_l_lead ["_law_entry", "_law_is_down", "_law_amount_here"] []
  k_l_lead : PySem.W.keepIn K (.ref Z.f_l_lead) = true
  g_l_lead : mg "_law_lead" = some (.ref Z.f_l_lead)
  F_l_shown : Fun K "_law_shown" "_law_shown" s_l_shown Z.f_l_shown Z.d_l_shown
  bn_l_shown : Binds K Z.d_l_shown ["_law_pieces_here"] []
  k_l_shown : PySem.W.keepIn K (.ref Z.f_l_shown) = true
  g_l_shown : mg "_law_shown" = some (.ref Z.f_l_shown)
  F_l_piece : Fun K "_law_piece" "_law_piece" s_l_piece Z.f_l_piece Z.d_l_piece
  bn_l_piece : Binds K Z.d_l_piece ["_law_pot_here", "_law_here", "_law_room_left"] []
  k_l_piece : PySem.W.keepIn K (.ref Z.f_l_piece) = true
  g_l_piece : mg "_law_piece" = some (.ref Z.f_l_piece)
  F_l_pieces : Fun K "_law_pieces" "_law_pieces" s_l_pieces Z.f_l_pieces Z.d_l_pieces
  bn_l_pieces : Binds K Z.d_l_pieces ["_law_pot_here", "_law_size"] []
  k_l_pieces : PySem.W.keepIn K (.ref Z.f_l_pieces) = true
  g_l_pieces : mg "_law_pieces" = some (.ref Z.f_l_pieces)
  F_l_note_of : Fun K "_law_note_of" "_law_note_of" s_l_note_of Z.f_l_note_of Z.d_l_note_of
  bn_l_note_of : Binds K Z.d_l_note_of ["_law_entry", "_law_notes"] []
  k_l_note_of : PySem.W.keepIn K (.ref Z.f_l_note_of) = true
  g_l_note_of : mg "_law_note_of" = some (.ref Z.f_l_note_of)
  F_l_played_right : FunC K "_law_played_right" "_law_played_right" s_l_played_right Z.f_l_played_right Z.d_l_played_right Z.c_l_played_right
  bn_l_played_right : Binds K Z.d_l_played_right ["_law_pot_here", "_law_tune", "_law_shown_here", "_law_notes"] []
  k_l_played_right : PySem.W.keepIn K (.ref Z.f_l_played_right) = true
  g_l_played_right : mg "_law_played_right" = some (.ref Z.f_l_played_right)
  F_l_refusals_right : FunC K "_law_refusals_right" "_law_refusals_right" s_l_refusals_right Z.f_l_refusals_right Z.d_l_refusals_right Z.c_l_refusals_right
  bn_l_refusals_right : Binds K Z.d_l_refusals_right ["_law_pot_here", "_law_tune", "_law_size"] []
  k_l_refusals_right : PySem.W.keepIn K (.ref Z.f_l_refusals_right) = true
  g_l_refusals_right : mg "_law_refusals_right" = some (.ref Z.f_l_refusals_right)
  F_l_right : FunC K "_law_right" "_law_right" s_l_right Z.f_l_right Z.d_l_right Z.c_l_right
  bn_l_right : Binds K Z.d_l_right ["_law_pot_here"] []
  k_l_right : PySem.W.keepIn K (.ref Z.f_l_right) = true
  g_l_right : mg "_law_right" = some (.ref Z.f_l_right)
  F_law : Fun K "law" "law" s_law Z.f_law Z.d_law
  bn_law : Binds K Z.d_law ["_law_script"] []
  k_law : PySem.W.keepIn K (.ref Z.f_law) = true
  g_law : mg "law" = some (.ref Z.f_law)
  b_isinstance : mg "isinstance" = none
  b_int : mg "int" = none
  b_bool : mg "bool" = none
  b_tuple : mg "tuple" = none
  b_len : mg "len" = none
  b_min : mg "min" = none
  b_sorted : mg "sorted" = none
  b_range : mg "range" = none
  b_abs : mg "abs" = none
  b_max : mg "max" = none
  b_repr : mg "repr" = none
  b_all : mg "all" = none
  c_GREATEST : mg "GREATEST" = some (.int 1000000000000000000000000000000 Z.t_GREATEST)
  c__LONGEST : mg "_LONGEST" = some (.int 99 Z.t__LONGEST)
  clB : Cls K Z.cB
  g_Bk : mg "Melody" = some (.ref Z.cB)
  mkBc : PySem.W.makesIn K Z.cB = true
  kB : PySem.W.keepIn K (.ref Z.cB) = true
  nB_pieces : NoAttr K Z.cB "pieces"
  nB_starts : NoAttr K Z.cB "starts"
  nB_ahead : NoAttr K Z.cB "ahead"
  nB_size : NoAttr K Z.cB "size"
  nB_new : NoAttr K Z.cB "new"
  g_NoPlace : mg "NoPlace" = some (.ref (Z.c 0))
  g_BadPieces : mg "BadPieces" = some (.ref (Z.c 1))
  g_BadLength : mg "BadLength" = some (.ref (Z.c 2))
  g_BadNote : mg "BadNote" = some (.ref (Z.c 3))
  g_TuneError : mg "TuneError" = some (.ref (Z.c 4))
  ex : ∀ i, i < 5 → ExcT K (Z.c 4) Z.f_E_init (Z.c i)
  nd : ∀ i j, i < 5 → j < 5 → Z.c i = Z.c j → i = j
  z_ve : PySem.W.findCls K (.type "ValueError") (.type "type") "__init__" = some (.val (.builtin "ValueError.__init__"))
  t_E_init : PySem.W.typeIn K (.ref Z.f_E_init) = some (.type "function")
  b_ValueError : mg "ValueError" = none
  z_clsB : PySem.W.findIn K (.ref Z.cB) "__class__" = some (some (.builtin "object.__class__"))
  z_mroB : PySem.W.mroIn K Z.cB (.type "object") = some true
  z_kitB : PySem.W.kitOne K (.ref Z.cB) (.ref Z.cB) = some true
  z_tyB : PySem.W.typeIn K (.ref Z.cB) = some (.type "type")
  z_get : PySem.W.specialIn K (.builtin "object.__class__") "__get__" = some (some (.builtin "getset_descriptor.__get__"))
  z_tk : PySem.W.takesIn K (.builtin "object.__class__") = some true
  z_fn : PySem.W.fnIn K Z.f_M_getitem = true
  b_set : mg "set" = none
  g_source_pieces : mg "source_pieces" = some (.ref Z.f_source)
  g_STILL : mg "STILL" = some (.ref Z.aS)
  z_still : ∀ H, SqT K H Z.aS [.int 0, .bl false]
end TT

set_option Elab.async false
set_option linter.all false
set_option maxRecDepth 100000
set_option maxHeartbeats 4000000
namespace TT
open PySem PySem.Spec PyProof.Rows L2
/-! ### the law's draws -/
/-- a pot of draws stands at p: n numbers were mixed so far -/
def Pot (H : Hp) (p : Addr) (n : Nat) : Prop := ∃ own mix : Int, H p = some (.lst [.int own, .int mix, .int (n : Int)]) ∧ 0 ≤ own ∧ own < 10 ^ 300 ∧ 0 ≤ mix ∧ mix < 2305843009213693951
/-- all that was tracked but the object at p is as it was -/
def Keep (p : Addr) (H H' : Hp) : Prop := ∀ b o, b ≠ p → H b = some o → H' b = some o
theorem Keep.rfl' {p : Addr} {H : Hp} : Keep p H H := fun _ _ _ h => h
theorem Keep.trans {p : Addr} {H H1 H2 : Hp} (a : Keep p H H1) (b : Keep p H1 H2) : Keep p H H2 := fun c o n h => b c o n (a c o n h)
theorem Keep.of {p : Addr} {H H1 : Hp} (a : Same H H1) : Keep p H H1 := fun c o _ h => a c o h
theorem Keep.upd {p : Addr} {H H1 : Hp} {o : HO} (a : Keep p H H1) : Keep p H (upd H1 p o) := fun c u n h => by rw [upd_ne n]; exact a c u n h
theorem Keep.new {p q : Addr} {H H1 : Hp} {o : HO} (a : Keep p H H1) (h : H1 q = none) : Keep p H (L2.upd H1 q o) := fun c u n e => by
  have := a c u n e
  rw [upd_ne (ne_of_none this h)]
  exact this
theorem Same.new {q : Addr} {H H1 : Hp} {o : HO} (a : Same H H1) (h : H1 q = none) : Same H (L2.upd H1 q o) := fun c u e => by
  have := a c u e
  rw [upd_ne (ne_of_none this h)]
  exact this
theorem lt200 {u : Int} (h0 : 0 < u) (h : u < 10 ^ 60) : u.natAbs < 2 ^ 200 := by
  have : (10 : Int) ^ 60 < 2 ^ 200 := by decide
  omega
theorem bits62 {y : Int} (h0 : 0 ≤ y) (h : y < 2 ^ 62) : Builtin.Int.intBits y ≤ 64 := intBits_le_64 (by omega) (by omega)
theorem prime_at (i : Int) (h0 : 0 ≤ i) (h : i < 5) : ∃ v : Int, atI [V.int 2147483647, V.int 2147483629, V.int 2147483587, V.int 2147483579, V.int 2147483563] i = some (.int v) ∧ 2 ≤ v ∧ v ≤ 2147483648 := by
  have : i = 0 ∨ i = 1 ∨ i = 2 ∨ i = 3 ∨ i = 4 := by omega
  rcases this with rfl | rfl | rfl | rfl | rfl <;> exact ⟨_, rfl, by decide, by decide⟩
def sp_l_take : Sp := fun vs H Q _ => ∃ (p : Addr) (n : Nat) (u : Int), vs = [.ref p, .int u] ∧ Pot H p n ∧ n < 1000000 ∧ 0 < u ∧ u < 10 ^ 60 ∧
  ∀ (d : Int) (n' : Nat) (H' : Hp), 0 ≤ d → d < u → n' ≤ n + 1 → Pot H' p n' → Keep p H H' → Q (.int d) H'
section
variable {P : Program} {w : World} {K : PySem.W.Frag} {mg : Str → Option Value} {base : Heap} {Z : Zs}
theorem ok_l_take (T : Txt K mg Z) : FnOk P w K mg base CX0 1 Z.f_l_take Z.d_l_take ["_law_pot_here", "_law_upto"] sp_l_take := by
  refine T.F_l_take.ok sc_l_take (fun vs H Q E h => ?_) (fun cdv A outer s H vs Q E hr h => ?_)
  · obtain ⟨p, n, u, rfl, _⟩ := h
    rfl
  · obtain ⟨p, n, u, rfl, ⟨own, mix, hp, o0, o1, m0, m1⟩, hn, u0, u1, k⟩ := h
    refine ⟨_, (pss_cons (ps_if (pt_cmpR op_gt (pe_ix ix_list (pv 0) pe_int (fun _ _ => rfl)) pe_int (nomark _)) (pss_cons (ps_set (i := 2) sc_l_take.nd rfl (Or.inl rfl) (pe_op op_mod (pe_callTy call_int1 (by rfl) T.b_int (by decide +kernel) (pa_cons (pe_ix ix_list (pv 0) pe_int (fun _ _ => rfl)) pa_nil)) (pv 1)))
      (pss_cons (ps_asg (pe_op op_fdivW (pe_ix ix_list (pv 0) pe_int (fun _ _ => rfl)) (pv 1)) (pg_sub (pv 0) pe_int set_list))
      (pss_one (ps_ret (pv 2))))) pss_nil)
      (pss_cons (ps_asg (pe_op op_add (pe_ix ix_list (pv 0) pe_int (fun _ _ => rfl)) pe_int) (pg_sub (pv 0) pe_int set_list))
      (pss_cons (ps_set (i := 3) sc_l_take.nd rfl (Or.inl rfl) (pe_ix ix_list (pe_lst (pa_cons pe_int (pa_cons pe_int (pa_cons pe_int (pa_cons pe_int (pa_cons pe_int pa_nil)))))) (pe_op op_mod (pe_callTy call_int1 (by rfl) T.b_int (by decide +kernel) (pa_cons (pe_ix ix_list (pv 0) pe_int (fun _ _ => rfl)) pa_nil)) pe_int) (fun _ _ => rfl)))
      (pss_cons (ps_set (i := 4) sc_l_take.nd rfl (Or.inl rfl) (pe_op op_mod (pe_callTy call_int1 (by rfl) T.b_int (by decide +kernel) (pa_cons (pe_op op_powW (pe_callTy call_int1 (by rfl) T.b_int (by decide +kernel) (pa_cons (pe_op op_add (pe_op op_add (pe_ix ix_list (pv 0) pe_int (fun _ _ => rfl)) (pe_op op_mul (pe_op op_mul pe_int (pe_ix ix_list (pv 0) pe_int (fun _ _ => rfl))) (pe_ix ix_list (pv 0) pe_int (fun _ _ => rfl)))) pe_int) pa_nil)) pe_int) pa_nil)) (pv 3)))
      (pss_cons (ps_set (i := 4) sc_l_take.nd rfl (Or.inl rfl) (pe_op op_mod (pe_callTy call_int1 (by rfl) T.b_int (by decide +kernel) (pa_cons (pe_op op_mul (pv 4) (pe_op op_add (pe_op op_mod (pe_callTy call_int1 (by rfl) T.b_int (by decide +kernel) (pa_cons (pv 4) pa_nil)) pe_int) (pe_op op_mul pe_int (pe_ix ix_list (pv 0) pe_int (fun _ _ => rfl))))) pa_nil)) pe_int))
      (pss_one (ps_ret (pe_op op_mod (pe_callTy call_int1 (by rfl) T.b_int (by decide +kernel) (pa_cons (pe_op op_fdivW (pv 4) pe_int) pa_nil)) (pv 1))))))))), ?_⟩
    refine ⟨_, rfl, p, _, _, _, rfl, rfl, SqL.of hp, rfl, _, _, rfl, rfl, _, rfl, ?_⟩
    refine ite2 (fun c => ?_) (fun c => ?_)
    · have c' : 0 < own := of_decide_eq_true c
      have q0 : 0 ≤ own / u := Int.ediv_nonneg o0 (Int.le_of_lt u0)
      have q1 : own / u < 10 ^ 300 := Int.lt_of_le_of_lt (Int.ediv_le_self _ o0) o1
      refine ⟨_, rfl, p, _, _, _, rfl, rfl, SqL.of hp, rfl, .inl ⟨_, rfl, _, rfl, _, _, rfl, rfl, u0, ?_⟩⟩
      refine ⟨_, rfl, p, _, _, _, rfl, rfl, SqL.of hp, rfl, _, rfl, _, _, rfl, rfl, wide_div u0 (b := 200) (lt200 u0 u1) (by decide) (by decide), _, rfl, p, _, _, _, rfl, rfl, hp, rfl, _, rfl, ?_⟩
      exact k _ n _ (Int.emod_nonneg _ (by omega)) (Int.emod_lt_of_pos _ u0) (Nat.le_succ _) ⟨own / u, mix, upd_same, q0, q1, m0, m1⟩ Keep.rfl'.upd
    · refine ⟨_, rfl, p, _, _, _, rfl, rfl, SqL.of hp, rfl, _, _, rfl, rfl, _, rfl, p, _, _, _, rfl, rfl, hp, rfl, ?_⟩
      obtain ⟨H1, hH1⟩ : ∃ H1, H1 = upd H p (.lst [V.int own, V.int mix, V.int ((n : Int) + 1)]) := ⟨_, rfl⟩
      have hp1 : H1 p = some (.lst [V.int own, V.int mix, V.int ((n : Int) + 1)]) := by rw [hH1]; exact upd_same
      have kp1 : Keep p H H1 := by rw [hH1]; exact Keep.rfl'.upd
      refine Eq.mp (congrArg _ hH1) ?_
      -- the primes
      refine ⟨by show 5 ≤ sizeLine; decide, fun q hq => ?_⟩
      have npq : p ≠ q := ne_of_none hp1 hq
      have hp2 : (upd H1 q (.lst [V.int 2147483647, V.int 2147483629, V.int 2147483587, V.int 2147483579, V.int 2147483563])) p = some (.lst [V.int own, V.int mix, V.int ((n : Int) + 1)]) := by rw [upd_ne npq]; exact hp1
      refine ⟨_, rfl, p, _, _, _, rfl, rfl, SqL.of hp2, rfl, .inl ⟨_, rfl, _, _, rfl, rfl, by show (0 : Int) < 5; decide, ?_⟩⟩
      obtain ⟨v, hv, v0, v1⟩ := prime_at (((n : Int) + 1) % 5) (Int.emod_nonneg _ (by decide)) (Int.emod_lt_of_pos _ (by decide))
      refine ⟨q, _, _, _, rfl, rfl, SqL.of upd_same, hv, ?_⟩
      generalize hH2 : upd H1 q (.lst [V.int 2147483647, V.int 2147483629, V.int 2147483587, V.int 2147483579, V.int 2147483563]) = H2 at hp2 ⊢
      have kp2 : Keep p H H2 := by rw [← hH2]; exact kp1.new hq
      -- mixed
      refine ⟨_, rfl, p, _, _, _, rfl, rfl, SqL.of hp2, rfl, _, rfl, p, _, _, _, rfl, rfl, SqL.of hp2, rfl, _, _, rfl, rfl, .inl (by constructor <;> decide), _, rfl, p, _, _, _, rfl, rfl, SqL.of hp2, rfl, _, _, rfl, rfl, .inr (by constructor <;> omega), _, _, rfl, rfl, _, _, rfl, rfl, .inl ⟨_, rfl, ?_⟩⟩
      have b1 : 0 ≤ 100207 * ((n : Int) + 1) * ((n : Int) + 1) ∧ 100207 * ((n : Int) + 1) * ((n : Int) + 1) ≤ 100207 * 1000000 * 1000000 := by
        have h1 : 0 ≤ (n : Int) + 1 := by omega
        have h2 : (n : Int) + 1 ≤ 1000000 := by omega
        refine ⟨Int.mul_nonneg (Int.mul_nonneg (by decide) h1) h1, ?_⟩
        exact Int.mul_le_mul (Int.mul_le_mul_of_nonneg_left h2 (by decide)) h2 h1 (by decide)
      generalize hz : 100207 * ((n : Int) + 1) * ((n : Int) + 1) = z at b1 ⊢
      have b2 : 0 ≤ mix + z + 59 ∧ mix + z + 59 < 2 ^ 62 := by constructor <;> omega
      generalize mix + z + 59 = y at b2 ⊢
      refine ⟨_, _, rfl, rfl, ⟨by decide, ?_⟩, .inl ⟨_, rfl, ?_⟩⟩
      · have := bits62 b2.1 b2.2
        show ((Builtin.Int.intBits y : Nat) : Int) * 3 ≤ 2 ^ 27
        omega
      refine ⟨_, rfl, _, _, rfl, rfl, by omega, ?_⟩
      have b3 : 0 ≤ y ^ (3 : Int).toNat % v ∧ y ^ (3 : Int).toNat % v < 2147483648 := ⟨Int.emod_nonneg _ (by omega), Int.lt_of_lt_of_le (Int.emod_lt_of_pos _ (by omega)) (by omega)⟩
      refine ⟨_, rfl, _, rfl, .inl ⟨_, rfl, _, _, rfl, rfl, by show (0 : Int) < 10067; decide, _, rfl, p, _, _, _, rfl, rfl, SqL.of hp2, rfl, _, _, rfl, rfl, .inl (by constructor <;> decide), _, _, rfl, rfl, _, _, rfl, rfl, .inl (by constructor <;> omega), .inl ⟨_, rfl, _, _, rfl, rfl, (by decide : (0 : Int) < 2305843009213693907), ?_⟩⟩⟩
      refine ⟨_, rfl, _, _, rfl, rfl, wide_div (j := 127) (by decide) (b := 200) (by decide) (by decide) (by decide), .inl ⟨_, rfl, _, rfl, _, _, rfl, rfl, u0, ?_⟩⟩
      exact k _ (n + 1) _ (Int.emod_nonneg _ (by omega)) (Int.emod_lt_of_pos _ u0) (Nat.le_refl _) ⟨own, mix, hp2, o0, o1, m0, m1⟩ kp2
end
end TT

set_option Elab.async false
set_option linter.all false
set_option maxRecDepth 100000
set_option maxHeartbeats 4000000
namespace TT
open PySem PySem.Spec PyProof.Rows L2
def sp_l_of : Sp := fun vs H Q _ => ∃ (p a : Addr) (n : Nat) (xs : List V), vs = [.ref p, .ref a] ∧ Pot H p n ∧ n < 1000000 ∧ H a = some (.lst xs) ∧ a ≠ p ∧ 0 < xs.length ∧ xs.length ≤ 1000 ∧
  ∀ (v : V) (n' : Nat) (H' : Hp), v ∈ xs → n' ≤ n + 1 → Pot H' p n' → Keep p H H' → Q v H'
def sp_l_pot (K : PySem.W.Frag) : Sp := fun vs H Q _ => ∃ (a : Addr) (ns : List Int) (i : Int), vs = [.ref a, .int i] ∧ SqL K H a (ns.map V.int) ∧ ns.length ≤ 63 ∧ 0 ≤ i ∧ i < 100 ∧
  ∀ (p : Addr) (H' : Hp), H p = none → Same H H' → Pot H' p 0 → Q (.ref p) H'
theorem at_mem {xs : List V} {i : Int} (h0 : 0 ≤ i) (h : i < (xs.length : Int)) : ∃ v, atI xs i = some v ∧ v ∈ xs := by
  obtain ⟨j, rfl⟩ : ∃ j : Nat, i = (j : Int) := ⟨i.toNat, by omega⟩
  have hj : j < xs.length := by omega
  exact ⟨xs[j], atI_nat (List.getElem?_eq_getElem hj), List.getElem_mem hj⟩
theorem ite01 (b : Bool) : -(2 ^ 64) < (if b = true then (1 : Int) else 0) ∧ (if b = true then (1 : Int) else 0) < 2 ^ 64 := by cases b <;> constructor <;> decide
theorem share {T : Int → Prop} {G : Prop} (h : (∀ z, T z) → G) (t : ∀ z, T z) : G := h t
section
variable {P : Program} {w : World} {K : PySem.W.Frag} {mg : Str → Option Value} {base : Heap} {Z : Zs}
theorem ok_l_of (T : Txt K mg Z) : FnOk P w K mg base CX0 2 Z.f_l_of Z.d_l_of ["_law_pot_here", "_law_some"] sp_l_of := by
  refine T.F_l_of.ok sc_l_of (fun vs H Q E h => ?_) (fun cdv A outer s H vs Q E hr h => ?_)
  · obtain ⟨p, a, n, xs, rfl, _⟩ := h
    rfl
  · obtain ⟨p, a, n, xs, rfl, hp, hn, ha, hne, l0, l1, k⟩ := h
    refine ⟨_, (pss_one (ps_ret (pe_ix ix_list (pv 1) (pe_call (ok_l_take T) (hr.mono (by decide)) rfl T.g_l_take T.k_l_take T.bn_l_take .nil pass0 (pa_cons (pv 0) (pa_cons (pe_callB  call_len (by rfl) T.b_len (by decide +kernel) (pa_cons (pv 1) pa_nil)) pa_nil))) (fun _ _ => rfl)))), ?_⟩
    have big : (xs.length : Int) < 10 ^ 60 := by
      have : (1000 : Int) < 10 ^ 60 := by decide
      omega
    refine ⟨_, rfl, _, rfl, _, rfl, _, _, rfl, .inl ⟨_, SqL.of ha, rfl⟩, p, n, _, rfl, hp, hn, by omega, big, fun d n' H' d0 d1 hn' hp' kp => ?_⟩
    obtain ⟨v, hv, hm⟩ := at_mem d0 d1
    exact ⟨a, xs, d, v, rfl, rfl, SqL.of (kp _ _ hne ha), hv, k v n' H' hm hn' hp' kp⟩
theorem own_bound (x : Int) (b : Bool) : 0 ≤ x % ((10 : Int) ^ (60 : Int).toNat) ^ (5 : Int).toNat * (if b = true then 1 else 0) ∧ x % ((10 : Int) ^ (60 : Int).toNat) ^ (5 : Int).toNat * (if b = true then 1 else 0) < 10 ^ 300 := by
  have e : ((10 : Int) ^ (60 : Int).toNat) ^ (5 : Int).toNat = 10 ^ 300 := by decide
  rw [e]
  have h1 := Int.emod_nonneg x (b := 10 ^ 300) (by decide)
  have h2 := Int.emod_lt_of_pos x (b := 10 ^ 300) (by decide)
  cases b
  · simp only [Bool.false_eq_true, if_false, Int.mul_zero]
    exact ⟨Int.le_refl _, by decide⟩
  · simp only [if_true, Int.mul_one]
    exact ⟨h1, h2⟩
theorem ok_l_pot (T : Txt K mg Z) : FnOk P w K mg base CX0 1 Z.f_l_pot Z.d_l_pot ["_law_script", "_law_k"] (sp_l_pot K) := by
  refine T.F_l_pot.ok sc_l_pot (fun vs H Q E h => ?_) (fun cdv A outer s H vs Q E hr h => ?_)
  · obtain ⟨a, ns, i, rfl, _⟩ := h
    rfl
  · obtain ⟨a, ns, i, rfl, hS, hl, i0, i1, k⟩ := h
    refine ⟨_, (pss_cons (ps_set (i := 2) sc_l_pot.nd rfl (Or.inl rfl) (pe_ifExp (pt_cmpR op_lt (pv 1) (pe_callB  call_len (by rfl) T.b_len (by decide +kernel) (pa_cons (pv 0) pa_nil)) (nomark _)) (pe_ix ix_list (pv 0) (pv 1) (fun _ _ => rfl)) (pe_op op_add (pe_op op_mul pe_int (pv 1)) pe_int)))
      (pss_cons (ps_set (i := 3) sc_l_pot.nd rfl (Or.inl rfl) (pe_op op_mul (pe_op op_mod (pe_callTy call_int1 (by rfl) T.b_int (by decide +kernel) (pa_cons (pe_callB  call_abs (by rfl) T.b_abs (by decide +kernel) (pa_cons (pv 2) pa_nil)) pa_nil)) (pe_op op_powW (pe_op op_powW pe_int pe_int) pe_int)) (pe_callTy call_int1 (by rfl) T.b_int (by decide +kernel) (pa_cons (pe_cmpR op_ge (pe_callB  call_abs (by rfl) T.b_abs (by decide +kernel) (pa_cons (pv 2) pa_nil)) (pe_op op_powW pe_int pe_int) (nomark _)) pa_nil))))
      (pss_cons (ps_set (i := 4) sc_l_pot.nd rfl (Or.inl rfl) (pe_op op_mod (pe_callTy call_int1 (by rfl) T.b_int (by decide +kernel) (pa_cons (pv 2) pa_nil)) pe_int))
      (pss_one (ps_ret (pe_lst (pa_cons (pv 3) (pa_cons (pe_op op_mod (pe_callTy call_int1 (by rfl) T.b_int (by decide +kernel) (pa_cons (pe_op op_add (pe_op op_add (pe_op op_mul (pv 4) pe_int) (pe_op op_mul (pe_op op_mul pe_int (pv 1)) (pv 1))) pe_int) pa_nil)) pe_int) (pa_cons pe_int pa_nil))))))))), ?_⟩
    refine ⟨_, rfl, _, rfl, _, _, rfl, .inl ⟨_, hS, rfl⟩, _, _, rfl, rfl, _, rfl, ?_⟩
    rw [List.length_map]
    refine' share (fun tail => ite2 (fun c => ?b1) (fun c => ?b2)) ?b3
    case b1 =>
      have c' : i < (ns.length : Int) := of_decide_eq_true c
      obtain ⟨v, hv, hm⟩ := at_mem (xs := ns.map V.int) i0 (by rw [List.length_map]; exact c')
      obtain ⟨z, _, rfl⟩ := List.mem_map.mp hm
      exact ⟨_, rfl, _, rfl, a, _, _, _, rfl, rfl, hS, hv, tail z⟩
    case b2 => exact ⟨_, rfl, _, _, rfl, rfl, .inl (by constructor <;> decide), _, _, rfl, rfl, tail _⟩
    case b3 =>
      intro z
      refine ⟨_, rfl, _, rfl, .inl ⟨_, rfl, _, _, rfl, rfl, ⟨by decide, by decide +kernel⟩, _, _, rfl, rfl, ⟨by decide, by decide +kernel⟩, _, _, rfl, rfl, (by decide +kernel : (0 : Int) < ((10 : Int) ^ (60 : Int).toNat) ^ (5 : Int).toNat), ?_⟩⟩
      refine ⟨_, rfl, _, rfl, _, _, rfl, rfl, ⟨by decide, by decide +kernel⟩, _, _, rfl, rfl, .inr ⟨_, rfl, _, _, rfl, rfl, .inr (ite01 _), ?_⟩⟩
      have ob := own_bound (if z < 0 then -z else z) (decide ((10 : Int) ^ (18 : Int).toNat ≤ (if z < 0 then -z else z)))
      refine ⟨_, rfl, .inl ⟨_, rfl, _, _, rfl, rfl, by show (0 : Int) < 2305843009213693951; decide, ?_⟩⟩
      refine ⟨_, rfl, _, rfl, _, _, rfl, rfl, .inr (by constructor <;> decide), _, rfl, _, _, rfl, rfl, .inl (by constructor <;> decide), _, rfl, _, _, rfl, rfl, .inr (by constructor <;> omega), _, _, rfl, rfl, _, _, rfl, rfl, .inl ⟨_, rfl, _, _, rfl, rfl, by show (0 : Int) < 2305843009213693921; decide, ?_⟩⟩
      refine ⟨by show 3 ≤ sizeLine; decide, fun p hp => k p _ hp (Same.new (Same.refl H) hp) ⟨_, _, upd_same, ob.1, ob.2, Int.emod_nonneg _ (by decide), ?_⟩⟩
      exact Int.lt_trans (Int.emod_lt_of_pos _ (by decide)) (by decide)
end
end TT


namespace TT
open PySem PySem.Spec PyProof.Rows L2
theorem Pot.new {H : Hp} {p q : Addr} {n : Nat} {o : HO} (h : Pot H p n) (hq : H q = none) : Pot (upd H q o) p n := by
  obtain ⟨a, m, e, r⟩ := h
  exact ⟨a, m, by rw [upd_ne (ne_of_none e hq)]; exact e, r⟩
theorem free_of {H H' : Hp} {p q : Addr} {n m : Nat} (k : Keep p H H') (hp : Pot H p n) (hq : H' q = none) (hp' : Pot H' p m) : H q = none := by
  cases e : H q with
  | none => rfl
  | some o =>
    have ne : q ≠ p := by
      rintro rfl
      obtain ⟨_, _, z, _⟩ := hp'
      rw [hq] at z; cases z
    rw [k q o ne e] at hq
    cases hq
end TT

set_option Elab.async false
set_option linter.all false
set_option maxRecDepth 100000
set_option maxHeartbeats 4000000
namespace TT
open PySem PySem.Spec PyProof.Rows L2
/-! ### integers -/
/-- whether a value is an int and no bool -/
def Whole (K : PySem.W.Frag) (H : Hp) (x : V) (b : Bool) : Prop := ∃ (t : Value) (b1 b2 : Bool), TyX K H x t ∧ PySem.W.kitOne K t (.type "int") = some b1 ∧ PySem.W.kitOne K t (.type "bool") = some b2 ∧ (b1 && !b2) = b
theorem whole_int {K : PySem.W.Frag} {H : Hp} (i : Int) : Whole K H (.int i) true := ⟨_, true, false, .base (.int i), kit_ty (by decide +kernel), kit_ty (by decide +kernel), rfl⟩
def sp_is_whole (K : PySem.W.Frag) : Sp := fun vs H Q _ => ∃ (x : V) (b : Bool), vs = [x] ∧ Whole K H x b ∧ Q (.bl b) H
def sp_is_from (K : PySem.W.Frag) : Sp := fun vs H Q _ => (∃ v l : Int, vs = [.int v, .int l] ∧ Q (.bl (decide (l ≤ v))) H) ∨ ∃ x l : V, vs = [x, l] ∧ Whole K H x false ∧ Q (.bl false) H
def sp_is_between (K : PySem.W.Frag) : Sp := fun vs H Q _ => (∃ v l g : Int, vs = [.int v, .int l, .int g] ∧ Q (.bl (decide (l ≤ v) && decide (v ≤ g))) H) ∨ ∃ x l g : V, vs = [x, l, g] ∧ Whole K H x false ∧ Q (.bl false) H
theorem FnOk.or {P : Program} {w : World} {K : PySem.W.Frag} {mg : Str → Option Value} {base : Heap} {CX : CXT} {k : Nat} {f : Addr} {fd : FuncData} {ps : List Str} {sp sp' : Sp} (F : FnOk P w K mg base CX k f fd ps sp) (G : FnOk P w K mg base CX k f fd ps sp') :
    FnOk P w K mg base CX k f fd ps (fun vs H Q E => sp vs H Q E ∨ sp' vs H Q E) :=
  ⟨fun vs H Q E h => h.elim (F.len _ _ _ _) (G.len _ _ _ _), fun A outer s H args us vs Q E r e b v h => h.elim (F.run A outer s H args us vs Q E r e b v) (G.run A outer s H args us vs Q E r e b v)⟩
section
variable {P : Program} {w : World} {K : PySem.W.Frag} {mg : Str → Option Value} {base : Heap} {Z : Zs}
theorem ok_is_whole (T : Txt K mg Z) : FnOk P w K mg base CX0 1 Z.f_is_whole Z.d_is_whole ["value"] (sp_is_whole K) := by
  refine T.F_is_whole.ok sc_is_whole (fun vs H Q E h => ?_) (fun cdv A outer s H vs Q E hr h => ?_)
  · obtain ⟨x, b, rfl, _⟩ := h
    rfl
  · obtain ⟨x, b, rfl, ⟨t, b1, b2, ty, e1, e2, e3⟩, k⟩ := h
    refine ⟨_, (pss_one (ps_ret (pe_and (pe_callB  call_isi (by rfl) T.b_isinstance (by decide +kernel) (pa_cons (pv 0) (pa_cons (pe_bltn (v := .ty "int") rfl T.b_int (by decide +kernel) rfl) pa_nil))) (pe_one (pe_not (pe_callB  call_isi (by rfl) T.b_isinstance (by decide +kernel) (pa_cons (pv 0) (pa_cons (pe_bltn (v := .ty "bool") rfl T.b_bool (by decide +kernel) rfl) pa_nil)))))))), ?_⟩
    refine ⟨_, rfl, _, _, t, _, b1, rfl, .ty "int", ty, e1, _, rfl, ?_⟩
    subst e3
    cases b1 with
    | true => exact iteT ⟨_, rfl, _, _, t, _, b2, rfl, .ty "bool", ty, e2, _, rfl, k⟩
    | false => exact iteF k
theorem ok_is_from (T : Txt K mg Z) : FnOk P w K mg base CX0 2 Z.f_is_from Z.d_is_from ["value", "least"] (sp_is_from K) := by
  refine T.F_is_from.ok sc_is_from (fun vs H Q E h => ?_) (fun cdv A outer s H vs Q E hr h => ?_)
  · rcases h with ⟨v, l, rfl, _⟩ | ⟨x, l, rfl, _⟩ <;> rfl
  · rcases h with ⟨v, l, rfl, k⟩ | ⟨x, l, rfl, hw, k⟩
    · refine ⟨_, (pss_one (ps_ret (pe_and (pe_call (ok_is_whole T) (hr.mono (by decide)) rfl T.g_is_whole T.k_is_whole T.bn_is_whole .nil pass0 (pa_cons (pv 0) pa_nil)) (pe_one (pe_cmpR op_ge (pv 0) (pv 1) (nomark _)))))), ?_⟩
      exact ⟨_, rfl, _, true, rfl, whole_int v, true, rfl, iteT ⟨_, rfl, _, rfl, _, _, rfl, rfl, k⟩⟩
    · refine ⟨_, (pss_one (ps_ret (pe_and (pe_call (ok_is_whole T) (hr.mono (by decide)) rfl T.g_is_whole T.k_is_whole T.bn_is_whole .nil pass0 (pa_cons (pv 0) pa_nil)) (pe_one (pe_cmpR op_ge (pv 0) (pv 1) (nomark _)))))), ?_⟩
      exact ⟨_, rfl, _, false, rfl, hw, false, rfl, iteF k⟩
theorem ok_is_between (T : Txt K mg Z) : FnOk P w K mg base CX0 3 Z.f_is_between Z.d_is_between ["value", "least", "greatest"] (sp_is_between K) := by
  refine T.F_is_between.ok sc_is_between (fun vs H Q E h => ?_) (fun cdv A outer s H vs Q E hr h => ?_)
  · rcases h with ⟨v, l, g, rfl, _⟩ | ⟨x, l, g, rfl, _⟩ <;> rfl
  · rcases h with ⟨v, l, g, rfl, k⟩ | ⟨x, l, g, rfl, hw, k⟩
    · refine ⟨_, (pss_one (ps_ret (pe_and (pe_call (ok_is_from T) (hr.mono (by decide)) rfl T.g_is_from T.k_is_from T.bn_is_from .nil pass0 (pa_cons (pv 0) (pa_cons (pv 1) pa_nil))) (pe_one (pe_cmpR op_le (pv 0) (pv 2) (nomark _)))))), ?_⟩
      refine ⟨_, rfl, _, rfl, .inl ⟨v, l, rfl, _, rfl, ?_⟩⟩
      cases e : decide (l ≤ v) with
      | true =>
        rw [e] at k
        exact iteT ⟨_, rfl, _, rfl, _, _, rfl, rfl, k⟩
      | false =>
        rw [e] at k
        exact iteF k
    · refine ⟨_, (pss_one (ps_ret (pe_and (pe_call (ok_is_from T) (hr.mono (by decide)) rfl T.g_is_from T.k_is_from T.bn_is_from .nil pass0 (pa_cons (pv 0) (pa_cons (pv 1) pa_nil))) (pe_one (pe_cmpR op_le (pv 0) (pv 2) (nomark _)))))), ?_⟩
      exact ⟨_, rfl, _, rfl, .inr ⟨x, l, rfl, hw, false, rfl, iteF k⟩⟩
end
end TT


namespace TT
open PySem PySem.Spec PyProof.Rows L2
/-! ### the errors are made -/
/-- in a dict of its own, that was not there -/
def sp_E_init (K : PySem.W.Frag) (Z : Zs) : Sp := fun vs H Q _ => ∃ (a C : Addr) (v : V), vs = [.ref a, v] ∧ H a = some (exo a C none) ∧ ExcT K (Z.c 4) Z.f_E_init C ∧
  ∀ (d : Addr) (H' : Hp), Keep a H H' → H d = none → H' a = some (exo a C (some d)) → H' d = some (exd d [("value", v)]) → Q .non H'
/-- what a def lets out: C of v -/
def Out (E : XK) (C : Addr) (v : V) (H : Hp) : Prop := ∀ (d : Addr) (H' : Hp), Same H H' → H d = none → H' d = some (.xd [("value", v)]) → E (.ref C) (some d) H'
section
variable {P : Program} {w : World} {K : PySem.W.Frag} {mg : Str → Option Value} {base : Heap} {Z : Zs}
theorem ok_E_init (T : Txt K mg Z) : FnOk P w K mg base CX0 1 Z.f_E_init Z.d_E_init ["self", "value"] (sp_E_init K Z) := by
  refine T.F_E_init.ok sc_E_init (fun vs H Q E h => ?_) (fun cdv A outer s H vs Q E hr h => ?_)
  · obtain ⟨a, C, v, rfl, _⟩ := h
    rfl
  · obtain ⟨a, C, v, rfl, ha, X, k⟩ := h
    refine ⟨_, (pss_cons (ps_expr (pe_veinit rfl T.b_ValueError T.z_ve (pa_cons (pv 0) (pa_cons (pv 1) pa_nil))))
      (pss_one (ps_ost (pv 0) (pv 1)))), ?_⟩
    refine ⟨_, rfl, _, rfl, a, C, [v], rfl, by show 1 ≤ 1000; decide, X.ox, ha, ?_⟩
    refine ⟨_, rfl, _, rfl, a, C, rfl, X.ox, X.nv, .inl ⟨ha, fun d hd hne => ?_⟩⟩
    refine k d _ (fun b o n e => ?_) hd upd_same ?_
    · rw [upd_ne n, upd_ne (ne_of_none e hd)]
      exact e
    · rw [upd_ne hne]
      exact upd_same
/-- raise C(x): what its reading asks -/
theorem mkR {C : Addr} {x : V} {E : XK} {H : Hp} (T : ExcT K (Z.c 4) Z.f_E_init C) (h : Out E C x H) :
    ([x] : List V).length ≤ 1000 ∧ ∀ a, H a = none → sp_E_init K Z (.ref a :: ([x] ++ [])) (upd H a (exo a C none))
      (fun v H2 => v = .non ∧ ∃ (d : Addr) (fs : List (Str × V)), H2 a = some (exo a C (some d)) ∧ H2 d = some (exd d fs) ∧ H d = none ∧ E (.ref C) (some d) (upd (del H2 a) d (.xd fs))) (fun _ _ _ => False) := by
  refine ⟨by show 1 ≤ 1000; decide, fun a ha => ⟨a, C, x, rfl, upd_same, T, fun d H' k hd e1 e2 => ⟨rfl, d, _, e1, e2, ?_, ?_⟩⟩⟩
  · by_cases c : d = a
    · rw [c]; exact ha
    · rw [upd_ne c] at hd; exact hd
  · have nd : d ≠ a := by
      rintro rfl
      rw [upd_same] at hd
      cases hd
    rw [upd_ne nd] at hd
    refine h d _ (fun b o e => ?_) hd upd_same
    have nb := ne_of_none e ha
    rw [upd_ne (ne_of_none e hd), del_ne nb]
    exact k b o nb (by rw [upd_ne nb]; exact e)
/-- caught as a TuneError, it stands behind the suite -/
theorem Out.met {C : Addr} {v : V} {H : Hp} {G : VK} (T : ExcT K (Z.c 4) Z.f_E_init C) (Te : ExcT K (Z.c 4) Z.f_E_init (Z.c 4)) (h : ∀ a H', Same H H' → Met H' a C [("value", v)] → G (.ref a) H') :
    Out (fun cls d H' => PySem.W.exmOne K cls (.ref (Z.c 4)) = some true ∧ ∀ a, H' a = none → G (.ref a) (upd H' a (exk a cls d))) C v H := fun d H' s hd e => by
  refine ⟨T.exm Te, fun a ha => h a _ (fun b o z => ?_) ⟨d, upd_same, ?_⟩⟩
  · rw [upd_ne (ne_of_none (s _ _ z) ha)]; exact s _ _ z
  · rw [upd_ne (ne_of_none e ha)]; exact e
end
section
variable {P : Program} {w : World} {K : PySem.W.Frag} {mg : Str → Option Value} {base : Heap} {Z : Zs} {k : Nat}
end
end TT


namespace TT
open PySem PySem.Spec PyProof.Rows L2
/-- v is an int i, or none -/
inductive IsI (K : PySem.W.Frag) (H : Hp) : V → Option Int → Prop
  | int (i : Int) : IsI K H (.int i) (some i)
  | no {v : V} (h : Whole K H v false) : IsI K H v none
section
variable {P : Program} {w : World} {K : PySem.W.Frag} {mg : Str → Option Value} {base : Heap} {Z : Zs}
end
end TT


namespace TT
open PySem PySem.Spec PyProof.Rows L2
theorem Same.fresh {H H' : Hp} {q : Addr} (s : Same H H') (n : H' q = none) : H q = none := by
  cases h : H q with
  | none => rfl
  | some o => rw [s _ _ h] at n; cases n
theorem Same.updN {H H1 : Hp} {q : Addr} {o : HO} (s : Same H H1) (n : H q = none) : Same H (L2.upd H1 q o) := fun b u e => by
  rw [upd_ne (ne_of_none e n)]
  exact s _ _ e
end TT

namespace TT
open PySem PySem.Spec PyProof.Rows L2 LamX NdefX
/-! ### heaps in which tables may have grown, and the pot drawn from -/
/-- all but the pot and the tables stays -/
def KeepN (p : Addr) (H H' : Hp) : Prop := ∀ b o, b ≠ p → H b = some o → (∀ ps, o ≠ .tbl ps) → H' b = some o
theorem KeepN.of {p : Addr} {H H' : Hp} (k : Keep p H H') : KeepN p H H' := fun b o n e _ => k b o n e
theorem KeepN.then {p : Addr} {H H1 H2 : Hp} (a : KeepN p H H1) (b : KeepN p H1 H2) : KeepN p H H2 := fun c o n e t => b c o n (a c o n e t) t
theorem KeepN.ext {p : Addr} {H H1 : Hp} (e : ExtN H H1) : KeepN p H H1 := fun c o _ h t => e c o h t
theorem TabsN.keep {p : Addr} {n : Nat} {T : List NTab} {H H' : Hp} (k : Keep p H H') (hp : Pot H p n) (t : TabsN T H) : TabsN T H' := fun q hq => by
  obtain ⟨own, mix, hpp, _⟩ := hp
  obtain ⟨ps, h1, h2, h3⟩ := t q hq
  refine ⟨ps, k _ _ (ne_of h1 hpp fun z => by cases z) h1, h2, fun pos cv hc => ?_⟩
  obtain ⟨c, e1, e2⟩ := h3 pos cv hc
  exact ⟨c, e1, k _ _ (ne_of e2 hpp fun z => by unfold CodeO at z; cases z) e2⟩
/-- a list's object is written: the tables stay -/
theorem TabsN.lst {T : List NTab} {H : Hp} {D : Addr} {xs : List V} {o : HO} (hD : H D = some (.lst xs)) (t : TabsN T H) : TabsN T (upd H D o) := fun q hq => by
  obtain ⟨ps, h1, h2, h3⟩ := t q hq
  refine ⟨ps, by rw [upd_ne (ne_of h1 hD fun z => by cases z)]; exact h1, h2, fun pos cv hc => ?_⟩
  obtain ⟨c, e1, e2⟩ := h3 pos cv hc
  exact ⟨c, e1, by rw [upd_ne (ne_of e2 hD fun z => by unfold CodeO at z; cases z)]; exact e2⟩
theorem Pot.extN {H H' : Hp} {p : Addr} {n : Nat} (e : ExtN H H') (hp : Pot H p n) : Pot H' p n := by
  obtain ⟨own, mix, h, r⟩ := hp
  exact ⟨own, mix, e _ _ h (fun ps z => nomatch z), r⟩
theorem shareT {T : Addr → Hp → Prop} {G : Prop} (C : Addr → Hp → Prop) (h : (∀ q H, C q H → T q H) → G) (t : ∀ q H, C q H → T q H) : G := h t
theorem shareB {T : Bool → Prop} {G : Prop} (C : Bool → Prop) (h : (∀ b, C b → T b) → G) (t : ∀ b, C b → T b) : G := h t
theorem Pot.off {H : Hp} {p q : Addr} {n : Nat} {o : HO} (hp : Pot H p n) (hq : H q = some o) (h : ∀ xs, o ≠ .lst xs) : q ≠ p := by
  rintro rfl
  obtain ⟨a, m, e, _⟩ := hp
  rw [hq] at e
  exact h _ (Option.some.inj e)
theorem rg_mem {a b : Int} {x : V} (h : x ∈ rgV a b) : ∃ z : Int, x = .int z ∧ a ≤ z ∧ z < b := by
  unfold rgV at h
  obtain ⟨j, hj, rfl⟩ := List.mem_map.mp h
  have := List.mem_range.mp hj
  exact ⟨a + (j : Int), rfl, by omega, by omega⟩
/-- the error that is met, since H -/
def Caught (H : Hp) (C : Addr) (v : V) : VK := fun u H2 => ∃ a, u = V.ref a ∧ Same H H2 ∧ Met H2 a C [("value", v)]
/-- what look's reading is asked, so that met_error gives G -/
def met (K : PySem.W.Frag) (CE : Addr) (tl : XK → Hp → VK → Prop) (H : Hp) (G : VK) : Prop := tl (fun cls dd H' => PySem.W.exmOne K cls (.ref CE) = some true ∧ ∀ a, H' a = none → G (.ref a) (upd H' a (exk a cls dd))) H (fun _ H' => G .non H')
end TT


set_option Elab.async false
set_option linter.all false
set_option maxRecDepth 100000
set_option maxHeartbeats 4000000
namespace TT
open PySem PySem.Spec PyProof.Rows L2
theorem Pot.ne {H : Hp} {p q : Addr} {n : Nat} (hp : Pot H p n) (hq : H q = none) : p ≠ q := by
  obtain ⟨_, _, e, _⟩ := hp
  exact ne_of_none e hq
theorem Pot.same {H H' : Hp} {p : Addr} {n : Nat} (hp : Pot H p n) (s : Same H H') : Pot H' p n := by
  obtain ⟨a, m, e, r⟩ := hp
  exact ⟨a, m, s _ _ e, r⟩
theorem Keep.same {H H' H2 : Hp} {p : Addr} (k : Keep p H H') (s : Same H' H2) : Keep p H H2 := fun b o n e => s _ _ (k b o n e)
/-! ### odd things -/
inductive Fl : V → PyData → Prop
  | non : Fl .non .none
  | bl (b : Bool) : Fl (.bl b) (.bool b)
  | int (i : Int) : Fl (.int i) (.int i)
  | str (x : Str) : Fl (.str x) (.str x)
inductive Fls : List V → List PyData → Prop
  | nil : Fls [] []
  | cons {v : V} {d : PyData} {vs : List V} {ds : List PyData} (h : Fl v d) (t : Fls vs ds) : Fls (v :: vs) (d :: ds)
/-- v stands for d, in things other than the pot -/
inductive Odd (p : Addr) (H : Hp) : V → PyData → Prop
  | fl {v : V} {d : PyData} (h : Fl v d) : Odd p H v d
  | t {a : Addr} {xs : List V} {ds : List PyData} (n : a ≠ p) (h : H a = some (.tup xs)) (f : Fls xs ds) : Odd p H (.ref a) (.tuple ds)
  | l {a : Addr} {xs : List V} {ds : List PyData} (n : a ≠ p) (h : H a = some (.lst xs)) (f : Fls xs ds) : Odd p H (.ref a) (.list ds)
  | tt {a b : Addr} (n : a ≠ p) (m : b ≠ p) (h : H a = some (.tup [.ref b])) (h2 : H b = some (.tup [])) : Odd p H (.ref a) (.tuple [.tuple []])
  | d0 {a : Addr} (n : a ≠ p) (h : H a = some (.dK [])) : Odd p H (.ref a) (.dict [])
  | d1 {a : Addr} {k : Str} {i : Int} (n : a ≠ p) (h : H a = some (.dK [(.inr k, .int i)])) : Odd p H (.ref a) (.dict [(.str k, .int i)])
theorem Odd.keep {p : Addr} {H H' : Hp} {v : V} {d : PyData} (k : Keep p H H') (o : Odd p H v d) : Odd p H' v d := by
  cases o with
  | fl h => exact .fl h
  | t n h f => exact .t n (k _ _ n h) f
  | l n h f => exact .l n (k _ _ n h) f
  | tt n m h h2 => exact .tt n m (k _ _ n h) (k _ _ m h2)
  | d0 n h => exact .d0 n (k _ _ n h)
  | d1 n h => exact .d1 n (k _ _ n h)
def menu : List PyData := [.none, .bool true, .bool false, .int (-1), .str "", .str "0", .str "up", .str "back", .tuple [], .list [], .dict [], .tuple [.tuple []], .tuple [.int 0], .list [.int 0], .tuple [.int 0, .int 1], .str "0 1 1 up 0", .str "tie",
  .tuple [.bool true], .list [.str "0"], .dict [(.str "a", .int 0)], .str "size 1", .tuple [.str "down", .int 1]]
/-- all that repr wants of it, alone and thirty times in a list -/
def fine (d : PyData) : Bool := d.showable && decide (d.depth ≤ 60) && decide (d.shown.length ≤ 1000) && (PyData.list (List.replicate 30 d)).showable && decide ((PyData.list (List.replicate 30 d)).depth ≤ 60) && decide ((PyData.list (List.replicate 30 d)).shown.length ≤ 100000)
theorem menu_fine : menu.all fine = true := by decide +kernel
section
variable {P : Program} {w : World} {K : PySem.W.Frag} {mg : Str → Option Value} {base : Heap} {Z : Zs}
end
end TT

set_option Elab.async false
set_option linter.all false
set_option maxRecDepth 100000
set_option maxHeartbeats 4000000
namespace TT
open PySem PySem.Spec PyProof.Rows L2
/-! ### the texts of rows -/
theorem shown_int (i : Int) : (PyData.int i).shown = Str.ofString (toString i) := by simp [PyData.shown]
theorem bool_len (b : Bool) : ((PyData.bool b).shown).length ≤ 5 := by cases b <;> simp [PyData.shown] <;> decide
theorem int_len64 {i : Int} (h0 : -(10 ^ 64) < i) (h1 : i < 10 ^ 64) : (Str.ofString (toString i)).length ≤ 65 := by
  have h := PySem.int_text_length_le10 (a := i) (k := 64) (by decide) (by
    have e : ((10 ^ 64 : Nat) : Int) = 10 ^ 64 := by decide +kernel
    omega)
  rw [PySem.ofString_length]
  omega
theorem int_ok64 {i : Int} (h0 : -(10 ^ 64) < i) (h1 : i < 10 ^ 64) : (PyData.int i).showable = true := by
  have h : i.natAbs.log2 < 1920 := PySem.Flt.log2_lt_of (by decide) (by
    have : (10 : Int) ^ 64 < 2 ^ 1920 := by decide +kernel
    omega)
  simpa [PyData.showable] using h
/-! ### told back -/
end TT


namespace TT
open PySem PySem.Spec PyProof.Rows L2 LamX
/-! ### odd things: whether they are ints; their texts -/
def isInt : V → Option Int
  | .int i => some i
  | _ => none
theorem whole_non {K : PySem.W.Frag} {H : Hp} : Whole K H .non false := ⟨_, false, false, .base .non, kit_ty (by decide +kernel), kit_ty (by decide +kernel), rfl⟩
theorem whole_bl {K : PySem.W.Frag} {H : Hp} (b : Bool) : Whole K H (.bl b) false := ⟨_, true, true, .base (.bl b), kit_ty (by decide +kernel), kit_ty (by decide +kernel), rfl⟩
theorem whole_str {K : PySem.W.Frag} {H : Hp} (x : Str) : Whole K H (.str x) false := ⟨_, false, false, .base (.str x), kit_ty (by decide +kernel), kit_ty (by decide +kernel), rfl⟩
theorem whole_tup {K : PySem.W.Frag} {H : Hp} {a : Addr} {xs : List V} (h : H a = some (.tup xs)) : Whole K H (.ref a) false := ⟨_, false, false, .base (.tup h), kit_ty (by decide +kernel), kit_ty (by decide +kernel), rfl⟩
theorem whole_lst {K : PySem.W.Frag} {H : Hp} {a : Addr} {xs : List V} (h : H a = some (.lst xs)) : Whole K H (.ref a) false := ⟨_, false, false, .base (.lst h), kit_ty (by decide +kernel), kit_ty (by decide +kernel), rfl⟩
theorem whole_dK {K : PySem.W.Frag} {H : Hp} {a : Addr} {kvs : List (Key × V)} (h : H a = some (.dK kvs)) : Whole K H (.ref a) false := ⟨_, false, false, .base (.dK h), kit_ty (by decide +kernel), kit_ty (by decide +kernel), rfl⟩
theorem Odd.isI {K : PySem.W.Frag} {p : Addr} {H : Hp} {v : V} {d : PyData} (o : Odd p H v d) : IsI K H v (isInt v) := by
  cases o with
  | fl h =>
    cases h with
    | non => exact .no whole_non
    | bl b => exact .no (whole_bl b)
    | int i => exact .int i
    | str x => exact .no (whole_str x)
  | t n h f => exact .no (whole_tup h)
  | l n h f => exact .no (whole_lst h)
  | tt n m h h2 => exact .no (whole_tup h)
  | d0 n h => exact .no (whole_dK h)
  | d1 n h => exact .no (whole_dK h)
theorem IsI.whole {K : PySem.W.Frag} {H : Hp} {v : V} {o : Option Int} (h : IsI K H v o) : Whole K H v o.isSome := by
  cases h with
  | int i => exact whole_int i
  | no h => exact h
/-- what repr wants -/
structure Shown (d : PyData) : Prop where
  ok : d.showable = true
  dep : d.depth ≤ 60
  len : d.shown.length ≤ sizeLine
theorem shown_menu {d : PyData} (h : d ∈ menu) : Shown d := by
  have hf := List.all_eq_true.mp menu_fine d h
  unfold fine at hf
  simp only [Bool.and_eq_true, decide_eq_true_eq] at hf
  have sl : sizeLine = 16777216 := sizeLine_eq
  obtain ⟨⟨⟨⟨⟨f1, f2⟩, f3⟩, f4⟩, f5⟩, f6⟩ := hf
  exact ⟨f1, f2, by omega⟩
theorem shown_i {i : Int} (h0 : -(10 ^ 64) < i) (h1 : i < 10 ^ 64) : Shown (.int i) := by
  refine ⟨int_ok64 h0 h1, by simp [PyData.depth], ?_⟩
  rw [shown_int]
  have := int_len64 h0 h1
  have sl : sizeLine = 16777216 := sizeLine_eq
  omega
theorem shown_os {x : String} (h : x.length ≤ 1000) : Shown (.str (Str.ofString x)) := by
  have sl : sizeLine = 16777216 := sizeLine_eq
  refine ⟨by simp [PyData.showable], by simp [PyData.depth], ?_⟩
  have b : (PyData.str (Str.ofString x)).leavesShort 13 = true := by
    simp only [PyData.leavesShort, List.all_eq_true, decide_eq_true_eq]
    intro c hc
    rw [Str.ofString_eq_toList] at hc
    simp only [List.toList_toArray, List.mem_map] at hc
    obtain ⟨ch, _, rfl⟩ := hc
    have h1 : ch.toNat < 1114112 := by
      have := ch.valid
      unfold UInt32.isValidChar Nat.isValidChar at this
      show ch.val.toNat < 1114112
      omega
    omega
  have q := PyData.shown_le 13 (by decide) _ b
  have w : (PyData.str (Str.ofString x)).weight ≤ 1000 := by
    show (Str.ofString x).length ≤ 1000
    rw [PySem.ofString_length]
    exact h
  omega
theorem dig_len {n : Int} (h0 : 0 ≤ n) (h1 : n < 10 ^ 64) : (toString n : String).length ≤ 1000 := by
  have h := int_len64 (i := n) (by have : (0 : Int) < 10 ^ 64 := by decide +kernel
                                   omega) h1
  rw [PySem.ofString_length] at h
  omega
theorem shown_t1 {i : Int} (h0 : -(10 ^ 64) < i) (h1 : i < 10 ^ 64) : Shown (.tuple [.int i]) := by
  have s := shown_i h0 h1
  refine ⟨?_, ?_, ?_⟩
  · have := s.ok
    simp only [PyData.showable, PyData.showableAll, Bool.and_true] at this ⊢
    exact this
  · simp [PyData.depth, PyData.depthAll]
  · have l := int_len64 h0 h1
    have j := tupleText_len_le [(PyData.int i).shown]
    rw [PyData.shown]
    simp only [PyData.shownAll]
    rw [shown_int] at j ⊢
    simp only [List.map_cons, List.map_nil, List.sum_cons, List.sum_nil, List.length_cons, List.length_nil] at j
    have sl : sizeLine = 16777216 := sizeLine_eq
    omega
theorem isInt_some {v : V} {i : Int} (h : isInt v = some i) : v = .int i := by
  cases v <;> simp [isInt] at h
  rw [h]
theorem all_rep (n : Nat) : (List.replicate n true).all id = true := by simp
theorem ExtN.keep {p : Addr} {H H' : Hp} (h : ∀ b o, b ≠ p → H b = some o → (∀ ps, o ≠ .tbl ps) → H' b = some o) {v : V} {d : PyData} (o : Odd p H v d) : Odd p H' v d := by
  cases o with
  | fl h => exact .fl h
  | t n e f => exact .t n (h _ _ n e fun _ z => by cases z) f
  | l n e f => exact .l n (h _ _ n e fun _ z => by cases z) f
  | tt n m e e2 => exact .tt n m (h _ _ n e fun _ z => by cases z) (h _ _ m e2 fun _ z => by cases z)
  | d0 n e => exact .d0 n (h _ _ n e fun _ z => by cases z)
  | d1 n e => exact .d1 n (h _ _ n e fun _ z => by cases z)
theorem Odd.extN {p : Addr} {H H' : Hp} (h : ExtN H H') {v : V} {d : PyData} (o : Odd p H v d) : Odd p H' v d := ExtN.keep (fun b u _ e n => h b u e n) o
/-- repr of an odd thing -/
theorem fls_dp {K : PySem.W.Frag} {H : Hp} {vs : List V} {ds : List PyData} (f : Fls vs ds) : DpAll K H vs ds ∧ PyData.hasDictAll ds = false := by
  induction f with
  | nil => exact ⟨.nil, by simp [PyData.hasDictAll]⟩
  | cons h t ih =>
    refine ⟨.cons (by cases h <;> constructor) ih.1, ?_⟩
    cases h <;> simp [PyData.hasDictAll, PyData.hasDict, ih.2]
theorem Odd.dp {K : PySem.W.Frag} {p : Addr} {H : Hp} {v : V} {d : PyData} (o : Odd p H v d) : DpD K H v d := by
  cases o with
  | fl h => exact .dp (by cases h <;> constructor) (by cases h <;> simp [PyData.hasDict])
  | t n h f => exact .dp (.tup (SqT.of h) (fls_dp f).1) (by simp only [PyData.hasDict]; exact (fls_dp (K := K) (H := H) f).2)
  | l n h f => exact .dp (.lst (SqL.of h) (fls_dp f).1) (by simp only [PyData.hasDict]; exact (fls_dp (K := K) (H := H) f).2)
  | tt n m h h2 => exact .tt h h2
  | d0 n h => exact .d0 h
  | d1 n h => exact .d1 h
end TT

set_option maxHeartbeats 4000000
namespace TT
open PySem PySem.Spec PyProof.Rows L2 LamX TL
/-! ### pieces of a melody -/
inductive Pc where
  | new (l : Int)
  | notes (l x : Int)
  | copy (f l a : Int) (d b : Bool)
def Pc.len : Pc → Int
  | .new l => l
  | .notes l _ => l
  | .copy _ l _ _ _ => l
def Pc.fresh : Pc → Int
  | .new l => l
  | _ => 0
/-- a piece that can begin at the place h -/
def Pc.OkAt (h : Int) : Pc → Prop
  | .new l => 1 ≤ l
  | .notes l x => 1 ≤ l ∧ -(10 ^ 12) ≤ x ∧ x ≤ 10 ^ 12
  | .copy f l a _ b => 0 ≤ f ∧ f < h ∧ 1 ≤ l ∧ -(10 ^ 12) ≤ a ∧ a ≤ 10 ^ 12 ∧ (b = true → f + l ≤ h)
theorem Pc.OkAt.pos {h : Int} {p : Pc} (o : p.OkAt h) : 1 ≤ p.len := by
  cases p with
  | new l => exact o
  | notes l x => exact o.1
  | copy f l a d b => exact o.2.2.1
def pre (ps : List Pc) (i : Nat) : Int := ((ps.take i).map Pc.len).sum
def aheadN (ps : List Pc) (i : Nat) : Int := ((ps.take i).map Pc.fresh).sum
theorem pre_zero (ps : List Pc) : pre ps 0 = 0 := rfl
theorem ahead_zero (ps : List Pc) : aheadN ps 0 = 0 := rfl
theorem take_next {α : Type} {l : List α} {i : Nat} {x : α} (h : l[i]? = some x) : l.take (i + 1) = l.take i ++ [x] := by
  rw [List.take_add_one, h]
  rfl
theorem sum_app (xs ys : List Int) : (xs ++ ys).sum = xs.sum + ys.sum := by
  induction xs with
  | nil => simp
  | cons a t ih => rw [List.cons_append, List.sum_cons, List.sum_cons, ih]; omega
theorem pre_succ {ps : List Pc} {i : Nat} {p : Pc} (h : ps[i]? = some p) : pre ps (i + 1) = pre ps i + p.len := by
  unfold pre
  rw [take_next h, List.map_append, sum_app]
  simp
theorem ahead_succ {ps : List Pc} {i : Nat} {p : Pc} (h : ps[i]? = some p) : aheadN ps (i + 1) = aheadN ps i + p.fresh := by
  unfold aheadN
  rw [take_next h, List.map_append, sum_app]
  simp
def Fits (ps : List Pc) : Prop := ∀ (i : Nat) (p : Pc), ps[i]? = some p → p.OkAt (pre ps i)
structure PsOk (ps : List Pc) : Prop where
  at_ : Fits ps
  n1 : 1 ≤ ps.length
  n8 : ps.length ≤ 1000
  sz : pre ps ps.length ≤ 10 ^ 30
theorem pre_lt {ps : List Pc} (ok : Fits ps) : ∀ {j i : Nat}, j < i → i ≤ ps.length → pre ps j < pre ps i
  | _, 0, h, _ => absurd h (Nat.not_lt_zero _)
  | j, i + 1, h, hi => by
    obtain ⟨p, hp⟩ : ∃ p, ps[i]? = some p := ⟨_, List.getElem?_eq_getElem (by omega)⟩
    have e := pre_succ hp
    have := (ok i p hp).pos
    rcases Nat.lt_or_ge j i with c | c
    · have := pre_lt ok c (by omega)
      omega
    · have : j = i := by omega
      subst this
      omega
theorem pre_le {ps : List Pc} (ok : Fits ps) {j i : Nat} (h : j ≤ i) (hi : i ≤ ps.length) : pre ps j ≤ pre ps i := by
  rcases Nat.lt_or_ge j i with c | c
  · exact Int.le_of_lt (pre_lt ok c hi)
  · rw [Nat.le_antisymm h c]
    exact Int.le_refl _
theorem pre_nn {ps : List Pc} (ok : Fits ps) {i : Nat} (hi : i ≤ ps.length) : 0 ≤ pre ps i := pre_le ok (Nat.zero_le i) hi
/-- a place lies in one piece alone -/
theorem loc_uniq {ps : List Pc} (ok : Fits ps) {i j : Nat} {k : Int} (hi : i < ps.length) (hj : j < ps.length) (a : pre ps i ≤ k) (b : k < pre ps (i + 1)) (c : pre ps j ≤ k) (d : k < pre ps (j + 1)) : i = j := by
  rcases Nat.lt_trichotomy i j with h | h | h
  · have := pre_le ok (show i + 1 ≤ j by omega) (by omega)
    omega
  · exact h
  · have := pre_le ok (show j + 1 ≤ i by omega) (by omega)
    omega
/-! what stands at a place -/
inductive Ent where
  | told (x : Int)
  | rel (dn : Bool) (k c : Int)
def ledI (a : Int) (d : Bool) (x : Int) : Int := if d = true then a - x else a + x
def act (a : Int) (d : Bool) : Ent → Ent
  | .told x => .told (ledI a d x)
  | .rel dn k c => .rel (dn != d) k (ledI a d c)
theorem ledI_twice (a b : Int) (d e : Bool) (x : Int) : ledI b e (ledI a d x) = ledI (ledI b e a) (d != e) x := by
  unfold ledI
  cases d <;> cases e <;> simp <;> omega
theorem act_act (a b : Int) (d e : Bool) (x : Ent) : act b e (act a d x) = act (ledI b e a) (d != e) x := by
  cases x with
  | told x => exact congrArg Ent.told (ledI_twice a b d e x)
  | rel dn k c =>
    show Ent.rel ((dn != d) != e) k _ = Ent.rel (dn != (d != e)) k _
    rw [ledI_twice]
    congr 1
    cases dn <;> cases d <;> cases e <;> rfl
def oftA (a : Int) (d : Bool) (m : Int) : Int := if d = true then (if m % 2 = 1 then a else 0) else m * a
def oftD (d : Bool) (m : Int) : Bool := d && decide (m % 2 = 1)
theorem act_often (a : Int) (d : Bool) : ∀ (m : Nat) (x y : Ent) (f : Nat → Ent), f 0 = x → f m = y → (∀ i, i < m → f (i + 1) = act a d (f i)) → y = act (oftA a d m) (oftD d m) x
  | 0, x, y, f, h0, hm, _ => by
    rw [← hm, h0]
    cases x with
    | told z => simp [act, oftA, oftD, ledI]
    | rel dn k c => cases d <;> simp [act, oftA, oftD, ledI]
  | m + 1, x, y, f, h0, hm, hs => by
    have ih := act_often a d m x (f m) f h0 rfl fun i hi => hs i (by omega)
    rw [← hm, hs m (by omega), ih, act_act]
    have e1 : ledI a d (oftA a d m) = oftA a d ((m + 1 : Nat) : Int) := by
      unfold ledI oftA
      cases d with
      | true =>
        simp only [if_true]
        by_cases c : ((m : Nat) : Int) % 2 = 1
        · rw [if_pos c, if_neg (by omega)]
          omega
        · rw [if_neg c, if_pos (by omega)]
          omega
      | false =>
        simp only [Bool.false_eq_true, if_false]
        rw [show (((m + 1 : Nat)) : Int) = (m : Int) + 1 by omega, Int.add_mul, Int.one_mul, Int.add_comm]
    have e2 : (oftD d m != d) = oftD d ((m + 1 : Nat) : Int) := by
      unfold oftD
      cases d with
      | true =>
        by_cases c : ((m : Nat) : Int) % 2 = 1
        · rw [decide_eq_true c, decide_eq_false (by omega)]
          rfl
        · rw [decide_eq_false c, decide_eq_true (by omega)]
          rfl
      | false => rfl
    rw [e1, e2]
/-- where a place of a copy comes from -/
def spot (f l : Int) (b : Bool) (j : Int) : Int := f + (if b = true then l - 1 - j else j)
/-- what the piece p, which begins at h, says of its j-th place -/
def Says (E : List Ent) (fr : Int) (p : Pc) (h j : Int) : Prop :=
  match p with
  | .new _ => E[(h + j).toNat]? = some (.rel false (fr + j) 0)
  | .notes _ x => E[(h + j).toNat]? = some (.told x)
  | .copy f l a d b => ∃ e, E[(spot f l b j).toNat]? = some e ∧ E[(h + j).toNat]? = some (act a d e)
theorem get_app {α : Type} {E X : List α} {i : Nat} {x : α} (h : E[i]? = some x) : (E ++ X)[i]? = some x := by
  rw [List.getElem?_append_left (List.getElem?_eq_some_iff.mp h).1]
  exact h
theorem Says.app {E X : List Ent} {fr : Int} {p : Pc} {h j : Int} (s : Says E fr p h j) : Says (E ++ X) fr p h j := by
  cases p with
  | new l => exact get_app s
  | notes l x => exact get_app s
  | copy f l a d b =>
    obtain ⟨e, h1, h2⟩ := s
    exact ⟨e, get_app h1, get_app h2⟩
/-- the first m entries are as the pieces say -/
structure Eqs (ps : List Pc) (m : Int) (E : List Ent) : Prop where
  len : (E.length : Int) = m
  says : ∀ i p j, ps[i]? = some p → 0 ≤ j → j < p.len → pre ps i + j < m → Says E (aheadN ps i) p (pre ps i) j
theorem Eqs.snoc {ps : List Pc} (ok : PsOk ps) {m : Int} {E : List Ent} (h : Eqs ps m E) {i : Nat} {p : Pc} {j : Int} {e : Ent} (hp : ps[i]? = some p) (j0 : 0 ≤ j) (j1 : j < p.len) (em : pre ps i + j = m) (s : Says (E ++ [e]) (aheadN ps i) p (pre ps i) j) : Eqs ps (m + 1) (E ++ [e]) := by
  refine ⟨by rw [List.length_append]; simp; have := h.len; omega, fun i' p' j' hp' a b c => ?_⟩
  by_cases e' : pre ps i' + j' = m
  · have hi := (List.getElem?_eq_some_iff.mp hp).1
    have hi' := (List.getElem?_eq_some_iff.mp hp').1
    have x := pre_succ hp; have y := pre_succ hp'
    have u : i = i' := loc_uniq ok.at_ (k := m) hi hi' (by omega) (by omega) (by omega) (by omega)
    subst u
    rw [hp] at hp'
    obtain rfl := Option.some.inj hp'
    have : j = j' := by omega
    subst this
    exact s
  · exact (h.says i' p' j' hp' a b (by omega)).app
/-- the entry of a place -/
theorem Eqs.at {ps : List Pc} {m : Int} {E : List Ent} (h : Eqs ps m E) {k : Int} (k0 : 0 ≤ k) (k1 : k < m) : ∃ e, E[k.toNat]? = some e := ⟨_, List.getElem?_eq_getElem (by have := h.len; omega)⟩
/-- in which piece a place lies -/
theorem locate {ps : List Pc} : ∀ {n : Nat} {k : Int}, n ≤ ps.length → 0 ≤ k → k < pre ps n → ∃ i p, ps[i]? = some p ∧ i < n ∧ pre ps i ≤ k ∧ k < pre ps (i + 1)
  | 0, k, _, h0, h => by rw [pre_zero] at h; omega
  | n + 1, k, hn, h0, h => by
    by_cases c : k < pre ps n
    · obtain ⟨i, p, a, b, c1, c2⟩ := locate (n := n) (by omega) h0 c
      exact ⟨i, p, a, by omega, c1, c2⟩
    · exact ⟨n, ps[n], List.getElem?_eq_getElem (by omega), Nat.lt_succ_self n, by omega, h⟩
/-- the place from which a copy takes a place, led so many times -/
theorem copy_source {ps : List Pc} (ok : PsOk ps) {E : List Ent} (h : Eqs ps (pre ps ps.length) E) {i : Nat} {f l a : Int} {d : Bool} (hp : ps[i]? = some (.copy f l a d false)) {k : Int} (k0 : pre ps i ≤ k) (k1 : k < pre ps i + l) :
    ∀ (m : Nat), 1 ≤ m → pre ps i ≤ k - ((m : Int) - 1) * (pre ps i - f) → ∃ e e', E[(k - (m : Int) * (pre ps i - f)).toNat]? = some e ∧ E[k.toNat]? = some e' ∧ e' = act (oftA a d m) (oftD d m) e := by
  intro m hm hk
  have hi := (List.getElem?_eq_some_iff.mp hp).1
  obtain ⟨f0, f1, l1, a0, a1, _⟩ := ok.at_ i _ hp
  have tot : pre ps i + l ≤ pre ps ps.length := by
    have := pre_le ok.at_ (show i + 1 ≤ ps.length by omega) (Nat.le_refl _)
    rw [pre_succ hp] at this
    exact this
  generalize hs : pre ps i - f = s at hk ⊢
  have s0 : 0 < s := by omega
  -- entries on the way
  have step : ∀ t : Nat, t < m → pre ps i ≤ k - (t : Int) * s := fun t ht => by
    have : (t : Int) * s ≤ ((m : Int) - 1) * s := Int.mul_le_mul_of_nonneg_right (by omega) (by omega)
    omega
  have nn : ∀ t : Nat, t ≤ m → 0 ≤ k - (t : Int) * s := fun t ht => by
    cases t with
    | zero => simp; have := pre_nn ok.at_ (show i ≤ ps.length by omega); omega
    | succ t =>
      have h1 := step t (by omega)
      rw [show ((t + 1 : Nat) : Int) * s = (t : Int) * s + s by rw [show ((t + 1 : Nat) : Int) = (t : Int) + 1 by omega, Int.add_mul, Int.one_mul]]
      omega
  have le : ∀ t : Nat, 0 ≤ (t : Int) * s := fun t => Int.mul_nonneg (by omega) (by omega)
  have ent : ∀ t : Nat, t ≤ m → ∃ e, E[(k - (t : Int) * s).toNat]? = some e := fun t ht => h.at (nn t ht) (by have := le t; omega)
  let g : Nat → Ent := fun t => (E[(k - ((m - t : Nat) : Int) * s).toNat]?).getD (.told 0)
  obtain ⟨e, he⟩ := ent m (Nat.le_refl _)
  obtain ⟨e', he'⟩ := ent 0 (Nat.zero_le _)
  rw [show k - ((0 : Nat) : Int) * s = k by simp] at he'
  refine ⟨e, e', he, he', act_often a d m e e' g ?_ ?_ fun t ht => ?_⟩
  · show (E[(k - ((m - 0 : Nat) : Int) * s).toNat]?).getD _ = e
    rw [Nat.sub_zero, he]
    rfl
  · show (E[(k - ((m - m : Nat) : Int) * s).toNat]?).getD _ = e'
    rw [Nat.sub_self, show k - ((0 : Nat) : Int) * s = k by simp, he']
    rfl
  · show (E[(k - ((m - (t + 1) : Nat) : Int) * s).toNat]?).getD _ = act a d ((E[(k - ((m - t : Nat) : Int) * s).toNat]?).getD _)
    obtain ⟨u, hu⟩ : ∃ u : Nat, u = m - (t + 1) := ⟨_, rfl⟩
    have hu2 : m - t = u + 1 := by omega
    rw [← hu, hu2]
    have b1 := step u (by omega)
    have b2 := le u
    have sy := h.says i _ (k - (u : Int) * s - pre ps i) hp (by omega) (by show k - (u : Int) * s - pre ps i < l; omega) (by omega)
    obtain ⟨e2, h1, h2⟩ := sy
    rw [show pre ps i + (k - (u : Int) * s - pre ps i) = k - (u : Int) * s by omega] at h2
    have es : spot f l false (k - (u : Int) * s - pre ps i) = k - ((u + 1 : Nat) : Int) * s := by
      unfold spot
      rw [if_neg (by decide), show ((u + 1 : Nat) : Int) * s = (u : Int) * s + s by rw [show ((u + 1 : Nat) : Int) = (u : Int) + 1 by omega, Int.add_mul, Int.one_mul]]
      omega
    rw [es] at h1
    rw [h1, h2]
    rfl
end TT

set_option maxHeartbeats 4000000
namespace TT
open PySem PySem.Spec PyProof.Rows L2 LamX TL
/-! ### leads, pieces as they stand -/
def pcV : Pc → List V
  | .new l => [.str "new", .int l]
  | .notes l x => [.str "notes", .int l, .int x]
  | .copy f l a d b => [.str "copy", .int f, .int l, .int a, .bl d, .bl b]
def PcAt (H : Hp) (q : Addr) (p : Pc) : Prop := H q = some (.tup (pcV p))
def PcsAt (H : Hp) : List V → List Pc → Prop := Paired fun v p => ∃ q, v = V.ref q ∧ PcAt H q p
def stV (ps : List Pc) : List V := (List.range (ps.length + 1)).map fun i => V.int (pre ps i)
def ahV (ps : List Pc) : List V := (List.range (ps.length + 1)).map fun i => V.int (aheadN ps i)
theorem Paired.imp {α β : Type} {F G : α → β → Prop} (f : ∀ a b, F a b → G a b) : ∀ {xs : List α} {ys : List β}, Paired F xs ys → Paired G xs ys
  | _, _, .nil => .nil
  | _, _, .cons r t => .cons (f _ _ r) (Paired.imp f t)
theorem Paired.snoc {α β : Type} {F : α → β → Prop} {a : α} {b : β} (h : F a b) : ∀ {xs : List α} {ys : List β}, Paired F xs ys → Paired F (xs ++ [a]) (ys ++ [b])
  | _, _, .nil => .cons h .nil
  | _, _, .cons r t => .cons r (Paired.snoc h t)
theorem Paired.at {α β : Type} {F : α → β → Prop} : ∀ {xs : List α} {ys : List β}, Paired F xs ys → ∀ {i : Nat} {x : α}, xs[i]? = some x → ∃ y, ys[i]? = some y ∧ F x y
  | _, _, .nil, i, x, e => by simp at e
  | _, _, .cons r t, 0, x, e => by
    simp at e
    subst e
    exact ⟨_, rfl, r⟩
  | _, _, .cons r t, i + 1, x, e => by
    obtain ⟨y, e1, e2⟩ := Paired.at t (i := i) (x := x) (by simpa using e)
    exact ⟨y, by simpa using e1, e2⟩
theorem Paired.len {α β : Type} {F : α → β → Prop} : ∀ {xs : List α} {ys : List β}, Paired F xs ys → xs.length = ys.length
  | _, _, .nil => rfl
  | _, _, .cons _ t => by rw [List.length_cons, List.length_cons, Paired.len t]
theorem PcsAt.same {H H' : Hp} (s : Same H H') {xs : List V} {ps : List Pc} (h : PcsAt H xs ps) : PcsAt H' xs ps := Paired.imp (fun _ _ ⟨q, e, t⟩ => ⟨q, e, s _ _ t⟩) h
theorem same_put {D : Addr} {H H1 : Hp} {o : HO} (s : Same H H1) (hD : H D = none) : Same H (upd H1 D o) := fun b u e => by
  rw [upd_ne (ne_of_none e hD)]
  exact s b u e
theorem at_last {xs : List V} {x : V} : atI (xs ++ [x]) (-1) = some x := by
  unfold atI ixN
  rw [if_neg (by decide), List.length_append, if_pos (by simp; omega)]
  show (xs ++ [x])[((-1 : Int) + ((xs.length + [x].length : Nat) : Int)).toNat]? = some x
  have : ((-1 : Int) + ((xs.length + [x].length : Nat) : Int)).toNat = xs.length := by simp; omega
  rw [this, List.getElem?_append_right (Nat.le_refl _), Nat.sub_self]
  rfl
theorem stV_at {ps : List Pc} {i : Nat} (h : i ≤ ps.length) : atI (stV ps) (i : Int) = some (.int (pre ps i)) := atI_nat (by
  unfold stV
  rw [List.getElem?_map, List.getElem?_range (by omega)]
  rfl)
theorem ahV_at {ps : List Pc} {i : Nat} (h : i ≤ ps.length) : atI (ahV ps) (i : Int) = some (.int (aheadN ps i)) := atI_nat (by
  unfold ahV
  rw [List.getElem?_map, List.getElem?_range (by omega)]
  rfl)
theorem stV_len (ps : List Pc) : (stV ps).length = ps.length + 1 := by unfold stV; rw [List.length_map, List.length_range]
theorem ahV_len (ps : List Pc) : (ahV ps).length = ps.length + 1 := by unfold ahV; rw [List.length_map, List.length_range]
theorem stV_last (ps : List Pc) : atI (stV ps) (-1) = some (.int (pre ps ps.length)) := by
  unfold stV
  rw [List.range_succ, List.map_append]
  exact at_last
theorem ahV_last (ps : List Pc) : atI (ahV ps) (-1) = some (.int (aheadN ps ps.length)) := by
  unfold ahV
  rw [List.range_succ, List.map_append]
  exact at_last
def LeadAt (K : PySem.W.Frag) (H : Hp) (q : Addr) (a : Int) (d : Bool) : Prop := SqT K H q [.int a, .bl d]
theorem bl_ne (d e : Bool) : V.bl (!decide (V.bl d = V.bl e)) = V.bl (d != e) := by
  cases d <;> cases e <;> decide +kernel
def sp_led_by (K : PySem.W.Frag) : Sp := fun vs H Q _ => ∃ (q : Addr) (a : Int) (d : Bool) (x : Int), vs = [.ref q, .int x] ∧ LeadAt K H q a d ∧ Q (.int (ledI a d x)) H
def sp_led_on (K : PySem.W.Frag) : Sp := fun vs H Q _ => ∃ (q r : Addr) (a b : Int) (d e : Bool), vs = [.ref q, .ref r] ∧ LeadAt K H q a d ∧ LeadAt K H r b e ∧ ∀ x H', H x = none → Same H H' → LeadAt K H' x (ledI b e a) (d != e) → Q (.ref x) H'
def sp_led_often (K : PySem.W.Frag) : Sp := fun vs H Q _ => ∃ (q : Addr) (a : Int) (d : Bool) (m : Int), vs = [.ref q, .int m] ∧ LeadAt K H q a d ∧ 0 ≤ m ∧ m < 2 ^ 64 ∧ ∀ x H', Same H H' → LeadAt K H' x (oftA a d m) (oftD d m) → Q (.ref x) H'
def sp_word_of (K : PySem.W.Frag) : Sp := fun vs H Q _ => ∃ (q : Addr) (a : Int) (d : Bool), vs = [.ref q] ∧ LeadAt K H q a d ∧ Q (.str (if d = true then Str.ofString "down" else Str.ofString "up")) H
def sp_length_of : Sp := fun vs H Q _ => ∃ (q : Addr) (p : Pc), vs = [.ref q] ∧ PcAt H q p ∧ Q (.int p.len) H
def sp_starts_of : Sp := fun vs H Q _ => ∃ (P : Addr) (tr : List V) (ps : List Pc), vs = [.ref P] ∧ H P = some (.tup tr) ∧ PcsAt H tr ps ∧ ps.length ≤ 1000 ∧ ∀ x H', H x = none → Same H H' → H' x = some (.tup (stV ps)) → Q (.ref x) H'
def sp_new_ahead : Sp := fun vs H Q _ => ∃ (P : Addr) (tr : List V) (ps : List Pc), vs = [.ref P] ∧ H P = some (.tup tr) ∧ PcsAt H tr ps ∧ ps.length ≤ 1000 ∧ ∀ x H', H x = none → Same H H' → H' x = some (.tup (ahV ps)) → Q (.ref x) H'
def sp_index_at : Sp := fun vs H Q _ => ∃ (S : Addr) (ps : List Pc) (k : Int), vs = [.ref S, .int k] ∧ H S = some (.tup (stV ps)) ∧ PsOk ps ∧ 0 ≤ k ∧ k < pre ps ps.length ∧ ∀ i : Nat, i < ps.length → pre ps i ≤ k → k < pre ps (i + 1) → Q (.int (i : Int)) H
section
variable {P : Program} {w : World} {K : PySem.W.Frag} {mg : Str → Option Value} {base : Heap} {Z : Zs}
theorem ok_led_by (T : Txt K mg Z) : FnOk P w K mg base CX0 1 Z.f_led_by Z.d_led_by ["lead", "note"] (sp_led_by K) := by
  refine T.F_led_by.ok sc_led_by (fun vs H Q E h => ?_) (fun cdv A outer s H vs Q E hr h => ?_)
  · obtain ⟨q, a, d, x, rfl, _⟩ := h
    rfl
  · obtain ⟨q, a, d, x, rfl, hq, k⟩ := h
    refine ⟨_, (pss_cons (ps_asg (pv 0) (pg_tup rfl (pgs_cons (pg_name (i := 2) sc_led_by.nd rfl (Or.inl rfl)) (pgs_cons (pg_name (i := 3) sc_led_by.nd rfl (Or.inl rfl)) pgs_nil))))
      (pss_one (ps_ret (pe_ifExp (pt_val (pv 3)) (pe_op op_sub (pv 2) (pv 1)) (pe_op op_add (pv 2) (pv 1)))))), ?_⟩
    refine ⟨_, rfl, q, _, rfl, hq, rfl, _, _, rfl, _, _, rfl, rfl, ?_⟩
    unfold ledI at k
    refine ⟨_, rfl, d, rfl, ?_⟩
    cases d with
    | true => exact iteT ⟨_, rfl, _, rfl, _, _, rfl, rfl, k⟩
    | false => exact iteF ⟨_, rfl, _, rfl, _, _, rfl, rfl, k⟩
theorem ok_led_on (T : Txt K mg Z) : FnOk P w K mg base CX0 2 Z.f_led_on Z.d_led_on ["lead", "other"] (sp_led_on K) := by
  refine T.F_led_on.ok sc_led_on (fun vs H Q E h => ?_) (fun cdv A outer s H vs Q E hr h => ?_)
  · obtain ⟨q, r, a, b, d, e, rfl, _⟩ := h
    rfl
  · obtain ⟨q, r, a, b, d, e, rfl, hq, hr', k⟩ := h
    refine ⟨_, (pss_one (ps_ret (pe_tup (pa_cons (pe_call (ok_led_by T) (hr.mono (by decide)) rfl T.g_led_by T.k_led_by T.bn_led_by .nil pass0 (pa_cons (pv 1) (pa_cons (pe_ix ix_tup (pv 0) pe_int (fun _ _ => rfl)) pa_nil))) (pa_cons (pe_cmpR op_ne (pe_ix ix_tup (pv 0) pe_int (fun _ _ => rfl)) (pe_ix ix_tup (pv 1) pe_int (fun _ _ => rfl)) (nomark _)) pa_nil))))), ?_⟩
    refine ⟨_, rfl, _, rfl, q, _, 0, .int a, rfl, rfl, hq, rfl, r, b, e, a, rfl, hr', ?_⟩
    refine ⟨_, rfl, q, _, 1, .bl d, rfl, rfl, hq, rfl, _, rfl, r, _, 1, .bl e, rfl, rfl, hr', rfl, rfl, by show 2 ≤ sizeLine; decide, fun x hx => ?_⟩
    rw [bl_ne]
    exact k x _ hx (Same.new (Same.refl H) hx) (SqT.of upd_same)
theorem ok_led_often (T : Txt K mg Z) : FnOk P w K mg base CX0 1 Z.f_led_often Z.d_led_often ["lead", "many"] (sp_led_often K) := by
  refine T.F_led_often.ok sc_led_often (fun vs H Q E h => ?_) (fun cdv A outer s H vs Q E hr h => ?_)
  · obtain ⟨q, a, d, m, rfl, _⟩ := h
    rfl
  · obtain ⟨q, a, d, m, rfl, hq, m0, m1, k⟩ := h
    refine ⟨_, (pss_cons (ps_asg (pv 0) (pg_tup rfl (pgs_cons (pg_name (i := 2) sc_led_often.nd rfl (Or.inl rfl)) (pgs_cons (pg_name (i := 3) sc_led_often.nd rfl (Or.inl rfl)) pgs_nil))))
      (pss_cons (ps_if (pt_not (pt_val (pv 3))) (pss_one (ps_ret (pe_tup (pa_cons (pe_op op_mul (pv 1) (pv 2)) (pa_cons pe_bl pa_nil))))) pss_nil)
      (pss_one (ps_ret (pe_ifExp (pt_cmpR op_eq (pe_op op_mod (pv 1) pe_int) pe_int (nomark _)) (pe_tup (pa_cons (pv 2) (pa_cons pe_bl pa_nil))) (pe_glob (v := .ref Z.aS) rfl T.g_STILL rfl)))))), ?_⟩
    refine ⟨_, rfl, q, _, rfl, hq, rfl, _, _, rfl, _, _, rfl, rfl, ?_⟩
    unfold oftA oftD at k
    refine ⟨_, rfl, d, rfl, ?_⟩
    cases d with
    | false =>
      refine iteT ⟨_, rfl, _, rfl, _, _, rfl, rfl, .inl (by constructor <;> omega), by show 2 ≤ sizeLine; decide, fun x hx => ?_⟩
      exact k x _ (Same.new (Same.refl H) hx) (SqT.of upd_same)
    | true =>
      by_cases c : m % 2 = 1
      · rw [if_pos c, decide_eq_true c] at k
        exact iteF ⟨_, rfl, _, _, rfl, rfl, by show (0 : Int) < 2; decide, rfl, true, by show V.bl (decide (V.int (m % 2) = V.int 1)) = V.bl true; rw [c, decide_eq_true rfl], iteT ⟨_, rfl, by show 2 ≤ sizeLine; decide, fun x hx => k x _ (Same.new (Same.refl H) hx) (SqT.of upd_same)⟩⟩
      · rw [if_neg c, decide_eq_false c] at k
        exact iteF ⟨_, rfl, _, _, rfl, rfl, by show (0 : Int) < 2; decide, rfl, false, by show V.bl (decide (V.int (m % 2) = V.int 1)) = V.bl false; rw [decide_eq_false (fun z => c (V.int.inj z))], iteF (k Z.aS H (Same.refl H) (T.z_still H))⟩
theorem ok_word_of (T : Txt K mg Z) : FnOk P w K mg base CX0 1 Z.f_word_of Z.d_word_of ["lead"] (sp_word_of K) := by
  refine T.F_word_of.ok sc_word_of (fun vs H Q E h => ?_) (fun cdv A outer s H vs Q E hr h => ?_)
  · obtain ⟨q, a, d, rfl, _⟩ := h
    rfl
  · obtain ⟨q, a, d, rfl, hq, k⟩ := h
    refine ⟨_, (pss_one (ps_ret (pe_ifExp (pt_val (pe_ix ix_tup (pv 0) pe_int (fun _ _ => rfl))) pe_str pe_str))), ?_⟩
    refine ⟨_, rfl, q, _, 1, .bl d, rfl, rfl, hq, rfl, d, rfl, ?_⟩
    cases d with
    | true => exact iteT k
    | false => exact iteF k
theorem ok_length_of (T : Txt K mg Z) : FnOk P w K mg base CX0 1 Z.f_length_of Z.d_length_of ["piece"] sp_length_of := by
  refine T.F_length_of.ok sc_length_of (fun vs H Q E h => ?_) (fun cdv A outer s H vs Q E hr h => ?_)
  · obtain ⟨q, p, rfl, _⟩ := h
    rfl
  · obtain ⟨q, p, rfl, hq, k⟩ := h
    refine ⟨_, (pss_one (ps_ret (pe_ifExp (pt_cmpR op_eq (pe_ix ix_tup (pv 0) pe_int (fun _ _ => rfl)) pe_str (nomark _)) (pe_ix ix_tup (pv 0) pe_int (fun _ _ => rfl)) (pe_ix ix_tup (pv 0) pe_int (fun _ _ => rfl))))), ?_⟩
    cases p with
    | new l =>
      refine ⟨_, rfl, q, _, 0, .str "new", rfl, rfl, SqT.of hq, rfl, rfl, _, rfl, ?_⟩
      rw [show decide (V.str "new" = V.str "copy") = false by decide +kernel]
      exact iteF ⟨_, rfl, q, _, 1, .int l, rfl, rfl, SqT.of hq, rfl, k⟩
    | notes l x =>
      refine ⟨_, rfl, q, _, 0, .str "notes", rfl, rfl, SqT.of hq, rfl, rfl, _, rfl, ?_⟩
      rw [show decide (V.str "notes" = V.str "copy") = false by decide +kernel]
      exact iteF ⟨_, rfl, q, _, 1, .int l, rfl, rfl, SqT.of hq, rfl, k⟩
    | copy f l a d b =>
      refine ⟨_, rfl, q, _, 0, .str "copy", rfl, rfl, SqT.of hq, rfl, rfl, _, rfl, ?_⟩
      rw [show decide (V.str "copy" = V.str "copy") = true by decide +kernel]
      exact iteT ⟨_, rfl, q, _, 2, .int l, rfl, rfl, SqT.of hq, rfl, k⟩
theorem ok_starts_of (T : Txt K mg Z) : FnOk P w K mg base CX0 2 Z.f_starts_of Z.d_starts_of ["pieces"] sp_starts_of := by
  refine T.F_starts_of.ok sc_starts_of (fun vs H Q E h => ?_) (fun cdv A outer s H vs Q E hr h => ?_)
  · obtain ⟨q, tr, ps, rfl, _⟩ := h
    rfl
  · obtain ⟨q, tr, ps, rfl, hq, hp, len, k⟩ := h
    have sl : sizeLine = 16777216 := sizeLine_eq
    have lt := Paired.len hp
    refine ⟨_, (pss_cons (ps_set (i := 1) sc_starts_of.nd rfl (Or.inl rfl) (pe_lst (pa_cons pe_int pa_nil)))
      (pss_cons (ps_for PassesOwn.never rfl (pi_tup (pv 0)) (pg_name (i := 2) sc_starts_of.nd rfl (Or.inl rfl)) (pss_one (ps_expr (pe_bm PySem.F.plainAttrs_list PySem.F.slot_list_append PySem.F.type_list_append mt_append (pv 1) (pa_cons (pe_op op_add (pe_ix ix_list (pv 1) (pe_un un_neg pe_int) (fun _ _ => rfl)) (pe_call (ok_length_of T) (hr.mono (by decide)) rfl T.g_length_of T.k_length_of T.bn_length_of .nil pass0 (pa_cons (pv 2) pa_nil))) pa_nil)))))
      (pss_one (ps_ret (pe_callTy call_tuple_of (by rfl) T.b_tuple (by decide +kernel) (pa_cons (pv 1) pa_nil)))))), ?_⟩
    refine ⟨by show 1 ≤ sizeLine; decide, fun D hD => ?_⟩
    have sD := Same.new (o := .lst [.int 0]) (Same.refl H) hD
    refine ⟨_, rfl, q, rfl, ⟨_, SqT.of (sD _ _ hq)⟩, for_tup (xs := tr) (fun i σ H' => ∃ v2, σ = [some (.ref q), some (.ref D), v2] ∧ H' D = some (.lst ((List.range (i + 1)).map fun j => V.int (pre ps j))) ∧ Same H H') ⟨_, rfl, upd_same, sD⟩ (fun i σ H' _ ⟨_, _, _, s⟩ => SqT.of (s _ _ hq)) ?_ ?_⟩
    · rintro i x σ H1 hi ⟨v2, rfl, hD1, s1⟩
      obtain ⟨p, hp', y, rfl, hy⟩ := Paired.at hp hi
      have il := (List.getElem?_eq_some_iff.mp hp').1
      have ll : (List.map (fun j => V.int (pre ps j)) (List.range (i + 1))).length = i + 1 := by rw [List.length_map, List.length_range]
      have al : atI ((List.range (i + 1)).map fun j => V.int (pre ps j)) (-1) = some (.int (pre ps i)) := by
        rw [List.range_succ, List.map_append]
        exact at_last
      refine ⟨_, rfl, .inl ⟨rfl, _, SqL.of hD1⟩, _, rfl, _, rfl, D, _, _, _, rfl, rfl, SqL.of hD1, al, _, rfl, y, p, rfl, s1 _ _ hy, _, _, rfl, rfl, D, _, _, rfl, rfl, hD1, by omega, ?_⟩
      refine ⟨_, rfl, ?_, same_put s1 hD⟩
      rw [upd_same, List.range_succ (n := i + 1), List.map_append, List.map_singleton, pre_succ hp']
    · rintro σ H1 ⟨v2, rfl, hD1, s1⟩
      rw [lt] at hD1
      exact ⟨_, rfl, D, _, rfl, .inl ⟨SqL.of hD1, fun x hx => k x _ (L2.Same.free s1 hx) (Same.new s1 hx) upd_same⟩⟩
theorem ok_new_ahead (T : Txt K mg Z) : FnOk P w K mg base CX0 2 Z.f_new_ahead Z.d_new_ahead ["pieces"] sp_new_ahead := by
  refine T.F_new_ahead.ok sc_new_ahead (fun vs H Q E h => ?_) (fun cdv A outer s H vs Q E hr h => ?_)
  · obtain ⟨q, tr, ps, rfl, _⟩ := h
    rfl
  · obtain ⟨q, tr, ps, rfl, hq, hp, len, k⟩ := h
    have sl : sizeLine = 16777216 := sizeLine_eq
    have lt := Paired.len hp
    refine ⟨_, (pss_cons (ps_set (i := 1) sc_new_ahead.nd rfl (Or.inl rfl) (pe_lst (pa_cons pe_int pa_nil)))
      (pss_cons (ps_for PassesOwn.never rfl (pi_tup (pv 0)) (pg_name (i := 2) sc_new_ahead.nd rfl (Or.inl rfl)) (pss_one (ps_expr (pe_bm PySem.F.plainAttrs_list PySem.F.slot_list_append PySem.F.type_list_append mt_append (pv 1) (pa_cons (pe_op op_add (pe_ix ix_list (pv 1) (pe_un un_neg pe_int) (fun _ _ => rfl)) (pe_ifExp (pt_cmpR op_eq (pe_ix ix_tup (pv 2) pe_int (fun _ _ => rfl)) pe_str (nomark _)) (pe_ix ix_tup (pv 2) pe_int (fun _ _ => rfl)) pe_int)) pa_nil)))))
      (pss_one (ps_ret (pe_callTy call_tuple_of (by rfl) T.b_tuple (by decide +kernel) (pa_cons (pv 1) pa_nil)))))), ?_⟩
    refine ⟨by show 1 ≤ sizeLine; decide, fun D hD => ?_⟩
    have sD := Same.new (o := .lst [.int 0]) (Same.refl H) hD
    refine ⟨_, rfl, q, rfl, ⟨_, SqT.of (sD _ _ hq)⟩, for_tup (xs := tr) (fun i σ H' => ∃ v2, σ = [some (.ref q), some (.ref D), v2] ∧ H' D = some (.lst ((List.range (i + 1)).map fun j => V.int (aheadN ps j))) ∧ Same H H') ⟨_, rfl, upd_same, sD⟩ (fun i σ H' _ ⟨_, _, _, s⟩ => SqT.of (s _ _ hq)) ?_ ?_⟩
    · rintro i x σ H1 hi ⟨v2, rfl, hD1, s1⟩
      obtain ⟨p, hp', y, rfl, hy⟩ := Paired.at hp hi
      have hy1 : H1 y = some (.tup (pcV p)) := s1 _ _ hy
      have ll : (List.map (fun j => V.int (aheadN ps j)) (List.range (i + 1))).length = i + 1 := by rw [List.length_map, List.length_range]
      have il := (List.getElem?_eq_some_iff.mp hp').1
      have al : atI ((List.range (i + 1)).map fun j => V.int (aheadN ps j)) (-1) = some (.int (aheadN ps i)) := by
        rw [List.range_succ, List.map_append]
        exact at_last
      have nx := ahead_succ hp'
      refine ⟨_, rfl, .inl ⟨rfl, _, SqL.of hD1⟩, _, rfl, _, rfl, D, _, _, _, rfl, rfl, SqL.of hD1, al, ?_⟩
      cases p with
      | new l =>
        refine ⟨_, rfl, y, _, 0, .str "new", rfl, rfl, SqT.of hy1, rfl, rfl, _, rfl, ?_⟩
        rw [show decide (V.str "new" = V.str "new") = true by decide +kernel]
        refine iteT ⟨_, rfl, y, _, 1, .int l, rfl, rfl, SqT.of hy1, rfl, _, _, rfl, rfl, D, _, _, rfl, rfl, hD1, by omega, ?_⟩
        refine ⟨_, rfl, ?_, same_put s1 hD⟩
        rw [upd_same, List.range_succ (n := i + 1), List.map_append, List.map_singleton, nx]
        rfl
      | notes l x =>
        refine ⟨_, rfl, y, _, 0, .str "notes", rfl, rfl, SqT.of hy1, rfl, rfl, _, rfl, ?_⟩
        rw [show decide (V.str "notes" = V.str "new") = false by decide +kernel]
        refine iteF ⟨_, _, rfl, rfl, D, _, _, rfl, rfl, hD1, by omega, ?_⟩
        refine ⟨_, rfl, ?_, same_put s1 hD⟩
        rw [upd_same, List.range_succ (n := i + 1), List.map_append, List.map_singleton, nx]
        rfl
      | copy f l a d b =>
        refine ⟨_, rfl, y, _, 0, .str "copy", rfl, rfl, SqT.of hy1, rfl, rfl, _, rfl, ?_⟩
        rw [show decide (V.str "copy" = V.str "new") = false by decide +kernel]
        refine iteF ⟨_, _, rfl, rfl, D, _, _, rfl, rfl, hD1, by omega, ?_⟩
        refine ⟨_, rfl, ?_, same_put s1 hD⟩
        rw [upd_same, List.range_succ (n := i + 1), List.map_append, List.map_singleton, nx]
        rfl
    · rintro σ H1 ⟨v2, rfl, hD1, s1⟩
      rw [lt] at hD1
      exact ⟨_, rfl, D, _, rfl, .inl ⟨SqL.of hD1, fun x hx => k x _ (L2.Same.free s1 hx) (Same.new s1 hx) upd_same⟩⟩
theorem ok_index_at (T : Txt K mg Z) : FnOk P w K mg base CX0 1 Z.f_index_at Z.d_index_at ["starts", "place"] sp_index_at := by
  refine T.F_index_at.ok sc_index_at (fun vs H Q E h => ?_) (fun cdv A outer s H vs Q E hr h => ?_)
  · obtain ⟨S, ps, k, rfl, _⟩ := h
    rfl
  · obtain ⟨S, ps, pl, rfl, hS, ok, k0, k1, k⟩ := h
    have n1 := ok.n1; have n8 := ok.n8
    refine ⟨_, (pss_cons (ps_par (i := 2) (j := 3) (by rfl) sc_index_at.nd rfl rfl (by decide) rfl rfl (pa_cons pe_int (pa_cons (pe_op op_sub (pe_callB  call_len (by rfl) T.b_len (by decide +kernel) (pa_cons (pv 0) pa_nil)) pe_int) pa_nil)) (by rfl))
      (pss_cons (ps_while PassesOwn.never (pt_cmpR op_gt (pe_op op_sub (pv 3) (pv 2)) pe_int (nomark _)) (pss_cons (ps_set (i := 4) sc_index_at.nd rfl (Or.inl rfl) (pe_op op_fdivW (pe_op op_add (pv 2) (pv 3)) pe_int))
      (pss_one (ps_if (pt_cmpR op_le (pe_ix ix_tup (pv 0) (pv 4) (fun _ _ => rfl)) (pv 1) (nomark _)) (pss_one (ps_set (i := 2) sc_index_at.nd rfl (Or.inl rfl) (pv 4))) (pss_one (ps_set (i := 3) sc_index_at.nd rfl (Or.inl rfl) (pv 4)))))))
      (pss_one (ps_ret (pv 2))))), ?_⟩
    refine ⟨_, rfl, _, _, rfl, .inr ⟨_, SqT.of hS, rfl⟩, _, _, rfl, rfl, ?_⟩
    refine ⟨_, _, rfl, ?_⟩
    refine while_by (fun σ H2 => ∃ (lo hi : Nat) (v4 : Option V), σ = [some (.ref S), some (.int pl), some (.int (lo : Int)), some (.int (hi : Int)), v4] ∧ H2 = H ∧ lo < hi ∧ hi ≤ ps.length ∧ pre ps lo ≤ pl ∧ pl < pre ps hi) (fun σ _ => match σ with | [_, _, some (.int lo), some (.int hi), _] => (hi - lo).toNat | _ => 0)
      ⟨0, ps.length, none, by show [some (V.ref S), some (V.int pl), some (V.int 0), some (V.int ((((stV ps).length : Nat) : Int) - 1)), none] = _; rw [show (((stV ps).length : Nat) : Int) - 1 = ((ps.length : Nat) : Int) by rw [stV_len]; omega] <;> rfl, rfl, by omega, Nat.le_refl _, by rw [pre_zero]; exact k0, k1⟩ ?_ ?_
    · rintro σ H2 ⟨lo, hi, v4, rfl, rfl, h1, h2, h3, h4⟩
      refine ⟨_, rfl, _, rfl, _, _, rfl, rfl, _, _, rfl, rfl, _, rfl, ?_⟩
      by_cases c : 1 < (hi : Int) - (lo : Int)
      · rw [decide_eq_true c]
        refine iteT ?_
        obtain ⟨mi, em⟩ : ∃ mi : Nat, mi = (lo + hi) / 2 := ⟨_, rfl⟩
        have e1 : ((lo : Int) + (hi : Int)) / 2 = (mi : Int) := by omega
        refine ⟨_, rfl, _, rfl, _, _, rfl, rfl, _, _, rfl, rfl, wide_div (j := 2) (by decide) (b := 200) (by decide) (by decide) (by decide), ?_⟩
        show gName 4 (V.int (((lo : Int) + (hi : Int)) / 2)) _ _ _
        rw [e1]
        refine ⟨_, rfl, _, rfl, S, _, _, _, rfl, rfl, SqT.of hS, stV_at (by omega), _, rfl, _, _, rfl, rfl, _, rfl, ?_⟩
        by_cases c2 : pre ps mi ≤ pl
        · rw [decide_eq_true c2]
          exact iteT ⟨_, rfl, ⟨mi, hi, _, rfl, rfl, by omega, h2, c2, h4⟩, by show ((hi : Int) - (mi : Int)).toNat < ((hi : Int) - (lo : Int)).toNat; omega⟩
        · rw [decide_eq_false c2]
          exact iteF ⟨_, rfl, ⟨lo, mi, _, rfl, rfl, by omega, by omega, h3, by omega⟩, by show ((mi : Int) - (lo : Int)).toNat < ((hi : Int) - (lo : Int)).toNat; omega⟩
      · rw [decide_eq_false c]
        have e : hi = lo + 1 := by omega
        subst e
        exact iteF ⟨_, rfl, k lo (by omega) h3 h4⟩
    · rintro σ H2 Q1 Q2 hQ ⟨v, e, w, e', i, j, e1, e2, i', j', e3, e4, b, e5, q1⟩
      exact ⟨v, e, w, e', i, j, e1, e2, i', j', e3, e4, b, e5, hQ _ _ q1⟩
end
end TT

set_option maxHeartbeats 4000000
namespace TT
open PySem PySem.Spec PyProof.Rows L2 LamX TL
/-! ### a place read -/
theorem LeadAt.same {K : PySem.W.Frag} {H H' : Hp} {q : Addr} {a : Int} {d : Bool} (h : LeadAt K H q a d) (s : Same H H') : LeadAt K H' q a d := by
  rcases h with (h | ⟨o, h⟩) | h
  · exact .inl (.inl (s _ _ h))
  · exact .inl (.inr ⟨o, s _ _ h⟩)
  · exact .inr h
theorem act_still (e : Ent) : act 0 false e = e := by
  cases e with
  | told x => simp [act, ledI]
  | rel dn k c => cases dn <;> simp [act, ledI]
def srcOf (f l : Int) (b : Bool) (h k : Int) : Int × Int := if b = true then (f + h + l - 1 - k, 1) else (k - ((k - h) / (h - f) + 1) * (h - f), (k - h) / (h - f) + 1)
def sp_source : Sp := fun vs H Q _ => ∃ (q : Addr) (f l a : Int) (d b : Bool) (h k : Int), vs = [.ref q, .int h, .int k] ∧ PcAt H q (.copy f l a d b) ∧ 0 ≤ f ∧ f < h ∧ h ≤ k ∧ k < 2 ^ 62 ∧
  ∀ x H', H x = none → Same H H' → H' x = some (.tup [.int (srcOf f l b h k).1, .int (srcOf f l b h k).2]) → Q (.ref x) H'
def word (d : Bool) : Str := if d = true then Str.ofString "down" else Str.ofString "up"
def sp_read (K : PySem.W.Frag) : Sp := fun vs H Q _ => ∃ (P S : Addr) (tr : List V) (ps : List Pc) (k : Int) (E : List Ent), vs = [.ref P, .ref S, .int k] ∧ H P = some (.tup tr) ∧ PcsAt H tr ps ∧ H S = some (.tup (stV ps)) ∧ PsOk ps ∧ pre ps ps.length < 2 ^ 62 ∧ Eqs ps (pre ps ps.length) E ∧ 0 ≤ k ∧ k < pre ps ps.length ∧
  (∀ y x H', E[k.toNat]? = some (.told y) → H x = none → Same H H' → H' x = some (.tup [.str "told", .int y]) → Q (.ref x) H') ∧
  ∀ (d : Bool) (i : Nat) (l c q : Int) x H', ps[i]? = some (.new l) → pre ps i ≤ q → q < pre ps i + l → E[k.toNat]? = some (.rel d (aheadN ps i + (q - pre ps i)) c) → H x = none → Same H H' → H' x = some (.tup [.str (word d), .int q, .int c]) → Q (.ref x) H'
section
variable {P : Program} {w : World} {K : PySem.W.Frag} {mg : Str → Option Value} {base : Heap} {Z : Zs}
theorem ok_source (T : Txt K mg Z) : FnOk P w K mg base CX0 1 Z.f_source Z.d_source ["piece", "here", "place"] sp_source := by
  refine T.F_source.ok sc_source (fun vs H Q E h => ?_) (fun cdv A outer s H vs Q E hr h => ?_)
  · obtain ⟨q, f, l, a, d, b, h, k, rfl, _⟩ := h
    rfl
  · obtain ⟨q, f, l, a, d, b, h, k, rfl, hq, f0, f1, h0, h1, kk⟩ := h
    have hq' : H q = some (.tup [.str "copy", .int f, .int l, .int a, .bl d, .bl b]) := hq
    refine ⟨_, (pss_cons (ps_if (pt_val (pe_ix ix_tup (pv 0) pe_int (fun _ _ => rfl))) (pss_one (ps_ret (pe_tup (pa_cons (pe_op op_sub (pe_op op_sub (pe_op op_add (pe_op op_add (pe_ix ix_tup (pv 0) pe_int (fun _ _ => rfl)) (pv 1)) (pe_ix ix_tup (pv 0) pe_int (fun _ _ => rfl))) pe_int) (pv 2)) (pa_cons pe_int pa_nil))))) pss_nil)
      (pss_cons (ps_set (i := 3) sc_source.nd rfl (Or.inl rfl) (pe_op op_sub (pv 1) (pe_ix ix_tup (pv 0) pe_int (fun _ _ => rfl))))
      (pss_cons (ps_set (i := 4) sc_source.nd rfl (Or.inl rfl) (pe_op op_add (pe_op op_fdivW (pe_op op_sub (pv 2) (pv 1)) (pv 3)) pe_int))
      (pss_one (ps_ret (pe_tup (pa_cons (pe_op op_sub (pv 2) (pe_op op_mul (pv 4) (pv 3))) (pa_cons (pv 4) pa_nil)))))))), ?_⟩
    unfold srcOf at kk
    refine ⟨_, rfl, q, _, 5, .bl b, rfl, rfl, SqT.of hq', rfl, b, rfl, ?_⟩
    cases b with
    | true =>
      refine iteT ⟨_, rfl, q, _, 1, .int f, rfl, rfl, SqT.of hq', rfl, _, rfl, _, _, rfl, rfl, _, rfl, q, _, 2, .int l, rfl, rfl, SqT.of hq', rfl, _, _, rfl, rfl, _, _, rfl, rfl, _, rfl, _, _, rfl, rfl, by show 2 ≤ sizeLine; decide, fun x hx => ?_⟩
      exact kk x _ hx (Same.new (Same.refl H) hx) upd_same
    | false =>
      refine iteF ⟨_, rfl, _, rfl, q, _, 1, .int f, rfl, rfl, SqT.of hq', rfl, _, _, rfl, rfl, ?_⟩
      have sh : (h - f).natAbs < 2 ^ 200 := by
        have : (2 : Nat) ^ 62 < 2 ^ 200 := by decide +kernel
        have e : (h - f).natAbs < 2 ^ 62 := by omega
        omega
      refine ⟨_, rfl, _, rfl, _, _, rfl, rfl, _, rfl, _, _, rfl, rfl, wide_div (j := h - f) (by omega) (b := 200) sh (by decide) (by decide), _, _, rfl, rfl, ?_⟩
      have b1 : 0 ≤ (k - h) / (h - f) := Int.ediv_nonneg (by omega) (by omega)
      have b2 : (k - h) / (h - f) ≤ k - h := Int.ediv_le_self _ (by omega)
      refine ⟨_, rfl, _, rfl, _, rfl, _, _, rfl, rfl, .inl (by constructor <;> (show _ < _; omega)), _, _, rfl, rfl, _, rfl, by show 2 ≤ sizeLine; decide, fun x hx => ?_⟩
      exact kk x _ hx (Same.new (Same.refl H) hx) upd_same
theorem ok_read (T : Txt K mg Z) : FnOk P w K mg base CX0 3 Z.f_read Z.d_read ["pieces", "starts", "place"] (sp_read K) := by
  refine T.F_read.ok sc_read (fun vs H Q E h => ?_) (fun cdv A outer s H vs Q E hr h => ?_)
  · obtain ⟨P, S, tr, ps, k, E, rfl, _⟩ := h
    rfl
  · obtain ⟨P, S, tr, ps, k, En, rfl, hP, hp, hS, ok, sm, eq, k0, k1, kt, kr⟩ := h
    have lt := Paired.len hp
    obtain ⟨e0, he0⟩ := eq.at k0 k1
    refine ⟨_, (pss_cons (ps_set (i := 3) sc_read.nd rfl (Or.inl rfl) (pe_glob (v := .ref Z.aS) rfl T.g_STILL rfl))
      (pss_one (ps_while PassesOwn.never (pt_val pe_bl) (pss_cons (ps_set (i := 4) sc_read.nd rfl (Or.inl rfl) (pe_call (ok_index_at T) (hr.mono (by decide)) rfl T.g_index_at T.k_index_at T.bn_index_at .nil pass0 (pa_cons (pv 1) (pa_cons (pv 2) pa_nil))))
      (pss_cons (ps_set (i := 5) sc_read.nd rfl (Or.inl rfl) (pe_ix ix_tup (pv 0) (pv 4) (fun _ _ => rfl)))
      (pss_cons (ps_if (pt_cmpR op_eq (pe_ix ix_tup (pv 5) pe_int (fun _ _ => rfl)) pe_str (nomark _)) (pss_one (ps_ret (pe_tup (pa_cons (pe_call (ok_word_of T) (hr.mono (by decide)) rfl T.g_word_of T.k_word_of T.bn_word_of .nil pass0 (pa_cons (pv 3) pa_nil)) (pa_cons (pv 2) (pa_cons (pe_ix ix_tup (pv 3) pe_int (fun _ _ => rfl)) pa_nil)))))) pss_nil)
      (pss_cons (ps_if (pt_cmpR op_eq (pe_ix ix_tup (pv 5) pe_int (fun _ _ => rfl)) pe_str (nomark _)) (pss_one (ps_ret (pe_tup (pa_cons pe_str (pa_cons (pe_call (ok_led_by T) (hr.mono (by decide)) rfl T.g_led_by T.k_led_by T.bn_led_by .nil pass0 (pa_cons (pv 3) (pa_cons (pe_ix ix_tup (pv 5) pe_int (fun _ _ => rfl)) pa_nil))) pa_nil))))) pss_nil)
      (pss_cons (ps_asg (pe_call (ok_source T) (hr.mono (by decide)) rfl T.g_source_pieces T.k_source T.bn_source .nil pass0 (pa_cons (pv 5) (pa_cons (pe_ix ix_tup (pv 1) (pv 4) (fun _ _ => rfl)) (pa_cons (pv 2) pa_nil)))) (pg_tup rfl (pgs_cons (pg_name (i := 2) sc_read.nd rfl (Or.inl rfl)) (pgs_cons (pg_name (i := 6) sc_read.nd rfl (Or.inl rfl)) pgs_nil))))
      (pss_one (ps_set (i := 3) sc_read.nd rfl (Or.inl rfl) (pe_call (ok_led_on T) (hr.mono (by decide)) rfl T.g_led_on T.k_led_on T.bn_led_on .nil pass0 (pa_cons (pe_call (ok_led_often T) (hr.mono (by decide)) rfl T.g_led_often T.k_led_often T.bn_led_often .nil pass0 (pa_cons (pe_tup (pa_cons (pe_ix ix_tup (pv 5) pe_int (fun _ _ => rfl)) (pa_cons (pe_ix ix_tup (pv 5) pe_int (fun _ _ => rfl)) pa_nil))) (pa_cons (pv 6) pa_nil))) (pa_cons (pv 3) pa_nil))))))))))))), ?_⟩
    refine while_by (fun σ H2 => ∃ (pl a : Int) (d : Bool) (q : Addr) (v4 v5 v6 : Option V) (e : Ent), σ = [some (.ref P), some (.ref S), some (.int pl), some (.ref q), v4, v5, v6] ∧ Same H H2 ∧ LeadAt K H2 q a d ∧ 0 ≤ pl ∧ pl < pre ps ps.length ∧ En[pl.toNat]? = some e ∧ e0 = act a d e) (fun σ _ => match σ with | [_, _, some (.int pl), _, _, _, _] => pl.toNat | _ => 0)
      ⟨k, 0, false, Z.aS, none, none, none, e0, rfl, Same.refl H, T.z_still H, k0, k1, he0, (act_still e0).symm⟩ ?_ ?_
    · rintro σ H2 ⟨pl, a, d, q, v4, v5, v6, e, rfl, s2, hl, p0, p1, he, ee⟩
      refine ⟨true, rfl, iteT ?_⟩
      refine ⟨_, rfl, _, rfl, S, ps, pl, rfl, s2 _ _ hS, ok, p0, p1, fun i hi h1 h2 => ?_⟩
      obtain ⟨v, hv⟩ : ∃ v, tr[i]? = some v := ⟨_, List.getElem?_eq_getElem (by omega)⟩
      obtain ⟨p, hp', y, rfl, hy⟩ := Paired.at hp hv
      have hy2 : H2 y = some (.tup (pcV p)) := s2 _ _ hy
      have nx := pre_succ hp'
      refine ⟨_, rfl, _, rfl, P, tr, _, _, rfl, rfl, SqT.of (s2 _ _ hP), atI_nat hv, ?_⟩
      have sy := eq.says i p (pl - pre ps i) hp' (by omega) (by omega) (by omega)
      have ep : pre ps i + (pl - pre ps i) = pl := by omega
      have oki := ok.at_ i p hp'
      have hi1 := pre_le ok.at_ (show i + 1 ≤ ps.length by omega) (Nat.le_refl _)
      cases p with
      | new l =>
        refine ⟨_, rfl, y, _, 0, .str "new", rfl, rfl, SqT.of hy2, rfl, rfl, _, rfl, ?_⟩
        rw [show decide (V.str "new" = V.str "new") = true by decide +kernel]
        refine iteT ⟨_, rfl, q, a, d, rfl, hl, _, rfl, _, rfl, q, _, 0, .int a, rfl, rfl, hl, rfl, by show 3 ≤ sizeLine; decide, fun x hx => ?_⟩
        have sy' : En[(pre ps i + (pl - pre ps i)).toNat]? = some (.rel false (aheadN ps i + (pl - pre ps i)) 0) := sy
        rw [ep, he] at sy'
        have e1 := Option.some.inj sy'
        have e2 : e0 = .rel d (aheadN ps i + (pl - pre ps i)) a := by
          rw [ee, e1]
          cases d <;> simp [act, ledI]
        exact kr d i l a pl x _ hp' h1 (by show pl < pre ps i + l; have : pre ps (i + 1) = pre ps i + l := nx; omega) (by rw [he0, e2]) (L2.Same.free s2 hx) (Same.new s2 hx) upd_same
      | notes l z =>
        refine ⟨_, rfl, y, _, 0, .str "notes", rfl, rfl, SqT.of hy2, rfl, rfl, _, rfl, ?_⟩
        rw [show decide (V.str "notes" = V.str "new") = false by decide +kernel]
        refine iteF ⟨_, rfl, y, _, 0, .str "notes", rfl, rfl, SqT.of hy2, rfl, rfl, _, rfl, ?_⟩
        rw [show decide (V.str "notes" = V.str "notes") = true by decide +kernel]
        refine iteT ⟨_, rfl, _, rfl, y, _, 2, .int z, rfl, rfl, SqT.of hy2, rfl, q, a, d, z, rfl, hl, by show 2 ≤ sizeLine; decide, fun x hx => ?_⟩
        have sy' : En[(pre ps i + (pl - pre ps i)).toNat]? = some (.told z) := sy
        rw [ep, he] at sy'
        have e1 := Option.some.inj sy'
        have e2 : e0 = .told (ledI a d z) := by
          rw [ee, e1]
          rfl
        exact kt _ x _ (by rw [he0, e2]) (L2.Same.free s2 hx) (Same.new s2 hx) upd_same
      | copy f l a' d' b' =>
        obtain ⟨f0, f1, l1, _, _, fb⟩ := oki
        have nx' : pre ps (i + 1) = pre ps i + l := nx
        refine ⟨_, rfl, y, _, 0, .str "copy", rfl, rfl, SqT.of hy2, rfl, rfl, _, rfl, ?_⟩
        rw [show decide (V.str "copy" = V.str "new") = false by decide +kernel]
        refine iteF ⟨_, rfl, y, _, 0, .str "copy", rfl, rfl, SqT.of hy2, rfl, rfl, _, rfl, ?_⟩
        rw [show decide (V.str "copy" = V.str "notes") = false by decide +kernel]
        refine iteF ⟨_, rfl, _, rfl, _, rfl, S, _, _, _, rfl, rfl, SqT.of (s2 _ _ hS), stV_at (by omega), _, rfl, y, f, l, a', d', b', _, pl, rfl, hy2, f0, f1, h1, by omega, fun x H3 nx3 s3 hx => ?_⟩
        refine ⟨x, _, rfl, SqT.of hx, rfl, _, _, rfl, _, _, rfl, rfl, ?_⟩
        -- where it comes from
        have key : ∃ (m : Nat) (e2 : Ent), (srcOf f l b' (pre ps i) pl).2 = (m : Int) ∧ (m : Int) < 2 ^ 62 ∧ 0 ≤ (srcOf f l b' (pre ps i) pl).1 ∧ (srcOf f l b' (pre ps i) pl).1 < pl ∧ En[((srcOf f l b' (pre ps i) pl).1).toNat]? = some e2 ∧ e = act (oftA a' d' m) (oftD d' m) e2 := by
          unfold srcOf
          cases b' with
          | true =>
            have fb' := fb rfl
            rw [if_pos rfl]
            obtain ⟨e2, g1, g2⟩ := sy
            rw [ep, he] at g2
            have es : spot f l true (pl - pre ps i) = f + pre ps i + l - 1 - pl := by
              unfold spot
              rw [if_pos rfl]
              omega
            rw [es] at g1
            refine ⟨1, e2, rfl, by decide, by show 0 ≤ f + pre ps i + l - 1 - pl; omega, by show f + pre ps i + l - 1 - pl < pl; omega, g1, ?_⟩
            rw [Option.some.inj g2]
            have o1 : oftA a' d' ((1 : Nat) : Int) = a' := by unfold oftA; cases d' <;> simp
            have o2 : oftD d' ((1 : Nat) : Int) = d' := by unfold oftD; cases d' <;> simp
            rw [o1, o2]
          | false =>
            rw [if_neg (by decide)]
            dsimp only
            generalize hs : pre ps i - f = sh
            have s0 : 0 < sh := by omega
            have b1 : 0 ≤ (pl - pre ps i) / sh := Int.ediv_nonneg (by omega) (by omega)
            have b2 : (pl - pre ps i) / sh * sh ≤ pl - pre ps i := Int.ediv_mul_le _ (by omega)
            have b3 : pl - pre ps i < ((pl - pre ps i) / sh + 1) * sh := Int.lt_ediv_add_one_mul_self _ s0
            have b4 : (pl - pre ps i) / sh ≤ pl - pre ps i := Int.ediv_le_self _ (by omega)
            obtain ⟨m, hm⟩ : ∃ m : Nat, (pl - pre ps i) / sh + 1 = (m : Int) := ⟨((pl - pre ps i) / sh + 1).toNat, by omega⟩
            have b5 : ((m : Int) - 1) * sh ≤ pl - pre ps i := by rw [show (m : Int) - 1 = (pl - pre ps i) / sh by omega]; exact b2
            rw [hm] at b3 ⊢
            have b6 : (m : Int) * sh = ((m : Int) - 1) * sh + sh := by rw [Int.sub_mul, Int.one_mul]; omega
            have := pre_nn ok.at_ (show i ≤ ps.length by omega)
            obtain ⟨e2, e3, g1, g2, g3⟩ := copy_source ok eq hp' h1 (by omega) m (by omega) (by rw [hs]; omega)
            rw [hs] at g1
            rw [he] at g2
            exact ⟨m, e2, rfl, by omega, by omega, by omega, g1, by rw [Option.some.inj g2]; exact g3⟩
        obtain ⟨m, e2, em, m1, q0, q1, g1, g2⟩ := key
        rw [em]
        have s23 := s2.trans s3
        have hy3 := s3 _ _ hy2
        generalize (srcOf f l b' (pre ps i) pl).1 = pl2 at q0 q1 g1 ⊢
        refine ⟨_, rfl, y, _, 3, .int a', rfl, rfl, SqT.of hy3, rfl, _, rfl, y, _, 4, .bl d', rfl, rfl, SqT.of hy3, rfl, by show 2 ≤ sizeLine; decide, fun t ht => ?_⟩
        have s4 := Same.new (o := .tup [.int a', .bl d']) (Same.refl H3) ht
        refine ⟨_, rfl, t, a', d', m, rfl, SqT.of upd_same, by omega, by omega, fun x2 H4 s5 hx2 => ?_⟩
        have s35 := s4.trans s5
        refine ⟨_, rfl, x2, q, _, a, _, d, rfl, hx2, (hl.same s3).same s35, fun x3 H5 nx5 s6 hx3 => ?_⟩
        refine ⟨⟨pl2, _, _, x3, _, _, _, e2, rfl, (s23.trans s35).trans s6, hx3, q0, by omega, g1, ?_⟩, by show pl2.toNat < pl.toNat; omega⟩
        rw [ee, g2, act_act]
    · rintro σ H2 Q1 Q2 hQ ⟨b, e, q1⟩
      exact ⟨b, e, hQ _ _ q1⟩
end
end TT

set_option maxHeartbeats 4000000
namespace TT
open PySem PySem.Spec PyProof.Rows L2 LamX TL
/-! ### melodies -/
def mf1 (P : Addr) : List (Str × V) := putF "pieces" (.ref P) []
def mf2 (P S : Addr) : List (Str × V) := putF "starts" (.ref S) (mf1 P)
def mf3 (P S A : Addr) : List (Str × V) := putF "ahead" (.ref A) (mf2 P S)
def mf4 (P S A : Addr) (z : Int) : List (Str × V) := putF "size" (.int z) (mf3 P S A)
def mfs (P S A : Addr) (z n : Int) : List (Str × V) := putF "new" (.int n) (mf4 P S A z)
theorem len_putF {f : Str} {v : V} {fs : List (Str × V)} {n : Nat} (h : fs.length ≤ n) : (putF f v fs).length ≤ n + 1 := Nat.le_trans (length_putF f v fs) (Nat.succ_le_succ h)
theorem mf4_lookup (P S A : Addr) (z : Int) (g : Str) : (mf4 P S A z).lookup g = if g = "size" then some (.int z) else if g = "ahead" then some (.ref A) else if g = "starts" then some (.ref S) else if g = "pieces" then some (.ref P) else none := by
  unfold mf4 mf3 mf2 mf1
  rw [lookup_putF, lookup_putF, lookup_putF, lookup_putF]
  rfl
theorem mfs_lookup (P S A : Addr) (z n : Int) (g : Str) : (mfs P S A z n).lookup g = if g = "new" then some (.int n) else if g = "size" then some (.int z) else if g = "ahead" then some (.ref A) else if g = "starts" then some (.ref S) else if g = "pieces" then some (.ref P) else none := by
  unfold mfs
  rw [lookup_putF, mf4_lookup]
theorem mfs_pieces (P S A : Addr) (z n : Int) : (mfs P S A z n).lookup ("pieces" : Str) = some (.ref P) := by rw [mfs_lookup, if_neg (by decide +kernel), if_neg (by decide +kernel), if_neg (by decide +kernel), if_neg (by decide +kernel), if_pos rfl]
theorem mfs_starts (P S A : Addr) (z n : Int) : (mfs P S A z n).lookup ("starts" : Str) = some (.ref S) := by rw [mfs_lookup, if_neg (by decide +kernel), if_neg (by decide +kernel), if_neg (by decide +kernel), if_pos rfl]
theorem mfs_ahead (P S A : Addr) (z n : Int) : (mfs P S A z n).lookup ("ahead" : Str) = some (.ref A) := by rw [mfs_lookup, if_neg (by decide +kernel), if_neg (by decide +kernel), if_pos rfl]
theorem mfs_size (P S A : Addr) (z n : Int) : (mfs P S A z n).lookup ("size" : Str) = some (.int z) := by rw [mfs_lookup, if_neg (by decide +kernel), if_pos rfl]
theorem mfs_new (P S A : Addr) (z n : Int) : (mfs P S A z n).lookup ("new" : Str) = some (.int n) := by rw [mfs_lookup, if_pos rfl]
theorem mf3_starts (P S A : Addr) : (mf3 P S A).lookup ("starts" : Str) = some (.ref S) := by
  unfold mf3 mf2 mf1
  rw [lookup_putF, lookup_putF, if_neg (by decide +kernel), if_pos rfl]
theorem mf4_ahead (P S A : Addr) (z : Int) : (mf4 P S A z).lookup ("ahead" : Str) = some (.ref A) := by rw [mf4_lookup, if_neg (by decide +kernel), if_pos rfl]
/-- a melody of these pieces stands at q -/
structure MelIs (B : Addr) (H : Hp) (q : Addr) (ps : List Pc) (dx P S A : Addr) (tr : List V) : Prop where
  ins : H q = some (.ins B dx (mfs P S A (pre ps ps.length) (aheadN ps ps.length)))
  pieces : H P = some (.tup tr)
  pcs : PcsAt H tr ps
  starts : H S = some (.tup (stV ps))
  ahead : H A = some (.tup (ahV ps))
def MelAt (B : Addr) (H : Hp) (q P : Addr) (ps : List Pc) : Prop := ∃ dx S A tr, MelIs B H q ps dx P S A tr
theorem MelAt.same {B : Addr} {H H' : Hp} (s : Same H H') {q P : Addr} {ps : List Pc} (h : MelAt B H q P ps) : MelAt B H' q P ps := by
  obtain ⟨dx, S, A, tr, h⟩ := h
  exact ⟨dx, S, A, tr, s _ _ h.ins, s _ _ h.pieces, h.pcs.same s, s _ _ h.starts, s _ _ h.ahead⟩
def entV : Ent → List V
  | .told x => [.str "told", .int x]
  | .rel d k c => [.str (word d), .int k, .int c]
def sp_is_copy : Sp := fun vs H Q _ => ∃ (q : Addr) (f l a : Int) (d b : Bool) (h : Int), vs = [.ref q, .int h] ∧ PcAt H q (.copy f l a d b) ∧ Pc.OkAt h (.copy f l a d b) ∧ Q (.bl true) H
def sp_is_piece : Sp := fun vs H Q _ => ∃ (q : Addr) (p : Pc) (h : Int), vs = [.ref q, .int h] ∧ PcAt H q p ∧ p.OkAt h ∧ Q (.bl true) H
def sp_are_pieces : Sp := fun vs H Q _ => ∃ (P : Addr) (tr : List V) (ps : List Pc), vs = [.ref P] ∧ H P = some (.tup tr) ∧ PcsAt H tr ps ∧ PsOk ps ∧ Q (.bl true) H
def sp_M_init (B : Addr) : Sp := fun vs H Q _ => ∃ (q dx P : Addr) (tr : List V) (ps : List Pc), vs = [.ref q, .ref P] ∧ H P = some (.tup tr) ∧ PcsAt H tr ps ∧ PsOk ps ∧ H q = some (.ins B dx []) ∧ ∀ H', MelAt B H' q P ps → Keep q H H' → Q .non H'
def sp_M_getitem (K : PySem.W.Frag) (Z : Zs) : Sp := fun vs H Q E => ∃ (q P : Addr) (ps : List Pc) (v : V), vs = [.ref q, v] ∧ MelAt Z.cB H q P ps ∧ PsOk ps ∧
  ((∃ (k : Int) (En : List Ent), v = .int k ∧ 0 ≤ k ∧ k < pre ps ps.length ∧ pre ps ps.length < 2 ^ 62 ∧ Eqs ps (pre ps ps.length) En ∧ ∀ e x H', En[k.toNat]? = some e → H x = none → Same H H' → H' x = some (.tup (entV e)) → Q (.ref x) H') ∨
   (∃ o, IsI K H v o ∧ (∀ i, o = some i → ¬ (0 ≤ i ∧ i < pre ps ps.length)) ∧ Out E (Z.c 0) v H))
section
variable {P : Program} {w : World} {K : PySem.W.Frag} {mg : Str → Option Value} {base : Heap} {Z : Zs}
theorem ok_is_copy (T : Txt K mg Z) : FnOk P w K mg base CX0 4 Z.f_is_copy Z.d_is_copy ["piece", "here"] sp_is_copy := by
  refine T.F_is_copy.ok sc_is_copy (fun vs H Q E h => ?_) (fun cdv A outer s H vs Q E hr h => ?_)
  · obtain ⟨q, f, l, a, d, b, h, rfl, _⟩ := h
    rfl
  · obtain ⟨q, f, l, a, d, b, h, rfl, hq, ⟨f0, f1, l1, a0, a1, fb⟩, k⟩ := h
    have hq' : H q = some (.tup [.str "copy", .int f, .int l, .int a, .bl d, .bl b]) := hq
    refine ⟨_, (pss_cons (ps_asg (pv 0) (pg_tup rfl (pgs_cons (pg_name (i := 2) sc_is_copy.nd rfl (Or.inl rfl)) (pgs_cons (pg_name (i := 3) sc_is_copy.nd rfl (Or.inl rfl)) (pgs_cons (pg_name (i := 4) sc_is_copy.nd rfl (Or.inl rfl)) (pgs_cons (pg_name (i := 5) sc_is_copy.nd rfl (Or.inl rfl)) (pgs_cons (pg_name (i := 6) sc_is_copy.nd rfl (Or.inl rfl)) (pgs_cons (pg_name (i := 7) sc_is_copy.nd rfl (Or.inl rfl)) pgs_nil))))))))
      (pss_cons (ps_if (pt_not (PW.pt (pw_and (pt_val (pe_call (ok_is_between T) (hr.mono (by decide)) rfl T.g_is_between T.k_is_between T.bn_is_between .nil pass0 (pa_cons (pv 3) (pa_cons pe_int (pa_cons (pe_op op_sub (pv 1) pe_int) pa_nil))))) (pw_and (pt_val (pe_call (ok_is_from T) (hr.mono (by decide)) rfl T.g_is_from T.k_is_from T.bn_is_from .nil pass0 (pa_cons (pv 4) (pa_cons pe_int pa_nil)))) (pw_and1 (pt_val (pe_call (ok_is_whole T) (hr.mono (by decide)) rfl T.g_is_whole T.k_is_whole T.bn_is_whole .nil pass0 (pa_cons (pv 5) pa_nil)))))))) (pss_one (ps_ret pe_bl)) pss_nil)
      (pss_cons (ps_if (pt_not (PW.pt (pw_and (pt_val (pe_callB  call_isi (by rfl) T.b_isinstance (by decide +kernel) (pa_cons (pv 6) (pa_cons (pe_bltn (v := .ty "bool") rfl T.b_bool (by decide +kernel) rfl) pa_nil)))) (pw_and1 (pt_val (pe_callB  call_isi (by rfl) T.b_isinstance (by decide +kernel) (pa_cons (pv 7) (pa_cons (pe_bltn (v := .ty "bool") rfl T.b_bool (by decide +kernel) rfl) pa_nil)))))))) (pss_one (ps_ret pe_bl)) pss_nil)
      (pss_one (ps_ret (pe_or (pe_not (pv 7)) (pe_one (pe_cmpR op_le (pe_op op_add (pv 3) (pv 4)) (pv 1) (nomark _))))))))), ?_⟩
    refine ⟨_, rfl, q, _, rfl, SqT.of hq', rfl, _, _, rfl, _, _, rfl, _, _, rfl, _, _, rfl, _, _, rfl, _, _, rfl, rfl, ?_⟩
    refine ⟨_, rfl, _, rfl, _, _, rfl, rfl, .inl ⟨f, 0, h - 1, rfl, true, by rw [decide_eq_true f0, decide_eq_true (by omega)] <;> rfl, iteT ?_⟩⟩
    refine ⟨_, rfl, .inl ⟨l, 1, rfl, true, by rw [decide_eq_true l1], iteT ?_⟩⟩
    refine ⟨_, rfl, _, true, rfl, whole_int a, true, rfl, iteF ?_⟩
    refine ⟨_, rfl, _, _, _, _, true, rfl, .ty "bool", .base (.bl d), kit_ty (by decide +kernel), true, rfl, iteT ?_⟩
    refine ⟨_, rfl, _, _, _, _, true, rfl, .ty "bool", .base (.bl b), kit_ty (by decide +kernel), true, rfl, iteF ?_⟩
    cases b with
    | false => exact ⟨_, rfl, false, rfl, true, rfl, iteT k⟩
    | true =>
      have := fb rfl
      refine ⟨_, rfl, true, rfl, false, rfl, iteF ⟨_, rfl, _, rfl, _, _, rfl, rfl, _, rfl, _, _, rfl, rfl, ?_⟩⟩
      show Q (.bl (decide (f + l ≤ h))) H
      rw [decide_eq_true this]
      exact k
theorem ok_is_piece (T : Txt K mg Z) : FnOk P w K mg base CX0 5 Z.f_is_piece Z.d_is_piece ["value", "here"] sp_is_piece := by
  refine T.F_is_piece.ok sc_is_piece (fun vs H Q E h => ?_) (fun cdv A outer s H vs Q E hr h => ?_)
  · obtain ⟨q, p, h, rfl, _⟩ := h
    rfl
  · obtain ⟨q, p, h, rfl, hq, o, k⟩ := h
    refine ⟨_, (pss_cons (ps_if (PW.pt (pw_or (pt_not (pt_val (pe_callB  call_isi (by rfl) T.b_isinstance (by decide +kernel) (pa_cons (pv 0) (pa_cons (pe_bltn (v := .ty "tuple") rfl T.b_tuple (by decide +kernel) rfl) pa_nil))))) (pw_or1 (pt_cmpR op_eq (pe_callB  call_len (by rfl) T.b_len (by decide +kernel) (pa_cons (pv 0) pa_nil)) pe_int (nomark _))))) (pss_one (ps_ret pe_bl)) pss_nil)
      (pss_cons (ps_if (pt_cmpR op_eq (pe_ix ix_tup (pv 0) pe_int (fun _ _ => rfl)) pe_str (nomark _)) (pss_one (ps_ret (pe_and (pe_cmpR op_eq (pe_callB  call_len (by rfl) T.b_len (by decide +kernel) (pa_cons (pv 0) pa_nil)) pe_int (nomark _)) (pe_one (pe_call (ok_is_from T) (hr.mono (by decide)) rfl T.g_is_from T.k_is_from T.bn_is_from .nil pass0 (pa_cons (pe_ix ix_tup (pv 0) pe_int (fun _ _ => rfl)) (pa_cons pe_int pa_nil))))))) pss_nil)
      (pss_cons (ps_if (pt_cmpR op_eq (pe_ix ix_tup (pv 0) pe_int (fun _ _ => rfl)) pe_str (nomark _)) (pss_one (ps_ret (pe_and (pe_cmpR op_eq (pe_callB  call_len (by rfl) T.b_len (by decide +kernel) (pa_cons (pv 0) pa_nil)) pe_int (nomark _)) (pe_and (pe_call (ok_is_from T) (hr.mono (by decide)) rfl T.g_is_from T.k_is_from T.bn_is_from .nil pass0 (pa_cons (pe_ix ix_tup (pv 0) pe_int (fun _ _ => rfl)) (pa_cons pe_int pa_nil))) (pe_one (pe_call (ok_is_whole T) (hr.mono (by decide)) rfl T.g_is_whole T.k_is_whole T.bn_is_whole .nil pass0 (pa_cons (pe_ix ix_tup (pv 0) pe_int (fun _ _ => rfl)) pa_nil))))))) pss_nil)
      (pss_one (ps_ret (pe_and (pe_cmpR op_eq (pe_ix ix_tup (pv 0) pe_int (fun _ _ => rfl)) pe_str (nomark _)) (pe_and (pe_cmpR op_eq (pe_callB  call_len (by rfl) T.b_len (by decide +kernel) (pa_cons (pv 0) pa_nil)) pe_int (nomark _)) (pe_one (pe_call (ok_is_copy T) (hr.mono (by decide)) rfl T.g_is_copy T.k_is_copy T.bn_is_copy .nil pass0 (pa_cons (pv 0) (pa_cons (pv 1) pa_nil))))))))))), ?_⟩
    have hq' : H q = some (.tup (pcV p)) := hq
    have len : ((pcV p).length : Int) ≠ 0 := by cases p <;> simp [pcV]
    refine ⟨_, rfl, _, _, _, _, true, rfl, .ty "tuple", .base (.tup hq'), kit_ty (by decide +kernel), true, rfl, iteF ?_⟩
    refine ⟨_, rfl, _, _, rfl, .inr ⟨_, SqT.of hq', rfl⟩, rfl, false, ?_, iteF ?_⟩
    · show V.bl (decide (V.int ((pcV p).length : Int) = V.int 0)) = V.bl false
      rw [decide_eq_false fun z => len (V.int.inj z)]
    cases p with
    | new l =>
      have o1 : 1 ≤ l := o
      refine ⟨_, rfl, q, _, 0, .str "new", rfl, rfl, SqT.of hq', rfl, rfl, true, by rw [show decide (V.str "new" = V.str "new") = true by decide +kernel], iteT ?_⟩
      refine ⟨_, rfl, _, _, rfl, .inr ⟨_, SqT.of hq', rfl⟩, rfl, true, rfl, iteT ?_⟩
      refine ⟨_, rfl, q, _, 1, .int l, rfl, rfl, SqT.of hq', rfl, .inl ⟨l, 1, rfl, ?_⟩⟩
      rw [decide_eq_true o1]
      exact k
    | notes l x =>
      have o1 : 1 ≤ l := o.1
      refine ⟨_, rfl, q, _, 0, .str "notes", rfl, rfl, SqT.of hq', rfl, rfl, false, by rw [show decide (V.str "notes" = V.str "new") = false by decide +kernel], iteF ?_⟩
      refine ⟨_, rfl, q, _, 0, .str "notes", rfl, rfl, SqT.of hq', rfl, rfl, true, by rw [show decide (V.str "notes" = V.str "notes") = true by decide +kernel], iteT ?_⟩
      refine ⟨_, rfl, _, _, rfl, .inr ⟨_, SqT.of hq', rfl⟩, rfl, true, rfl, iteT ?_⟩
      refine ⟨_, rfl, q, _, 1, .int l, rfl, rfl, SqT.of hq', rfl, .inl ⟨l, 1, rfl, true, by rw [decide_eq_true o1], iteT ?_⟩⟩
      exact ⟨_, rfl, q, _, 2, .int x, rfl, rfl, SqT.of hq', rfl, _, true, rfl, whole_int x, k⟩
    | copy f l a d b =>
      refine ⟨_, rfl, q, _, 0, .str "copy", rfl, rfl, SqT.of hq', rfl, rfl, false, by rw [show decide (V.str "copy" = V.str "new") = false by decide +kernel], iteF ?_⟩
      refine ⟨_, rfl, q, _, 0, .str "copy", rfl, rfl, SqT.of hq', rfl, rfl, false, by rw [show decide (V.str "copy" = V.str "notes") = false by decide +kernel], iteF ?_⟩
      refine ⟨_, rfl, q, _, 0, .str "copy", rfl, rfl, SqT.of hq', rfl, rfl, true, by rw [show decide (V.str "copy" = V.str "copy") = true by decide +kernel], iteT ?_⟩
      refine ⟨_, rfl, _, _, rfl, .inr ⟨_, SqT.of hq', rfl⟩, rfl, true, rfl, iteT ?_⟩
      exact ⟨_, rfl, _, rfl, q, f, l, a, d, b, h, rfl, hq, o, k⟩
theorem ok_are_pieces (T : Txt K mg Z) : FnOk P w K mg base CX0 6 Z.f_are_pieces Z.d_are_pieces ["value"] sp_are_pieces := by
  refine T.F_are_pieces.ok sc_are_pieces (fun vs H Q E h => ?_) (fun cdv A outer s H vs Q E hr h => ?_)
  · obtain ⟨q, tr, ps, rfl, _⟩ := h
    rfl
  · obtain ⟨q, tr, ps, rfl, hq, hp, ok, k⟩ := h
    refine ⟨_, (pss_cons (ps_if (PW.pt (pw_or (pt_not (pt_val (pe_callB  call_isi (by rfl) T.b_isinstance (by decide +kernel) (pa_cons (pv 0) (pa_cons (pe_bltn (v := .ty "tuple") rfl T.b_tuple (by decide +kernel) rfl) pa_nil))))) (pw_or1 (pt_cmpR op_eq (pe_callB  call_len (by rfl) T.b_len (by decide +kernel) (pa_cons (pv 0) pa_nil)) pe_int (nomark _))))) (pss_one (ps_ret pe_bl)) pss_nil)
      (pss_cons (ps_set (i := 1) sc_are_pieces.nd rfl (Or.inl rfl) pe_int)
      (pss_cons (ps_for PassesOwn.never rfl (pi_tup (pv 0)) (pg_name (i := 2) sc_are_pieces.nd rfl (Or.inl rfl)) (pss_cons (ps_if (pt_not (pt_val (pe_call (ok_is_piece T) (hr.mono (by decide)) rfl T.g_is_piece T.k_is_piece T.bn_is_piece .nil pass0 (pa_cons (pv 2) (pa_cons (pv 1) pa_nil))))) (pss_one (ps_ret pe_bl)) pss_nil)
      (pss_one (ps_set (i := 1) sc_are_pieces.nd rfl (Or.inl rfl) (pe_op op_add (pv 1) (pe_call (ok_length_of T) (hr.mono (by decide)) rfl T.g_length_of T.k_length_of T.bn_length_of .nil pass0 (pa_cons (pv 2) pa_nil)))))))
      (pss_one (ps_ret (pe_cmpR op_le (pv 1) (pe_glob (v := .int 1000000000000000000000000000000) rfl T.c_GREATEST ⟨_, rfl⟩) (nomark _))))))), ?_⟩
    have lt := Paired.len hp
    have n1 := ok.n1
    refine ⟨_, rfl, _, _, _, _, true, rfl, .ty "tuple", .base (.tup hq), kit_ty (by decide +kernel), true, rfl, iteF ?_⟩
    refine ⟨_, rfl, _, _, rfl, .inr ⟨_, SqT.of hq, rfl⟩, rfl, false, ?_, iteF ?_⟩
    · show V.bl (decide (V.int (tr.length : Int) = V.int 0)) = V.bl false
      rw [decide_eq_false fun z => by have := V.int.inj z; omega]
    refine ⟨_, rfl, q, rfl, ⟨_, SqT.of hq⟩, for_tup (xs := tr) (fun i σ H' => ∃ v2, σ = [some (.ref q), some (.int (pre ps i)), v2] ∧ H' = H) ⟨_, rfl, rfl⟩ (fun i σ H' _ ⟨_, _, e⟩ => by rw [e]; exact SqT.of hq) ?_ ?_⟩
    · rintro i x σ H1 hi ⟨v2, rfl, rfl⟩
      obtain ⟨p, hp', y, rfl, hy⟩ := Paired.at hp hi
      refine ⟨_, rfl, _, rfl, y, p, _, rfl, hy, ok.at_ i p hp', true, rfl, iteF ?_⟩
      refine ⟨_, rfl, _, rfl, y, p, rfl, hy, _, _, rfl, rfl, ?_⟩
      refine ⟨some (.ref y), ?_, rfl⟩
      rw [pre_succ hp']
      rfl
    · rintro σ H1 ⟨v2, rfl, rfl⟩
      refine ⟨_, rfl, _, _, rfl, rfl, ?_⟩
      have := ok.sz
      rw [lt]
      show Q (.bl (decide (pre ps ps.length ≤ 1000000000000000000000000000000))) H1
      rw [decide_eq_true (by omega)]
      exact k
theorem mkM (T : Txt K mg Z) : Mk K Z.cB Z.f_M_init := ⟨T.mkBc, T.a_M_init, T.i_M_init, T.kB⟩
theorem ok_M_init (T : Txt K mg Z) : FnOk P w K mg base CX0 11 Z.f_M_init Z.d_M_init ["self", "pieces"] (sp_M_init Z.cB) := by
  refine T.F_M_init.ok sc_M_init (fun vs H Q E h => ?_) (fun cdv A outer s H vs Q E hr h => ?_)
  · obtain ⟨q, dx, R, tr, ps, rfl, _⟩ := h
    rfl
  · obtain ⟨q, dx, R, tr, ps, rfl, hR, hps, ok, hq, k⟩ := h
    refine ⟨_, (pss_cons (ps_if (pt_not (pt_val (pe_call (ok_are_pieces T) (hr.mono (by decide)) rfl T.g_are_pieces T.k_are_pieces T.bn_are_pieces .nil pass0 (pa_cons (pv 1) pa_nil)))) (pss_one ps_never) pss_nil)
      (pss_cons (ps_fld (pv 0) (pv 1) rfl)
      (pss_cons (ps_fld (pv 0) (pe_call (ok_starts_of T) (hr.mono (by decide)) rfl T.g_starts_of T.k_starts_of T.bn_starts_of .nil pass0 (pa_cons (pv 1) pa_nil)) rfl)
      (pss_cons (ps_fld (pv 0) (pe_call (ok_new_ahead T) (hr.mono (by decide)) rfl T.g_new_ahead T.k_new_ahead T.bn_new_ahead .nil pass0 (pa_cons (pv 1) pa_nil)) rfl)
      (pss_cons (ps_fld (pv 0) (pe_ix ix_tup (pe_fld (pv 0) rfl) (pe_un un_neg pe_int) (fun _ _ => rfl)) rfl)
      (pss_one (ps_fld (pv 0) (pe_ix ix_tup (pe_fld (pv 0) rfl) (pe_un un_neg pe_int) (fun _ _ => rfl)) rfl))))))), ?_⟩
    refine ⟨_, rfl, R, tr, ps, rfl, hR, hps, ok, true, rfl, iteF ?_⟩
    have l1 : (mf1 R).length ≤ 1 := len_putF (Nat.le_refl 0)
    have pq : R ≠ q := ne_of hR hq fun z => nomatch z
    refine ⟨_, rfl, _, rfl, q, _, dx, _, rfl, hq, T.clB, T.nB_pieces, (by decide : 0 < 1000), ?_⟩
    have c1 : ∀ y o, y ≠ q → H y = some o → upd H q (.ins Z.cB dx (mf1 R)) y = some o := fun y o n e => by rw [upd_ne n]; exact e
    have i1 : upd H q (.ins Z.cB dx (mf1 R)) q = some (.ins Z.cB dx (mf1 R)) := upd_same
    have pne : ∀ {y : Addr} {pc : Pc}, H y = some (.tup (pcV pc)) → y ≠ q := fun e => ne_of e hq fun z => nomatch z
    have ps1 : PcsAt (upd H q (.ins Z.cB dx (mf1 R))) tr ps := Paired.imp (fun _ _ ⟨y, e, t⟩ => ⟨y, e, c1 _ _ (pne t) t⟩) hps
    have R1 := c1 _ _ pq hR
    change tSeq _ _ _ _ (upd H q (.ins Z.cB dx (mf1 R)))
    generalize upd H q (.ins Z.cB dx (mf1 R)) = H1 at c1 i1 ps1 R1 ⊢
    have l2 : ∀ S, (mf2 R S).length ≤ 2 := fun S => len_putF l1
    have l3 : ∀ S A, (mf3 R S A).length ≤ 3 := fun S A => len_putF (l2 S)
    have l4 : ∀ S A z, (mf4 R S A z).length ≤ 4 := fun S A z => len_putF (l3 S A)
    refine ⟨_, rfl, R, tr, ps, rfl, R1, ps1, ok.n8, fun S H2 hS s2 fS => ⟨_, rfl, q, _, dx, _, rfl, s2 _ _ i1, T.clB, T.nB_starts, Nat.lt_of_le_of_lt l1 (by decide), ?_⟩⟩
    have Sq : S ≠ q := ne_of fS (s2 _ _ i1) fun z => nomatch z
    have c2 : ∀ y o, y ≠ q → H2 y = some o → upd H2 q (.ins Z.cB dx (mf2 R S)) y = some o := fun y o n e => by rw [upd_ne n]; exact e
    have i2 : upd H2 q (.ins Z.cB dx (mf2 R S)) q = some (.ins Z.cB dx (mf2 R S)) := upd_same
    have k2 : ∀ y o, y ≠ q → H y = some o → upd H2 q (.ins Z.cB dx (mf2 R S)) y = some o := fun y o n e => c2 _ _ n (s2 _ _ (c1 _ _ n e))
    have S2 := c2 _ _ Sq fS
    change tSeq _ _ _ _ (upd H2 q (.ins Z.cB dx (mf2 R S)))
    generalize upd H2 q (.ins Z.cB dx (mf2 R S)) = H3 at c2 i2 k2 S2 ⊢
    have R2 := k2 _ _ pq hR
    have ps2 : PcsAt H3 tr ps := Paired.imp (fun _ _ ⟨y, e, t⟩ => ⟨y, e, k2 _ _ (pne t) t⟩) hps
    refine ⟨_, rfl, R, tr, ps, rfl, R2, ps2, ok.n8, fun A' H4 hA s4 fA => ⟨_, rfl, q, _, dx, _, rfl, s4 _ _ i2, T.clB, T.nB_ahead, Nat.lt_of_le_of_lt (l2 S) (by decide), ?_⟩⟩
    have Aq : A' ≠ q := ne_of fA (s4 _ _ i2) fun z => nomatch z
    have c4 : ∀ y o, y ≠ q → H4 y = some o → upd H4 q (.ins Z.cB dx (mf3 R S A')) y = some o := fun y o n e => by rw [upd_ne n]; exact e
    have i4 : upd H4 q (.ins Z.cB dx (mf3 R S A')) q = some (.ins Z.cB dx (mf3 R S A')) := upd_same
    have k4 : ∀ y o, y ≠ q → H y = some o → upd H4 q (.ins Z.cB dx (mf3 R S A')) y = some o := fun y o n e => c4 _ _ n (s4 _ _ (k2 _ _ n e))
    have S4 := c4 _ _ Sq (s4 _ _ S2)
    have A4 := c4 _ _ Aq fA
    change tSeq _ _ _ _ (upd H4 q (.ins Z.cB dx (mf3 R S A')))
    generalize upd H4 q (.ins Z.cB dx (mf3 R S A')) = H5 at c4 i4 k4 S4 A4 ⊢
    refine ⟨_, rfl, q, _, dx, _, _, rfl, i4, T.clB, T.nB_starts, mf3_starts _ _ _, _, rfl, S, _, _, _, rfl, rfl, SqT.of S4, stV_last ps, _, rfl, q, _, dx, _, rfl, i4, T.clB, T.nB_size, Nat.lt_of_le_of_lt (l3 S A') (by decide), ?_⟩
    refine ⟨_, rfl, q, _, dx, _, _, rfl, upd_same, T.clB, T.nB_ahead, mf4_ahead _ _ _ _, _, rfl, A', _, _, _, rfl, rfl, SqT.of (by rw [upd_ne Aq]; exact A4), ahV_last ps, _, rfl, q, _, dx, _, rfl, upd_same, T.clB, T.nB_new, Nat.lt_of_le_of_lt (l4 S A' _) (by decide), ?_⟩
    have c6 : ∀ y o, y ≠ q → H5 y = some o → upd (upd H5 q (.ins Z.cB dx (mf4 R S A' (pre ps ps.length)))) q (.ins Z.cB dx (mfs R S A' (pre ps ps.length) (aheadN ps ps.length))) y = some o := fun y o n e => by
      rw [upd_ne n, upd_ne n]
      exact e
    exact k _ ⟨dx, S, A', tr, upd_same, c6 _ _ pq (k4 _ _ pq hR), Paired.imp (fun _ _ ⟨y, e, t⟩ => ⟨y, e, c6 _ _ (pne t) (k4 _ _ (pne t) t)⟩) hps, c6 _ _ Sq S4, c6 _ _ Aq A4⟩ fun y o n e => c6 _ _ n (k4 _ _ n e)
theorem ok_M_getitem (T : Txt K mg Z) : FnOk P w K mg base (L2.CX P w) 5 Z.f_M_getitem Z.d_M_getitem ["self", "at"] (sp_M_getitem K Z) := by
  refine T.F_M_getitem.okX sc_M_getitem (fun vs H Q E h => ?_) (fun cdv A outer s H vs Q E hr h => ?_)
  · obtain ⟨q, R, ps, v, rfl, _⟩ := h
    rfl
  · obtain ⟨q, R, ps, v, rfl, hm, ok, h⟩ := h
    have X0 := T.ex 0 (by decide)
    obtain ⟨dx, S, A', tr, m⟩ := hm
    refine ⟨_, (pss_cons (ps_if (pt_not (pt_val (pe_call (ok_is_between T) (hr.mono (by decide)) rfl T.g_is_between T.k_is_between T.bn_is_between .nil pass0 (pa_cons (pv 1) (pa_cons pe_int (pa_cons (pe_op op_sub (pe_fld (pv 0) rfl) pe_int) pa_nil)))))) (pss_one (ps_raise rfl (takes_of rfl rfl rfl rfl) (pmk_oex (T.ex 0 (by decide)).ox (T.ex 0 (by decide)).ini T.t_E_init (ok_E_init T) (hr.mono (by decide)) T.bn_E_init .nil pass0 rfl T.g_NoPlace (pa_cons (pv 1) pa_nil)))) pss_nil)
      (pss_cons (ps_set (i := 2) sc_M_getitem.nd rfl (Or.inl rfl) (pe_call (ok_read T) (hr.mono (by decide)) rfl T.g_read T.k_read T.bn_read .nil pass0 (pa_cons (pe_fld (pv 0) rfl) (pa_cons (pe_fld (pv 0) rfl) (pa_cons (pv 1) pa_nil)))))
      (pss_cons (ps_if (pt_cmpR op_eq (pe_ix ix_tup (pv 2) pe_int (fun _ _ => rfl)) pe_str (nomark _)) (pss_one (ps_ret (pv 2))) pss_nil)
      (pss_cons (ps_asg (pv 2) (pg_tup rfl (pgs_cons (pg_name (i := 3) sc_M_getitem.nd rfl (Or.inl rfl)) (pgs_cons (pg_name (i := 4) sc_M_getitem.nd rfl (Or.inl rfl)) (pgs_cons (pg_name (i := 5) sc_M_getitem.nd rfl (Or.inl rfl)) pgs_nil)))))
      (pss_cons (ps_set (i := 6) sc_M_getitem.nd rfl (Or.inl rfl) (pe_call (ok_index_at T) (hr.mono (by decide)) rfl T.g_index_at T.k_index_at T.bn_index_at .nil pass0 (pa_cons (pe_fld (pv 0) rfl) (pa_cons (pv 4) pa_nil))))
      (pss_one (ps_ret (pe_tup (pa_cons (pv 3) (pa_cons (pe_op op_sub (pe_op op_add (pe_ix ix_tup (pe_fld (pv 0) rfl) (pv 6) (fun _ _ => rfl)) (pv 4)) (pe_ix ix_tup (pe_fld (pv 0) rfl) (pv 6) (fun _ _ => rfl))) (pa_cons (pv 5) pa_nil))))))))))), ?_⟩
    refine ⟨_, rfl, ?_⟩
    refine ⟨_, rfl, q, _, dx, _, _, rfl, m.ins, T.clB, T.nB_size, mfs_size _ _ _ _ _, _, _, rfl, rfl, ?_⟩
    rcases h with ⟨k, En, rfl, k0, k1, sm, eq, kk⟩ | ⟨o, hv, bad, out⟩
    · refine .inl ⟨k, 0, _, rfl, true, ?_, iteF ?_⟩
      · rw [decide_eq_true k0, decide_eq_true (by omega)] <;> rfl
      refine ⟨_, rfl, q, _, dx, _, _, rfl, m.ins, T.clB, T.nB_pieces, mfs_pieces _ _ _ _ _, _, rfl, q, _, dx, _, _, rfl, m.ins, T.clB, T.nB_starts, mfs_starts _ _ _ _ _, _, rfl, R, S, tr, ps, k, En, rfl, m.pieces, m.pcs, m.starts, ok, sm, eq, k0, k1, fun y x H' he nx s hx => ?_, fun d i l c z x H' hp z0 z1 he nx s hx => ?_⟩
      · refine ⟨_, rfl, x, _, 0, .str "told", rfl, rfl, SqT.of hx, rfl, rfl, true, by rw [show decide (V.str "told" = V.str "told") = true by decide +kernel], iteT ⟨_, rfl, kk _ x H' he nx s hx⟩⟩
      · have w0 : decide (V.str (word d) = V.str "told") = false := by cases d <;> decide +kernel
        have il := (List.getElem?_eq_some_iff.mp hp).1
        have nxt := pre_succ hp
        have z1' : z < pre ps i + l := z1
        have e1 : pre ps (i + 1) = pre ps i + l := nxt
        have mono := pre_le ok.at_ (show i + 1 ≤ ps.length by omega) (Nat.le_refl _)
        have nn := pre_nn ok.at_ (show i ≤ ps.length by omega)
        refine ⟨_, rfl, x, _, 0, .str (word d), rfl, rfl, SqT.of hx, rfl, rfl, false, by rw [w0], iteF ?_⟩
        refine ⟨_, rfl, x, _, rfl, SqT.of hx, rfl, _, _, rfl, _, _, rfl, _, _, rfl, rfl, ?_⟩
        refine ⟨_, rfl, q, _, dx, _, _, rfl, s _ _ m.ins, T.clB, T.nB_starts, mfs_starts _ _ _ _ _, _, rfl, S, ps, z, rfl, s _ _ m.starts, ok, by omega, by omega, fun j hj h1 h2 => ?_⟩
        have ej : j = i := loc_uniq ok.at_ hj il h1 h2 z0 (by omega)
        subst ej
        refine ⟨_, rfl, _, rfl, q, _, dx, _, _, rfl, s _ _ m.ins, T.clB, T.nB_ahead, mfs_ahead _ _ _ _ _, _, rfl, A', _, _, _, rfl, rfl, SqT.of (s _ _ m.ahead), ahV_at (by omega), _, rfl, _, _, rfl, rfl, ?_⟩
        refine ⟨_, rfl, q, _, dx, _, _, rfl, s _ _ m.ins, T.clB, T.nB_starts, mfs_starts _ _ _ _ _, _, rfl, S, _, _, _, rfl, rfl, SqT.of (s _ _ m.starts), stV_at (by omega), _, _, rfl, rfl, _, rfl, by show 3 ≤ sizeLine; decide, fun t ht => ?_⟩
        have e2 : aheadN ps j + z - pre ps j = aheadN ps j + (z - pre ps j) := by omega
        have k3 := kk _ t (upd H' t (.tup [.str (word d), .int (aheadN ps j + z - pre ps j), .int c])) he (L2.Same.free s ht) (Same.new s ht) (by rw [upd_same, e2]; rfl)
        exact k3
    · cases hv with
      | int i =>
        have := bad i rfl
        refine .inl ⟨i, 0, _, rfl, false, ?_, iteT ⟨_, rfl, mkR X0 out⟩⟩
        by_cases c : 0 ≤ i
        · rw [decide_eq_true c, decide_eq_false (by omega)] <;> rfl
        · rw [decide_eq_false c] <;> rfl
      | no hw => exact .inr ⟨v, _, _, rfl, hw, false, rfl, iteT ⟨_, rfl, mkR X0 out⟩⟩
end
end TT

set_option maxHeartbeats 4000000
namespace TT
open PySem PySem.Spec PyProof.Rows L2 LamX TL
/-! ### what the law draws -/
theorem pre_app {ps : List Pc} {X : List Pc} {i : Nat} (h : i ≤ ps.length) : pre (ps ++ X) i = pre ps i := by
  unfold pre
  rw [List.take_append_of_le_length h]
theorem pre_snoc (ps : List Pc) (p : Pc) : pre (ps ++ [p]) (ps.length + 1) = pre ps ps.length + p.len := by
  have e : (ps ++ [p])[ps.length]? = some p := by rw [List.getElem?_append_right (Nat.le_refl _), Nat.sub_self]; rfl
  rw [pre_succ e, pre_app (Nat.le_refl _)]
theorem Fits.snoc {ps : List Pc} {p : Pc} (f : Fits ps) (o : p.OkAt (pre ps ps.length)) : Fits (ps ++ [p]) := by
  intro i q h
  by_cases c : i < ps.length
  · rw [List.getElem?_append_left c] at h
    rw [pre_app (by omega)]
    exact f i q h
  · have hl := (List.getElem?_eq_some_iff.mp h).1
    rw [List.length_append, List.length_singleton] at hl
    have : i = ps.length := by omega
    subst this
    rw [List.getElem?_append_right (Nat.le_refl _), Nat.sub_self] at h
    obtain rfl : p = q := Option.some.inj h
    rw [pre_app (Nat.le_refl _)]
    exact o
theorem keep_put {p D : Addr} {H H1 : Hp} {o : HO} (k : Keep p H H1) (hD : H D = none) : Keep p H (upd H1 D o) := fun b u hb e => by
  rw [upd_ne (ne_of_none e hD)]
  exact k b u hb e
theorem Pot.put {H : Hp} {p D : Addr} {n : Nat} {o : HO} (h : Pot H p n) (e : p ≠ D) : Pot (upd H D o) p n := by
  obtain ⟨own, mix, h, r⟩ := h
  exact ⟨own, mix, by rw [upd_ne e]; exact h, r⟩
theorem PcsAt.put {H : Hp} {D : Addr} {xs : List V} {o : HO} (hD : H D = some (.lst xs)) {tr : List V} {ps : List Pc} (h : PcsAt H tr ps) : PcsAt (upd H D o) tr ps := Paired.imp (fun _ _ ⟨y, e, t⟩ => ⟨y, e, by
  have n : y ≠ D := ne_of t hD fun z => nomatch z
  unfold PcAt
  rw [upd_ne n]
  exact t⟩) h
theorem PcsAt.keep {H H' : Hp} {p : Addr} {n : Nat} (k : Keep p H H') (hp : Pot H p n) {tr : List V} {ps : List Pc} (h : PcsAt H tr ps) : PcsAt H' tr ps := Paired.imp (fun _ _ ⟨y, e, t⟩ => ⟨y, e, k _ _ (hp.off t fun _ z => nomatch z) t⟩) h
def sp_l_lead : Sp := fun vs H Q _ => ∃ (q : Addr) (e : Ent) (d : Bool) (a : Int), vs = [.ref q, .bl d, .int a] ∧ H q = some (.tup (entV e)) ∧ ∀ x H', H x = none → Same H H' → H' x = some (.tup (entV (act a d e))) → Q (.ref x) H'
def sp_l_amt : Sp := fun vs H Q _ => ∃ (p : Addr) (n : Nat), vs = [.ref p] ∧ Pot H p n ∧ n + 2 < 1000000 ∧
  ∀ (v : Int) (n' : Nat) (H' : Hp), -(10 ^ 12) ≤ v → v ≤ 10 ^ 12 → n' ≤ n + 2 → Pot H' p n' → Keep p H H' → Q (.int v) H'
def sp_l_piece : Sp := fun vs H Q _ => ∃ (p : Addr) (n : Nat) (h r : Int), vs = [.ref p, .int h, .int r] ∧ Pot H p n ∧ n + 10 < 1000000 ∧ 0 ≤ h ∧ 1 ≤ r ∧ h + r ≤ 30 ∧
  ∀ (c : Pc) (q : Addr) (n' : Nat) (H' : Hp), c.OkAt h → c.len ≤ r → n' ≤ n + 10 → Pot H' p n' → Keep p H H' → PcAt H' q c → H q = none → Q (.ref q) H'
def sp_l_pieces : Sp := fun vs H Q _ => ∃ (p : Addr) (n : Nat) (z : Int), vs = [.ref p, .int z] ∧ Pot H p n ∧ n + 100 < 1000000 ∧ 1 ≤ z ∧ z ≤ 30 ∧
  ∀ (ps : List Pc) (x : Addr) (tr : List V) (n' : Nat) (H' : Hp), PsOk ps → ps.length ≤ 7 → pre ps ps.length ≤ z → H' x = some (.tup tr) → PcsAt H' tr ps → n' ≤ n + 80 → Pot H' p n' → Keep p H H' → Q (.ref x) H'
section
variable {P : Program} {w : World} {K : PySem.W.Frag} {mg : Str → Option Value} {base : Heap} {Z : Zs}
theorem ok_l_lead (T : Txt K mg Z) : FnOk P w K mg base CX0 1 Z.f_l_lead Z.d_l_lead ["_law_entry", "_law_is_down", "_law_amount_here"] sp_l_lead := by
  refine T.F_l_lead.ok sc_l_lead (fun vs H Q E h => ?_) (fun cdv A outer s H vs Q E hr h => ?_)
  · obtain ⟨q, e, d, a, rfl, _⟩ := h
    rfl
  · obtain ⟨q, e, d, a, rfl, hq, k⟩ := h
    refine ⟨_, (pss_cons (ps_if (pt_cmpR op_eq (pe_ix ix_tup (pv 0) pe_int (fun _ _ => rfl)) pe_str (nomark _)) (pss_one (ps_ret (pe_tup (pa_cons pe_str (pa_cons (pe_ifExp (pt_val (pv 1)) (pe_op op_sub (pv 2) (pe_ix ix_tup (pv 0) pe_int (fun _ _ => rfl))) (pe_op op_add (pv 2) (pe_ix ix_tup (pv 0) pe_int (fun _ _ => rfl)))) pa_nil))))) pss_nil)
      (pss_cons (ps_if (pt_val (pv 1)) (pss_one (ps_ret (pe_tup (pa_cons (pe_ifExp (pt_cmpR op_eq (pe_ix ix_tup (pv 0) pe_int (fun _ _ => rfl)) pe_str (nomark _)) pe_str pe_str) (pa_cons (pe_ix ix_tup (pv 0) pe_int (fun _ _ => rfl)) (pa_cons (pe_op op_sub (pv 2) (pe_ix ix_tup (pv 0) pe_int (fun _ _ => rfl))) pa_nil)))))) pss_nil)
      (pss_one (ps_ret (pe_tup (pa_cons (pe_ix ix_tup (pv 0) pe_int (fun _ _ => rfl)) (pa_cons (pe_ix ix_tup (pv 0) pe_int (fun _ _ => rfl)) (pa_cons (pe_op op_add (pv 2) (pe_ix ix_tup (pv 0) pe_int (fun _ _ => rfl))) pa_nil)))))))), ?_⟩
    cases e with
    | told x =>
      have hq' : H q = some (.tup [.str "told", .int x]) := hq
      have w0 : decide (V.str "told" = V.str "told") = true := by decide +kernel
      refine ⟨_, rfl, q, _, 0, .str "told", rfl, rfl, SqT.of hq', rfl, rfl, true, by rw [w0], iteT ?_⟩
      cases d with
      | true => exact ⟨_, rfl, true, rfl, iteT ⟨_, rfl, _, rfl, q, _, 1, .int x, rfl, rfl, SqT.of hq', rfl, _, _, rfl, rfl, by show 2 ≤ sizeLine; decide, fun y hy => k y _ hy (Same.new (Same.refl H) hy) upd_same⟩⟩
      | false => exact ⟨_, rfl, false, rfl, iteF ⟨_, rfl, _, rfl, q, _, 1, .int x, rfl, rfl, SqT.of hq', rfl, _, _, rfl, rfl, by show 2 ≤ sizeLine; decide, fun y hy => k y _ hy (Same.new (Same.refl H) hy) upd_same⟩⟩
    | rel dn c m =>
      have hq' : H q = some (.tup [.str (word dn), .int c, .int m]) := hq
      have w0 : decide (V.str (word dn) = V.str "told") = false := by cases dn <;> decide +kernel
      refine ⟨_, rfl, q, _, 0, .str (word dn), rfl, rfl, SqT.of hq', rfl, rfl, false, by rw [w0], iteF ?_⟩
      cases d with
      | true =>
        refine ⟨_, rfl, true, rfl, iteT ?_⟩
        refine ⟨_, rfl, q, _, 0, .str (word dn), rfl, rfl, SqT.of hq', rfl, rfl, !dn, ?_, ?_⟩
        · cases dn <;> decide +kernel
        cases dn with
        | true =>
          refine iteF ⟨_, rfl, q, _, 1, .int c, rfl, rfl, SqT.of hq', rfl, _, rfl, _, rfl, q, _, 2, .int m, rfl, rfl, SqT.of hq', rfl, _, _, rfl, rfl, by show 3 ≤ sizeLine; decide, fun y hy => k y _ hy (Same.new (Same.refl H) hy) upd_same⟩
        | false =>
          refine iteT ⟨_, rfl, q, _, 1, .int c, rfl, rfl, SqT.of hq', rfl, _, rfl, _, rfl, q, _, 2, .int m, rfl, rfl, SqT.of hq', rfl, _, _, rfl, rfl, by show 3 ≤ sizeLine; decide, fun y hy => k y _ hy (Same.new (Same.refl H) hy) upd_same⟩
      | false =>
        refine ⟨_, rfl, false, rfl, iteF ?_⟩
        refine ⟨_, rfl, q, _, 0, .str (word dn), rfl, rfl, SqT.of hq', rfl, _, rfl, q, _, 1, .int c, rfl, rfl, SqT.of hq', rfl, _, rfl, _, rfl, q, _, 2, .int m, rfl, rfl, SqT.of hq', rfl, _, _, rfl, rfl, by show 3 ≤ sizeLine; decide, fun y hy => k y _ hy (Same.new (Same.refl H) hy) ?_⟩
        rw [upd_same]
        cases dn <;> rfl
theorem ok_l_amount (T : Txt K mg Z) : FnOk P w K mg base CX0 3 Z.f_l_amount Z.d_l_amount ["_law_pot_here"] sp_l_amt := by
  refine T.F_l_amount.ok sc_l_amount (fun vs H Q E h => ?_) (fun cdv A outer s H vs Q E hr h => ?_)
  · obtain ⟨p, n, rfl, _⟩ := h
    rfl
  · obtain ⟨p, n, rfl, hp, hn, k⟩ := h
    refine ⟨_, (pss_one (ps_ret (pe_call (ok_l_of T) (hr.mono (by decide)) rfl T.g_l_of T.k_l_of T.bn_l_of .nil pass0 (pa_cons (pv 0) (pa_cons (pe_lst (pa_cons pe_int (pa_cons pe_int (pa_cons pe_int (pa_cons pe_int (pa_cons (pe_un un_neg pe_int) (pa_cons pe_int (pa_cons (pe_un un_neg pe_int) (pa_cons pe_int (pa_cons pe_int (pa_cons (pe_op op_sub (pe_call (ok_l_take T) (hr.mono (by decide)) rfl T.g_l_take T.k_l_take T.bn_l_take .nil pass0 (pa_cons (pv 0) (pa_cons pe_int pa_nil))) pe_int) (pa_cons (pe_op op_powW pe_int pe_int) pa_nil)))))))))))) pa_nil))))), ?_⟩
    refine ⟨_, rfl, _, rfl, _, rfl, _, rfl, p, n, 200, rfl, hp, by omega, by decide, by decide, fun d n1 H1 d0 d1 hn1 hp1 k1 => ?_⟩
    refine ⟨_, _, rfl, rfl, _, _, rfl, rfl, ⟨by decide, by decide +kernel⟩, by show 11 ≤ sizeLine; decide, fun a ha => ?_⟩
    have hpa : p ≠ a := hp1.ne ha
    refine ⟨p, a, n1, _, rfl, hp1.new ha, by omega, upd_same, hpa.symm, Nat.zero_lt_succ _, by show 11 ≤ 1000; decide, fun v n' H' hv hn' hp' kp => ?_⟩
    have kp' : Keep p H H' := k1.trans ((Keep.new Keep.rfl' ha).trans kp)
    simp only [List.mem_cons, List.not_mem_nil, or_false] at hv
    rcases hv with rfl | rfl | rfl | rfl | rfl | rfl | rfl | rfl | rfl | rfl | rfl
    all_goals first | exact k _ n' H' (by decide) (by decide) (by omega) hp' kp' | exact k _ n' H' (by show -(10 ^ 12) ≤ d - 100; omega) (by show d - 100 ≤ 10 ^ 12; omega) (by omega) hp' kp'
theorem ok_l_piece (T : Txt K mg Z) : FnOk P w K mg base CX0 4 Z.f_l_piece Z.d_l_piece ["_law_pot_here", "_law_here", "_law_room_left"] sp_l_piece := by
  refine T.F_l_piece.ok sc_l_piece (fun vs H Q E h => ?_) (fun cdv A outer s H vs Q E hr h => ?_)
  · obtain ⟨p, n, h, r, rfl, _⟩ := h
    rfl
  · obtain ⟨p, n, h, r, rfl, hp, hn, h0, r1, hr30, k⟩ := h
    refine ⟨_, (pss_cons (ps_par (i := 3) (j := 4) (by rfl) sc_l_piece.nd rfl rfl (by decide) rfl rfl (pa_cons (pe_op op_add pe_int (pe_call (ok_l_take T) (hr.mono (by decide)) rfl T.g_l_take T.k_l_take T.bn_l_take .nil pass0 (pa_cons (pv 0) (pa_cons (pe_callB  (call_min2 rfl) (by rfl) T.b_min (by decide +kernel) (pa_cons pe_int (pa_cons (pv 2) pa_nil))) pa_nil)))) (pa_cons (pe_call (ok_l_take T) (hr.mono (by decide)) rfl T.g_l_take T.k_l_take T.bn_l_take .nil pass0 (pa_cons (pv 0) (pa_cons pe_int pa_nil))) pa_nil)) (by rfl))
      (pss_cons (ps_if (PW.pt (pw_or (pt_cmpR op_eq (pv 4) pe_int (nomark _)) (pw_or1 (PW.pt (pw_and (pt_cmpR op_eq (pv 1) pe_int (nomark _)) (pw_and1 (pt_cmpR op_gt (pv 4) pe_int (nomark _)))))))) (pss_one (ps_ret (pe_tup (pa_cons pe_str (pa_cons (pv 3) pa_nil))))) pss_nil)
      (pss_cons (ps_if (pt_cmpR op_eq (pv 4) pe_int (nomark _)) (pss_one (ps_ret (pe_tup (pa_cons pe_str (pa_cons (pv 3) (pa_cons (pe_call (ok_l_amount T) (hr.mono (by decide)) rfl T.g_l_amount T.k_l_amount T.bn_l_amount .nil pass0 (pa_cons (pv 0) pa_nil)) pa_nil)))))) pss_nil)
      (pss_cons (ps_par (i := 5) (j := 6) (by rfl) sc_l_piece.nd rfl rfl (by decide) rfl rfl (pa_cons (pe_call (ok_l_take T) (hr.mono (by decide)) rfl T.g_l_take T.k_l_take T.bn_l_take .nil pass0 (pa_cons (pv 0) (pa_cons (pv 1) pa_nil))) (pa_cons (pe_cmpR op_eq (pe_call (ok_l_take T) (hr.mono (by decide)) rfl T.g_l_take T.k_l_take T.bn_l_take .nil pass0 (pa_cons (pv 0) (pa_cons pe_int pa_nil))) pe_int (nomark _)) pa_nil)) (by rfl))
      (pss_cons (ps_set (i := 7) sc_l_piece.nd rfl (Or.inl rfl) (pe_and (pe_cmpR op_eq (pe_call (ok_l_take T) (hr.mono (by decide)) rfl T.g_l_take T.k_l_take T.bn_l_take .nil pass0 (pa_cons (pv 0) (pa_cons pe_int pa_nil))) pe_int (nomark _)) (pe_one (pe_cmpR op_le (pe_op op_add (pv 5) (pv 3)) (pv 1) (nomark _)))))
      (pss_one (ps_ret (pe_tup (pa_cons pe_str (pa_cons (pv 5) (pa_cons (pv 3) (pa_cons (pe_call (ok_l_amount T) (hr.mono (by decide)) rfl T.g_l_amount T.k_l_amount T.bn_l_amount .nil pass0 (pa_cons (pv 0) pa_nil)) (pa_cons (pv 6) (pa_cons (pv 7) pa_nil)))))))))))))), ?_⟩
    have big : (100 : Int) < 10 ^ 60 := by decide
    have b1 : 0 < (if r < 6 then r else 6) ∧ (if r < 6 then r else 6) < 10 ^ 60 ∧ (if r < 6 then r else 6) ≤ r := by split <;> omega
    refine ⟨_, rfl, _, rfl, _, _, rfl, p, n, _, rfl, hp, by omega, b1.1, b1.2.1, fun d1 n1 H1 a0 a1 hn1 hp1 k1 => ?_⟩
    have l1 : 1 + d1 ≤ r := by have := b1.2.2; omega
    clear a1 b1
    refine ⟨_, _, rfl, rfl, _, rfl, p, n1, 6, rfl, hp1, by omega, by decide, by decide, fun d2 n2 H2 b0 b1 hn2 hp2 k2 => ?_⟩
    refine ⟨_, _, rfl, ?_⟩
    have kp2 := k1.trans k2
    by_cases c0 : d2 = 0
    · subst c0
      refine ⟨_, rfl, rfl, true, rfl, iteT (iteT ⟨_, rfl, by show 2 ≤ sizeLine; decide, fun q hq => ?_⟩)⟩
      exact k (.new (1 + d1)) q n2 _ (by show 1 ≤ 1 + d1; omega) l1 (by omega) (hp2.new hq) (kp2.new hq) upd_same (free_of kp2 hp hq hp2)
    refine ⟨_, rfl, rfl, false, by rw [decide_eq_false fun z => c0 (V.int.inj z)], iteF ?_⟩
    by_cases h00 : h = 0
    · subst h00
      by_cases c1 : 1 < d2
      · refine ⟨_, rfl, rfl, true, rfl, iteT ⟨_, rfl, _, _, rfl, rfl, true, by show V.bl (decide (1 < d2)) = V.bl true; rw [decide_eq_true c1], iteT ⟨_, rfl, by show 2 ≤ sizeLine; decide, fun q hq => ?_⟩⟩⟩
        exact k (.new (1 + d1)) q n2 _ (by show 1 ≤ 1 + d1; omega) l1 (by omega) (hp2.new hq) (kp2.new hq) upd_same (free_of kp2 hp hq hp2)
      · have c2 : d2 = 1 := by omega
        subst c2
        refine ⟨_, rfl, rfl, true, rfl, iteT ⟨_, rfl, _, _, rfl, rfl, false, rfl, iteF ?_⟩⟩
        refine ⟨_, rfl, rfl, true, rfl, iteT ⟨_, rfl, _, rfl, p, n2, rfl, hp2, by omega, fun am n3 H3 e0 e1 hn3 hp3 k3 => ⟨by show 3 ≤ sizeLine; decide, fun q hq => ?_⟩⟩⟩
        exact k (.notes (1 + d1) am) q n3 _ ⟨by omega, e0, e1⟩ l1 (by omega) (hp3.new hq) ((kp2.trans k3).new hq) upd_same (free_of (kp2.trans k3) hp hq hp3)
    refine ⟨_, rfl, rfl, false, by rw [decide_eq_false fun z => h00 (V.int.inj z)], iteF (iteF ?_)⟩
    by_cases c2 : d2 = 1
    · subst c2
      refine ⟨_, rfl, rfl, true, rfl, iteT ⟨_, rfl, _, rfl, p, n2, rfl, hp2, by omega, fun am n3 H3 e0 e1 hn3 hp3 k3 => ⟨by show 3 ≤ sizeLine; decide, fun q hq => ?_⟩⟩⟩
      exact k (.notes (1 + d1) am) q n3 _ ⟨by omega, e0, e1⟩ l1 (by omega) (hp3.new hq) ((kp2.trans k3).new hq) upd_same (free_of (kp2.trans k3) hp hq hp3)
    refine ⟨_, rfl, rfl, false, by rw [decide_eq_false fun z => c2 (V.int.inj z)], iteF ?_⟩
    refine ⟨_, rfl, _, rfl, p, n2, h, rfl, hp2, by omega, by omega, by omega, fun d3 n3 H3 e0 e1 hn3 hp3 k3 => ?_⟩
    refine ⟨_, rfl, p, n3, 3, rfl, hp3, by omega, by decide, by decide, fun d4 n4 H4 f0 f1 hn4 hp4 k4 => ⟨rfl, _, _, rfl, ?_⟩⟩
    refine ⟨_, rfl, p, n4, 3, rfl, hp4, by omega, by decide, by decide, fun d5 n5 H5 g0 g1 hn5 hp5 k5 => ⟨rfl, _, rfl, ?_⟩⟩
    have kp5 := ((kp2.trans k3).trans k4).trans k5
    have fin : ∀ (bk : Bool), (bk = true → d3 + (1 + d1) ≤ h) → ∀ (am : Int) (n6 : Nat) (H6 : Hp), -(10 ^ 12) ≤ am → am ≤ 10 ^ 12 → n6 ≤ n5 + 2 → Pot H6 p n6 → Keep p H5 H6 → ∀ q, H6 q = none → Q (.ref q) (upd H6 q (.tup [.str "copy", .int d3, .int (1 + d1), .int am, .bl (decide (V.int d4 = V.int 0)), .bl bk])) := fun bk hb am n6 H6 e2 e3 hn6 hp6 k6 q hq =>
      k (.copy d3 (1 + d1) am (decide (V.int d4 = V.int 0)) bk) q n6 _ ⟨e0, e1, by omega, e2, e3, hb⟩ l1 (by omega) (hp6.new hq) ((kp5.trans k6).new hq) upd_same (free_of (kp5.trans k6) hp hq hp6)
    refine ite2 (fun c => ?_) (fun c => ?_)
    · refine ⟨_, rfl, _, rfl, _, _, rfl, rfl, _, rfl, _, _, rfl, rfl, ?_⟩
      refine ⟨_, rfl, _, rfl, _, rfl, p, n5, rfl, hp5, by omega, fun am n6 H6 e2 e3 hn6 hp6 k6 => ⟨_, rfl, _, rfl, by show 6 ≤ sizeLine; decide, fun q hq => ?_⟩⟩
      exact fin (decide (d3 + (1 + d1) ≤ h)) (fun z => of_decide_eq_true z) am n6 H6 e2 e3 hn6 hp6 k6 q hq
    · refine ⟨_, rfl, _, rfl, _, rfl, p, n5, rfl, hp5, by omega, fun am n6 H6 e2 e3 hn6 hp6 k6 => ⟨_, rfl, _, rfl, by show 6 ≤ sizeLine; decide, fun q hq => ?_⟩⟩
      exact fin false (fun z => nomatch z) am n6 H6 e2 e3 hn6 hp6 k6 q hq
theorem ok_l_pieces (T : Txt K mg Z) : FnOk P w K mg base CX0 5 Z.f_l_pieces Z.d_l_pieces ["_law_pot_here", "_law_size"] sp_l_pieces := by
  refine T.F_l_pieces.ok sc_l_pieces (fun vs H Q E h => ?_) (fun cdv A outer s H vs Q E hr h => ?_)
  · obtain ⟨p, n, z, rfl, _⟩ := h
    rfl
  · obtain ⟨p, n, z, rfl, hp, hn, z0, z1, k⟩ := h
    refine ⟨_, (pss_cons (ps_par (i := 2) (j := 3) (by rfl) sc_l_pieces.nd rfl rfl (by decide) rfl rfl (pa_cons (pe_lst pa_nil) (pa_cons pe_int pa_nil)) (by rfl))
      (pss_cons (ps_for PassesOwn.never rfl (pi_range1 rfl T.b_range (pa_cons (pe_op op_add pe_int (pe_call (ok_l_take T) (hr.mono (by decide)) rfl T.g_l_take T.k_l_take T.bn_l_take .nil pass0 (pa_cons (pv 0) (pa_cons pe_int pa_nil)))) pa_nil)) (pg_name (i := 4) sc_l_pieces.nd rfl (Or.inl rfl)) (pss_one (ps_if (pt_cmpR op_lt (pv 3) (pv 1) (nomark _)) (pss_cons (ps_set (i := 5) sc_l_pieces.nd rfl (Or.inl rfl) (pe_call (ok_l_piece T) (hr.mono (by decide)) rfl T.g_l_piece T.k_l_piece T.bn_l_piece .nil pass0 (pa_cons (pv 0) (pa_cons (pv 3) (pa_cons (pe_op op_sub (pv 1) (pv 3)) pa_nil)))))
      (pss_cons (ps_expr (pe_bm PySem.F.plainAttrs_list PySem.F.slot_list_append PySem.F.type_list_append mt_append (pv 2) (pa_cons (pv 5) pa_nil)))
      (pss_one (ps_set (i := 3) sc_l_pieces.nd rfl (Or.inl rfl) (pe_op op_add (pv 3) (pe_ifExp (pt_cmpR op_eq (pe_ix ix_tup (pv 5) pe_int (fun _ _ => rfl)) pe_str (nomark _)) (pe_ix ix_tup (pv 5) pe_int (fun _ _ => rfl)) (pe_ix ix_tup (pv 5) pe_int (fun _ _ => rfl)))))))) pss_nil)))
      (pss_one (ps_ret (pe_callTy call_tuple_of (by rfl) T.b_tuple (by decide +kernel) (pa_cons (pv 2) pa_nil)))))), ?_⟩
    have sl : sizeLine = 16777216 := sizeLine_eq
    refine ⟨by show 0 ≤ sizeLine; exact Nat.zero_le _, fun D hD => ⟨_, _, rfl, ?_⟩⟩
    have npD : p ≠ D := hp.ne hD
    refine ⟨_, rfl, p, n, 7, rfl, hp.new hD, by omega, by decide, by decide, fun d n1 H1 d0 d1 hn1 hp1 k1 => ⟨_, _, rfl, rfl, _, rfl, by show -(2 ^ 62) ≤ 1 + d; omega, by show 1 + d < 2 ^ 62; omega, ?_⟩⟩
    have k1' : Keep p H H1 := (Keep.rfl'.new hD).trans k1
    have hD1 := k1 _ _ npD.symm (upd_same (H := H) (a := D))
    refine for_range (n := (1 + d).toNat) (fun i σ H' => ∃ n' v4 v5 tr ps, σ = [some (.ref p), some (.int z), some (.ref D), some (.int (pre ps ps.length)), v4, v5] ∧ H' D = some (.lst tr) ∧ PcsAt H' tr ps ∧ Fits ps ∧ pre ps ps.length ≤ z ∧ ps.length ≤ i ∧ (1 ≤ i → 1 ≤ ps.length) ∧ n' ≤ n + 1 + 10 * i ∧ Pot H' p n' ∧ Keep p H H')
      ⟨n1, none, none, [], [], rfl, hD1, .nil, (fun i p h => by simp at h), by rw [show pre [] ([] : List Pc).length = 0 from rfl]; omega, Nat.le_refl _, fun h => by omega, by omega, hp1, k1'⟩ ?_ ?_
    · rintro i σ H2 hi ⟨n2, v4, v5, tr, ps, rfl, hD2, hps, fit, lez, li, l1, hn2, hp2, k2⟩
      have i6 : i < 7 := by omega
      have nn := pre_nn fit (Nat.le_refl _)
      have lt := Paired.len hps
      by_cases c : pre ps ps.length < z
      · refine ⟨_, rfl, _, rfl, _, _, rfl, rfl, true, by show V.bl (decide (pre ps ps.length < z)) = V.bl true; rw [decide_eq_true c], iteT ?_⟩
        refine ⟨_, rfl, _, rfl, _, rfl, _, rfl, _, _, rfl, rfl, p, n2, _, _, rfl, hp2, by omega, nn, by omega, by omega, fun pc q n3 H3 o3 l3 hn3 hp3 k3 hq nq => ?_⟩
        have hD3 := k3 _ _ npD.symm hD2
        have hps3 := hps.keep k3 hp2
        refine ⟨_, rfl, .inl ⟨rfl, _, SqL.of hD3⟩, _, rfl, D, _, _, rfl, rfl, hD3, by omega, ?_⟩
        have qD : q ≠ D := ne_of hq hD3 fun z => nomatch z
        have hq4 : upd H3 D (.lst (tr ++ [.ref q])) q = some (.tup (pcV pc)) := by rw [upd_ne qD]; exact hq
        obtain ⟨tr0, et⟩ : ∃ t, t = tr := ⟨_, rfl⟩
        have e : [some (V.ref p), some (V.int z), some (V.ref D), some (V.int (pre ps ps.length + pc.len)), some (V.int (0 + (i : Int))), some (V.ref q)] = [some (V.ref p), some (V.int z), some (V.ref D), some (V.int (pre (ps ++ [pc]) (ps ++ [pc]).length)), some (V.int (0 + (i : Int))), some (V.ref q)] := by
          rw [List.length_append, List.length_singleton, pre_snoc]
        have fin : ∀ σ, σ = [some (V.ref p), some (V.int z), some (V.ref D), some (V.int (pre ps ps.length + pc.len)), some (V.int (0 + (i : Int))), some (V.ref q)] → ∃ n' v4 v5 tr ps, σ = [some (.ref p), some (.int z), some (.ref D), some (.int (pre ps ps.length)), v4, v5] ∧ (upd H3 D (.lst (tr0 ++ [.ref q]))) D = some (.lst tr) ∧ PcsAt (upd H3 D (.lst (tr0 ++ [.ref q]))) tr ps ∧ Fits ps ∧ pre ps ps.length ≤ z ∧ ps.length ≤ i + 1 ∧ (1 ≤ i + 1 → 1 ≤ ps.length) ∧ n' ≤ n + 1 + 10 * (i + 1) ∧ Pot (upd H3 D (.lst (tr0 ++ [.ref q]))) p n' ∧ Keep p H (upd H3 D (.lst (tr0 ++ [.ref q]))) := by
          rintro σ rfl
          subst et
          exact ⟨n3, _, _, tr0 ++ [.ref q], ps ++ [pc], e, upd_same, Paired.snoc ⟨q, rfl, hq4⟩ (hps3.put hD3), fit.snoc o3, by rw [List.length_append, List.length_singleton, pre_snoc]; omega, by rw [List.length_append, List.length_singleton]; omega, fun _ => by rw [List.length_append, List.length_singleton]; omega, by omega, hp3.put npD, keep_put (k2.trans k3) hD⟩
        rw [← et] at hq4 ⊢
        cases pc with
        | new l =>
          refine ⟨_, rfl, _, rfl, q, _, 0, .str "new", rfl, rfl, SqT.of hq4, rfl, rfl, false, by rw [show decide (V.str "new" = V.str "copy") = false by decide +kernel], iteF ⟨_, rfl, q, _, 1, .int l, rfl, rfl, SqT.of hq4, rfl, _, _, rfl, rfl, fin _ rfl⟩⟩
        | notes l x =>
          refine ⟨_, rfl, _, rfl, q, _, 0, .str "notes", rfl, rfl, SqT.of hq4, rfl, rfl, false, by rw [show decide (V.str "notes" = V.str "copy") = false by decide +kernel], iteF ⟨_, rfl, q, _, 1, .int l, rfl, rfl, SqT.of hq4, rfl, _, _, rfl, rfl, fin _ rfl⟩⟩
        | copy f l a d b =>
          refine ⟨_, rfl, _, rfl, q, _, 0, .str "copy", rfl, rfl, SqT.of hq4, rfl, rfl, true, by rw [show decide (V.str "copy" = V.str "copy") = true by decide +kernel], iteT ⟨_, rfl, q, _, 2, .int l, rfl, rfl, SqT.of hq4, rfl, _, _, rfl, rfl, fin _ rfl⟩⟩
      · refine ⟨_, rfl, _, rfl, _, _, rfl, rfl, false, by show V.bl (decide (pre ps ps.length < z)) = V.bl false; rw [decide_eq_false c], iteF ?_⟩
        refine ⟨n2, _, _, tr, ps, rfl, hD2, hps, fit, lez, by omega, fun _ => ?_, by omega, hp2, k2⟩
        cases ps with
        | nil => exact absurd (show pre [] ([] : List Pc).length < z from by rw [show pre [] ([] : List Pc).length = 0 from rfl]; omega) c
        | cons a t => exact Nat.succ_le_succ (Nat.zero_le _)
    · rintro σ H2 ⟨n2, v4, v5, tr, ps, rfl, hD2, hps, fit, lez, li, l1, hn2, hp2, k2⟩
      have e30 : (30 : Int) ≤ 10 ^ 30 := by decide +kernel
      refine ⟨_, rfl, D, _, rfl, .inl ⟨SqL.of hD2, fun x hx => ?_⟩⟩
      exact k ps x tr n2 _ ⟨fit, l1 (by omega), by omega, by omega⟩ (by omega) lez upd_same (hps.same (Same.new (Same.refl H2) hx)) (by omega) (hp2.new hx) (k2.new hx)
/-! the entries, place by place -/
def EntAt (H : Hp) (v : V) (e : Ent) : Prop := ∃ q, v = V.ref q ∧ H q = some (.tup (entV e))
def EntsAt (H : Hp) : List V → List Ent → Prop := Paired (EntAt H)
theorem EntsAt.same {H H' : Hp} (s : Same H H') {xs : List V} {es : List Ent} (h : EntsAt H xs es) : EntsAt H' xs es := Paired.imp (fun _ _ ⟨q, e, t⟩ => ⟨q, e, s _ _ t⟩) h
theorem Paired.repN {α β : Type} {F : α → β → Prop} {a : α} {b : β} (h : F a b) : ∀ n, Paired F (List.replicate n a) (List.replicate n b)
  | 0 => .nil
  | n + 1 => .cons h (Paired.repN h n)
theorem Paired.app {α β : Type} {F : α → β → Prop} {us : List α} {ws : List β} (h : Paired F us ws) : ∀ {xs : List α} {ys : List β}, Paired F xs ys → Paired F (xs ++ us) (ys ++ ws)
  | _, _, .nil => h
  | _, _, .cons r t => .cons r (Paired.app h t)
theorem EntsAt.put {H : Hp} {D : Addr} {ys : List V} {o : HO} (hD : H D = some (.lst ys)) {xs : List V} {es : List Ent} (h : EntsAt H xs es) : EntsAt (upd H D o) xs es := Paired.imp (fun _ _ ⟨y, e, t⟩ => ⟨y, e, by
  have n : y ≠ D := ne_of t hD fun z => nomatch z
  rw [upd_ne n]
  exact t⟩) h
theorem get_ext {E zs : List Ent} {h : Int} {j : Nat} {e : Ent} (l : (E.length : Int) = h) (hz : zs[j]? = some e) : (E ++ zs.take (j + 1))[(h + (j : Int)).toNat]? = some e := by
  rw [List.getElem?_append_right (by omega), show (h + (j : Int)).toNat - E.length = j by omega, List.getElem?_take, if_pos (Nat.lt_succ_self j)]
  exact hz
/-- more entries of one piece -/
theorem Eqs.exts {ps : List Pc} (ok : PsOk ps) {i : Nat} {p : Pc} (hp : ps[i]? = some p) {E zs : List Ent} (h : Eqs ps (pre ps i) E) (l : (zs.length : Int) ≤ p.len)
    (sy : ∀ (j : Nat) e, zs[j]? = some e → Says (E ++ zs.take (j + 1)) (aheadN ps i) p (pre ps i) (j : Int)) : Eqs ps (pre ps i + (zs.length : Int)) (E ++ zs) := by
  have all : ∀ n : Nat, n ≤ zs.length → Eqs ps (pre ps i + (n : Int)) (E ++ zs.take n) := by
    intro n
    induction n with
    | zero => intro _; simpa using h
    | succ n ih =>
      intro hn
      have hz : zs[n]? = some zs[n] := List.getElem?_eq_getElem (by omega)
      have := (ih (by omega)).snoc ok (e := zs[n]) hp (j := (n : Int)) (by omega) (by omega) rfl (by
        rw [List.append_assoc, ← take_next hz]
        exact sy n _ hz)
      rw [List.append_assoc, ← take_next hz] at this
      rw [show pre ps i + ((n + 1 : Nat) : Int) = pre ps i + (n : Int) + 1 by omega]
      exact this
  have := all zs.length (Nat.le_refl _)
  rw [List.take_length] at this
  exact this
theorem eqs_nil {ps : List Pc} (ok : Fits ps) : Eqs ps (pre ps 0) [] := ⟨rfl, fun i p j hp j0 _ h => by
  have := pre_nn ok (show i ≤ ps.length by have := (List.getElem?_eq_some_iff.mp hp).1; omega)
  rw [pre_zero] at h
  omega⟩
def sp_l_shown : Sp := fun vs H Q _ => ∃ (R : Addr) (tr : List V) (ps : List Pc), vs = [.ref R] ∧ H R = some (.tup tr) ∧ PcsAt H tr ps ∧ PsOk ps ∧ pre ps ps.length ≤ 30 ∧
  ∀ (x : Addr) (es : List Ent) (xs : List V) (H' : Hp), H x = none → Same H H' → H' x = some (.lst xs) → EntsAt H' xs es → Eqs ps (pre ps ps.length) es → Q (.ref x) H'
def sp_l_pots (K : PySem.W.Frag) : Sp := fun vs H Q _ => ∃ (a : Addr) (ns : List Int), vs = [.ref a, .int 6] ∧ SqL K H a (ns.map V.int) ∧ ns.length ≤ 63 ∧
  ∀ (x : Addr) (qs : List Addr) (H' : Hp), H x = none → Same H H' → H' x = some (.lst (qs.map V.ref)) → qs.length ≤ 6 → (∀ q ∈ qs, H q = none ∧ Pot H' q 0) → qs.Nodup → Q (.ref x) H'
theorem ok_l_shown (T : Txt K mg Z) : FnOk P w K mg base CX0 2 Z.f_l_shown Z.d_l_shown ["_law_pieces_here"] sp_l_shown := by
  refine T.F_l_shown.ok sc_l_shown (fun vs H Q E h => ?_) (fun cdv A outer s H vs Q E hr h => ?_)
  · obtain ⟨R, tr, ps, rfl, _⟩ := h
    rfl
  · obtain ⟨R, tr, ps, rfl, hR, hps, ok, z30, k⟩ := h
    refine ⟨_, (pss_cons (ps_asg (pe_tup (pa_cons (pe_lst pa_nil) (pa_cons pe_int pa_nil))) (pg_tup rfl (pgs_cons (pg_name (i := 1) sc_l_shown.nd rfl (Or.inl rfl)) (pgs_cons (pg_name (i := 2) sc_l_shown.nd rfl (Or.inr rfl)) pgs_nil))))
      (pss_cons (ps_for PassesOwn.never rfl (pi_tup (pv 0)) (pg_name (i := 3) sc_l_shown.nd rfl (Or.inl rfl)) (pss_one (ps_if (pt_cmpR op_eq (pe_ix ix_tup (pv 3) pe_int (fun _ _ => rfl)) pe_str (nomark _)) (pss_cons (ps_expr (pe_bm PySem.F.plainAttrs_list PySem.F.slot_list_extend PySem.F.type_list_extend mt_extend (pv 1) (pa_cons (pe_lc (own := [("_law_number", 4)]) rfl sc_l_shown.nd (pi_range1 rfl T.b_range (pa_cons (pe_ix ix_tup (pv 3) pe_int (fun _ _ => rfl)) pa_nil)) (blkOk_by (own := [("_law_number", 4)]) (N := ["_law_pieces_here", "_law_found", "_law_fresh", "_law_piece_here", "_law_number", "_law_spot"]) (sc := defScope s_l_shown) (by decide +kernel)) (fun _ _ _ _ _ => (pg_name (i := 4) sc_l_shown.nd rfl (Or.inl rfl))) (fun _ _ _ _ _ => pts_nil) (fun _ _ _ _ _ => (pe_tup (pa_cons pe_str (pa_cons (pe_op op_add (pv 2) (pv 4)) (pa_cons pe_int pa_nil)))))) pa_nil)))
      (pss_one (ps_set (i := 2) sc_l_shown.nd rfl (Or.inr rfl) (pe_op op_add (pv 2) (pe_ix ix_tup (pv 3) pe_int (fun _ _ => rfl)))))) (pss_one (ps_if (pt_cmpR op_eq (pe_ix ix_tup (pv 3) pe_int (fun _ _ => rfl)) pe_str (nomark _)) (pss_one (ps_expr (pe_bm PySem.F.plainAttrs_list PySem.F.slot_list_extend PySem.F.type_list_extend mt_extend (pv 1) (pa_cons (pe_op op_rep (pe_lst (pa_cons (pe_tup (pa_cons pe_str (pa_cons (pe_ix ix_tup (pv 3) pe_int (fun _ _ => rfl)) pa_nil))) pa_nil)) (pe_ix ix_tup (pv 3) pe_int (fun _ _ => rfl))) pa_nil)))) (pss_one (ps_for PassesOwn.never rfl (pi_range1 rfl T.b_range (pa_cons (pe_ix ix_tup (pv 3) pe_int (fun _ _ => rfl)) pa_nil)) (pg_name (i := 4) sc_l_shown.nd rfl (Or.inl rfl)) (pss_cons (ps_set (i := 5) sc_l_shown.nd rfl (Or.inl rfl) (pe_op op_add (pe_ix ix_tup (pv 3) pe_int (fun _ _ => rfl)) (pe_ifExp (pt_val (pe_ix ix_tup (pv 3) pe_int (fun _ _ => rfl))) (pe_op op_sub (pe_op op_sub (pe_ix ix_tup (pv 3) pe_int (fun _ _ => rfl)) pe_int) (pv 4)) (pv 4))))
      (pss_one (ps_expr (pe_bm PySem.F.plainAttrs_list PySem.F.slot_list_append PySem.F.type_list_append mt_append (pv 1) (pa_cons (pe_call (ok_l_lead T) (hr.mono (by decide)) rfl T.g_l_lead T.k_l_lead T.bn_l_lead .nil pass0 (pa_cons (pe_ix ix_list (pv 1) (pv 5) (fun _ _ => rfl)) (pa_cons (pe_ix ix_tup (pv 3) pe_int (fun _ _ => rfl)) (pa_cons (pe_ix ix_tup (pv 3) pe_int (fun _ _ => rfl)) pa_nil)))) pa_nil))))))))))))
      (pss_one (ps_ret (pv 1))))), ?_⟩
    have sl : sizeLine = 16777216 := sizeLine_eq
    have lt := Paired.len hps
    refine ⟨by show 0 ≤ sizeLine; exact Nat.zero_le _, fun D hD => ⟨by show 2 ≤ sizeLine; decide, fun t ht => ⟨t, _, rfl, SqT.of upd_same, rfl, _, _, rfl, _, _, rfl, rfl, ?_⟩⟩⟩
    have sA := Same.new (o := .lst []) (Same.refl H) hD
    have s1 := Same.new (o := .tup [.ref D, .int 0]) sA ht
    have hD1 : upd (upd H D (.lst [])) t (.tup [.ref D, .int 0]) D = some (.lst []) := Same.new (o := .tup [.ref D, .int 0]) (Same.refl _) ht _ _ upd_same
    clear sA ht
    generalize upd (upd H D (.lst [])) t (.tup [.ref D, .int 0]) = H1 at s1 hD1 ⊢
    refine ⟨_, rfl, R, rfl, ⟨_, SqT.of (s1 _ _ hR)⟩, for_tup (xs := tr) (fun i σ H' => ∃ v3 v4 v5 xs es, σ = [some (.ref R), some (.ref D), some (.int (aheadN ps i)), v3, v4, v5] ∧ H' D = some (.lst xs) ∧ EntsAt H' xs es ∧ Eqs ps (pre ps i) es ∧ Same H H') ⟨_, _, _, [], [], rfl, hD1, .nil, eqs_nil ok.at_, s1⟩ (fun i σ H' _ ⟨_, _, _, _, _, _, _, _, _, s⟩ => SqT.of (s _ _ hR)) ?_ ?_⟩
    · rintro i x σ H2 hi ⟨v3, v4, v5, xs, es, rfl, hD2, hx, eq, s2⟩
      obtain ⟨p, hp', y, rfl, hy⟩ := Paired.at hps hi
      have hy2 : H2 y = some (.tup (pcV p)) := s2 _ _ hy
      have il := (List.getElem?_eq_some_iff.mp hp').1
      have lx := Paired.len hx
      have le := eq.len
      have nx := pre_succ hp'
      have na := ahead_succ hp'
      have mono := pre_le ok.at_ (show i + 1 ≤ ps.length by omega) (Nat.le_refl _)
      have nn := pre_nn ok.at_ (show i ≤ ps.length by omega)
      have po := (ok.at_ i p hp').pos
      cases p with
      | new l =>
        have nx' : pre ps (i + 1) = pre ps i + l := nx
        have na' : aheadN ps (i + 1) = aheadN ps i + l := na
        have po' : 1 ≤ l := po
        refine ⟨_, rfl, y, _, 0, .str "new", rfl, rfl, SqT.of hy2, rfl, rfl, true, by rw [show decide (V.str "new" = V.str "new") = true by decide +kernel], iteT ?_⟩
        refine ⟨_, rfl, .inl ⟨rfl, _, SqL.of hD2⟩, _, rfl, y, _, 1, .int l, rfl, rfl, SqT.of hy2, rfl, _, rfl, by show -(2 ^ 62) ≤ l; omega, by show l < 2 ^ 62; omega, fun G hG => ?_⟩
        refine lc_range (n := l.toNat) (fun j H' => ∃ zs, H' G = some (.lst zs) ∧ EntsAt H' zs ((List.range j).map fun t : Nat => Ent.rel false (aheadN ps i + (0 + (t : Int))) 0) ∧ Same H2 H') ⟨[], upd_same, .nil, Same.new (Same.refl H2) hG⟩ ?_ ?_
        · rintro j H3 hj ⟨zs, hG3, hz, s3⟩
          refine ⟨rfl, ?_⟩
          unfold tYes
          refine iteT ⟨_, rfl, _, rfl, _, _, rfl, rfl, by show 3 ≤ sizeLine; decide, fun u hu => ?_⟩
          have s4 := Same.new (o := .tup [.str "up", .int (aheadN ps i + (0 + (j : Int))), .int 0]) (Same.refl H3) hu
          have hu4 : upd H3 u (.tup [.str "up", .int (aheadN ps i + (0 + (j : Int))), .int 0]) u = some (.tup (entV (.rel false (aheadN ps i + (0 + (j : Int))) 0))) := upd_same
          have lz := Paired.len hz
          rw [List.length_map, List.length_range] at lz
          refine ⟨zs, s4 _ _ hG3, by omega, _, upd_same, ?_, ?_⟩
          · rw [List.range_succ, List.map_append]
            exact Paired.snoc ⟨u, rfl, by
              have : u ≠ G := ne_of hu4 (s4 _ _ hG3) fun z => nomatch z
              rw [upd_ne this]
              exact hu4⟩ ((hz.same s4).put (s4 _ _ hG3))
          · exact same_put (s3.trans s4) hG
        · rintro H3 ⟨zs, hG3, hz, s3⟩
          have lz := Paired.len hz
          rw [List.length_map, List.length_range] at lz
          have hD3 := s3 _ _ hD2
          refine ⟨D, G, xs, zs, rfl, rfl, hD3, hG3, by omega, ?_⟩
          have hyD : y ≠ D := ne_of hy2 hD2 fun z => nomatch z
          have hy4 : upd H3 D (.lst (xs ++ zs)) y = some (.tup [.str "new", .int l]) := by
            rw [upd_ne hyD]
            exact s3 _ _ hy2
          refine ⟨_, rfl, _, rfl, y, _, 1, .int l, rfl, rfl, SqT.of hy4, rfl, _, _, rfl, rfl, ?_⟩
          refine ⟨some (.ref y), _, _, xs ++ zs, es ++ (List.range l.toNat).map (fun t : Nat => Ent.rel false (aheadN ps i + (0 + (t : Int))) 0), by rw [na']; rfl, upd_same, Paired.app (hz.put hD3) ((hx.same s3).put hD3), ?_, same_put (s2.trans s3) hD⟩
          have ex := Eqs.exts ok hp' eq (zs := (List.range l.toNat).map (fun t : Nat => Ent.rel false (aheadN ps i + (0 + (t : Int))) 0)) (by rw [List.length_map, List.length_range]; show ((l.toNat : Nat) : Int) ≤ l; omega) (fun j e he => ?_)
          · rw [List.length_map, List.length_range, show pre ps i + ((l.toNat : Nat) : Int) = pre ps (i + 1) by omega] at ex
            exact ex
          · have g := get_ext le he
            rw [List.getElem?_map] at he
            obtain ⟨j', h1, h2⟩ := Option.map_eq_some_iff.mp he
            have hj := (List.getElem?_eq_some_iff.mp h1).1
            rw [List.length_range] at hj
            rw [List.getElem?_range hj] at h1
            obtain rfl := Option.some.inj h1
            show (es ++ _)[(pre ps i + (j : Int)).toNat]? = some (.rel false (aheadN ps i + (j : Int)) 0)
            rw [g, ← h2, Int.zero_add]
      | notes l x =>
        have nx' : pre ps (i + 1) = pre ps i + l := nx
        have na' : aheadN ps (i + 1) = aheadN ps i + 0 := na
        have po' : 1 ≤ l := po
        refine ⟨_, rfl, y, _, 0, .str "notes", rfl, rfl, SqT.of hy2, rfl, rfl, false, by rw [show decide (V.str "notes" = V.str "new") = false by decide +kernel], iteF ?_⟩
        refine ⟨_, rfl, y, _, 0, .str "notes", rfl, rfl, SqT.of hy2, rfl, rfl, true, by rw [show decide (V.str "notes" = V.str "notes") = true by decide +kernel], iteT ?_⟩
        refine ⟨_, rfl, .inl ⟨rfl, _, SqL.of hD2⟩, _, rfl, y, _, 2, .int x, rfl, rfl, SqT.of hy2, rfl, by show 2 ≤ sizeLine; decide, fun u hu => ⟨by show 1 ≤ sizeLine; decide, fun G hG => ?_⟩⟩
        have sU := Same.new (o := .tup [.str "told", .int x]) (Same.refl H2) hu
        have sG := Same.new (o := .lst [.ref u]) sU hG
        have hG3 : upd (upd H2 u (.tup [.str "told", .int x])) G (.lst [.ref u]) G = some (.lst [.ref u]) := upd_same
        have hu3 : upd (upd H2 u (.tup [.str "told", .int x])) G (.lst [.ref u]) u = some (.tup (entV (.told x))) := Same.new (o := .lst [.ref u]) (Same.refl _) hG _ _ upd_same
        generalize upd (upd H2 u (.tup [.str "told", .int x])) G (.lst [.ref u]) = H3 at sG hG3 hu3 ⊢
        refine ⟨_, rfl, y, _, 1, .int l, rfl, rfl, SqT.of (sG _ _ hy2), rfl, G, l, [.ref u], rfl, rfl, hG3, by omega, by omega, by show 1 * l.toNat ≤ sizeLine; omega, fun M hM => ?_⟩
        have sM := Same.new (o := .lst (List.replicate l.toNat [V.ref u]).flatten) (Same.refl H3) hM
        refine ⟨D, M, xs, (List.replicate l.toNat [V.ref u]).flatten, rfl, rfl, sM _ _ (sG _ _ hD2), upd_same, ?_, ?_⟩
        · rw [List.flatten_replicate_singleton, List.length_replicate]
          omega
        rw [List.flatten_replicate_singleton] at sM ⊢
        generalize upd H3 M (.lst (List.replicate l.toNat (V.ref u))) = H4 at sM ⊢
        have s24 := sG.trans sM
        have hD4 := s24 _ _ hD2
        refine ⟨some (.ref y), _, _, xs ++ List.replicate l.toNat (V.ref u), es ++ List.replicate l.toNat (Ent.told x), by rw [na', Int.add_zero]; rfl, upd_same, Paired.app (Paired.repN ⟨u, rfl, ?_⟩ _) ((hx.same s24).put hD4), ?_, same_put (s2.trans s24) hD⟩
        · have ex := Eqs.exts ok hp' eq (zs := List.replicate l.toNat (Ent.told x)) (by rw [List.length_replicate]; show ((l.toNat : Nat) : Int) ≤ l; omega) (fun j e he => ?_)
          · rw [List.length_replicate, show pre ps i + ((l.toNat : Nat) : Int) = pre ps (i + 1) by omega] at ex
            exact ex
          · have g := get_ext le he
            rw [List.getElem?_replicate] at he
            split at he
            · obtain rfl := Option.some.inj he
              exact g
            · cases he
        · have : u ≠ D := ne_of (sM _ _ hu3) hD4 fun z => nomatch z
          rw [upd_ne this]
          exact sM _ _ hu3
      | copy f l a d b =>
        have nx' : pre ps (i + 1) = pre ps i + l := nx
        have na' : aheadN ps (i + 1) = aheadN ps i + 0 := na
        obtain ⟨f0, f1, l1, _, _, fb⟩ := ok.at_ i _ hp'
        refine ⟨_, rfl, y, _, 0, .str "copy", rfl, rfl, SqT.of hy2, rfl, rfl, false, by rw [show decide (V.str "copy" = V.str "new") = false by decide +kernel], iteF ?_⟩
        refine ⟨_, rfl, y, _, 0, .str "copy", rfl, rfl, SqT.of hy2, rfl, rfl, false, by rw [show decide (V.str "copy" = V.str "notes") = false by decide +kernel], iteF ?_⟩
        refine ⟨_, rfl, y, _, 2, .int l, rfl, rfl, SqT.of hy2, rfl, _, rfl, by show -(2 ^ 62) ≤ l; omega, by show l < 2 ^ 62; omega, ?_⟩
        refine for_range (n := l.toNat) (fun j σ H' => ∃ v4 v5 xs es, σ = [some (.ref R), some (.ref D), some (.int (aheadN ps i)), some (.ref y), v4, v5] ∧ H' D = some (.lst xs) ∧ EntsAt H' xs es ∧ Eqs ps (pre ps i + (j : Int)) es ∧ Same H H') ⟨_, _, xs, es, rfl, hD2, hx, by rw [show pre ps i + ((0 : Nat) : Int) = pre ps i by omega]; exact eq, s2⟩ ?_ ?_
        · rintro j σ H3 hj ⟨v4, v5, xs3, es3, rfl, hD3, hx3, eq3, s3⟩
          have hy3 : H3 y = some (.tup [.str "copy", .int f, .int l, .int a, .bl d, .bl b]) := s3 _ _ hy
          obtain ⟨sp, esp⟩ : ∃ sp, sp = spot f l b (j : Int) := ⟨_, rfl⟩
          have sp01 : 0 ≤ sp ∧ sp < pre ps i + (j : Int) := by
            rw [esp]
            unfold spot
            cases b with
            | true => have := fb rfl; rw [if_pos rfl]; omega
            | false => rw [if_neg (by decide)]; omega
          have le3 := eq3.len
          have lx3 := Paired.len hx3
          obtain ⟨v, hv⟩ : ∃ v, xs3[sp.toNat]? = some v := ⟨_, List.getElem?_eq_getElem (by omega)⟩
          obtain ⟨e, he, q, rfl, hq⟩ := Paired.at hx3 hv
          have hat : atI xs3 sp = some (V.ref q) := by
            have := atI_nat hv
            rw [Int.toNat_of_nonneg sp01.1] at this
            exact this
          have fin : ∀ (w : Addr) (H4 : Hp), H3 w = none → Same H3 H4 → H4 w = some (.tup (entV (act a d e))) → ∀ σ, σ = [some (V.ref R), some (V.ref D), some (V.int (aheadN ps i)), some (V.ref y), some (V.int (0 + (j : Int))), some (V.int sp)] → ∃ v4 v5 xs es, σ = [some (V.ref R), some (V.ref D), some (V.int (aheadN ps i)), some (V.ref y), v4, v5] ∧ (upd H4 D (.lst (xs3 ++ [.ref w]))) D = some (.lst xs) ∧ EntsAt (upd H4 D (.lst (xs3 ++ [.ref w]))) xs es ∧ Eqs ps (pre ps i + ((j + 1 : Nat) : Int)) es ∧ Same H (upd H4 D (.lst (xs3 ++ [.ref w]))) := by
            rintro w H4 nw s4 hw σ rfl
            have hD4 := s4 _ _ hD3
            refine ⟨_, _, xs3 ++ [.ref w], es3 ++ [act a d e], rfl, upd_same, Paired.snoc ⟨w, rfl, ?_⟩ ((hx3.same s4).put hD4), ?_, same_put (s3.trans s4) hD⟩
            · have sn := Eqs.snoc ok eq3 (e := act a d e) hp' (j := (j : Int)) (by omega) (by show (j : Int) < l; omega) rfl ⟨e, get_app (by rw [← esp]; exact he), by rw [List.getElem?_append_right (by omega), show (pre ps i + (j : Int)).toNat - es3.length = 0 by omega]; rfl⟩
              rw [show pre ps i + ((j + 1 : Nat) : Int) = pre ps i + (j : Int) + 1 by omega]
              exact sn
            · have : w ≠ D := ne_of hw hD4 fun z => nomatch z
              rw [upd_ne this]
              exact hw
          refine ⟨_, rfl, y, _, 1, .int f, rfl, rfl, SqT.of hy3, rfl, _, rfl, y, _, 5, .bl b, rfl, rfl, SqT.of hy3, rfl, b, rfl, ?_⟩
          cases b with
          | true =>
            refine iteT ⟨_, rfl, y, _, 2, .int l, rfl, rfl, SqT.of hy3, rfl, _, _, rfl, rfl, _, rfl, _, _, rfl, rfl, _, _, rfl, rfl, ?_⟩
            show gName 5 (V.int (f + (l - 1 - (0 + (j : Int))))) _ _ _
            rw [show f + (l - 1 - (0 + (j : Int))) = sp by rw [esp]; unfold spot; rw [if_pos rfl, Int.zero_add]]
            refine ⟨_, rfl, .inl ⟨rfl, _, SqL.of hD3⟩, _, rfl, _, rfl, D, xs3, sp, .ref q, rfl, rfl, SqL.of hD3, hat, _, rfl, y, _, 4, .bl d, rfl, rfl, SqT.of hy3, rfl, _, rfl, y, _, 3, .int a, rfl, rfl, SqT.of hy3, rfl, q, e, d, a, rfl, hq, fun w H4 nw s4 hw => ?_⟩
            exact ⟨D, xs3, .ref w, rfl, rfl, s4 _ _ hD3, by omega, fin w H4 nw s4 hw _ rfl⟩
          | false =>
            refine iteF ⟨_, rfl, _, _, rfl, rfl, ?_⟩
            show gName 5 (V.int (f + (0 + (j : Int)))) _ _ _
            rw [show f + (0 + (j : Int)) = sp by rw [esp]; unfold spot; rw [if_neg (by decide), Int.zero_add]]
            refine ⟨_, rfl, .inl ⟨rfl, _, SqL.of hD3⟩, _, rfl, _, rfl, D, xs3, sp, .ref q, rfl, rfl, SqL.of hD3, hat, _, rfl, y, _, 4, .bl d, rfl, rfl, SqT.of hy3, rfl, _, rfl, y, _, 3, .int a, rfl, rfl, SqT.of hy3, rfl, q, e, d, a, rfl, hq, fun w H4 nw s4 hw => ?_⟩
            exact ⟨D, xs3, .ref w, rfl, rfl, s4 _ _ hD3, by omega, fin w H4 nw s4 hw _ rfl⟩
        · rintro σ H3 ⟨v4, v5, xs3, es3, rfl, hD3, hx3, eq3, s3⟩
          refine ⟨_, _, _, xs3, es3, by rw [na', Int.add_zero], hD3, hx3, ?_, s3⟩
          rw [show pre ps (i + 1) = pre ps i + ((l.toNat : Nat) : Int) by omega]
          exact eq3
    · rintro σ H2 ⟨v3, v4, v5, xs, es, rfl, hD2, hx, eq, s2⟩
      rw [lt] at eq
      exact ⟨_, rfl, k D es xs H2 hD s2 hD2 hx eq⟩
theorem ok_l_pots (T : Txt K mg Z) : FnOk P w K mg base CX0 2 Z.f_l_pots Z.d_l_pots ["_law_script", "_law_most"] (sp_l_pots K) := by
  refine T.F_l_pots.ok sc_l_pots (fun vs H Q E h => ?_) (fun cdv A outer s H vs Q E hr h => ?_)
  · obtain ⟨a, ns, rfl, _⟩ := h
    rfl
  · obtain ⟨a, ns, rfl, hS, hl, k⟩ := h
    refine ⟨_, (pss_one (ps_ret (pe_lc (own := [("_law_k", 2)]) rfl sc_l_pots.nd (pi_range1 rfl T.b_range (pa_cons (pe_callB  (call_max2 rfl) (by rfl) T.b_max (by decide +kernel) (pa_cons pe_int (pa_cons (pe_callB  (call_min2 rfl) (by rfl) T.b_min (by decide +kernel) (pa_cons (pv 1) (pa_cons (pe_callB  call_len (by rfl) T.b_len (by decide +kernel) (pa_cons (pv 0) pa_nil)) pa_nil))) pa_nil))) pa_nil)) (blkOk_by (own := [("_law_k", 2)]) (N := ["_law_script", "_law_most", "_law_k"]) (sc := defScope s_l_pots) (by decide +kernel)) (fun _ _ _ _ _ => (pg_name (i := 2) sc_l_pots.nd rfl (Or.inl rfl))) (fun _ _ _ _ _ => pts_nil) (fun _ _ _ _ _ => (pe_call (ok_l_pot T) (hr.mono (by decide)) rfl T.g_l_pot T.k_l_pot T.bn_l_pot .nil pass0 (pa_cons (pv 0) (pa_cons (pv 2) pa_nil))))))), ?_⟩
    have sl : sizeLine = 16777216 := sizeLine_eq
    refine ⟨_, rfl, _, rfl, _, _, rfl, .inl ⟨_, hS, rfl⟩, _, _, rfl, _, _, rfl, ?_⟩
    rw [List.length_map]
    have bd : 1 ≤ (if (if (ns.length : Int) < 6 then (ns.length : Int) else 6) > 1 then (if (ns.length : Int) < 6 then (ns.length : Int) else 6) else 1) ∧ (if (if (ns.length : Int) < 6 then (ns.length : Int) else 6) > 1 then (if (ns.length : Int) < 6 then (ns.length : Int) else 6) else 1) ≤ 6 := by
      constructor <;> split <;> first | omega | (split <;> omega)
    generalize (if (if (ns.length : Int) < 6 then (ns.length : Int) else 6) > 1 then (if (ns.length : Int) < 6 then (ns.length : Int) else 6) else 1) = m at bd ⊢
    refine ⟨m, rfl, by omega, by omega, fun D hD => ?_⟩
    refine lc_range (n := m.toNat) (fun i H' => ∃ qs : List Addr, qs.length = i ∧ H' D = some (.lst (qs.map V.ref)) ∧ (∀ q ∈ qs, H q = none ∧ q ≠ D ∧ Pot H' q 0) ∧ qs.Nodup ∧ Same H H') ⟨[], rfl, upd_same, (fun _ h => nomatch h), List.nodup_nil, Same.new (Same.refl H) hD⟩ ?_ ?_
    · rintro i H2 hi ⟨qs, lq, hD2, hq, nd, s2⟩
      refine ⟨rfl, ?_⟩
      unfold tYes
      refine iteT ⟨_, rfl, _, rfl, a, ns, _, rfl, s2.seq hS, hl, by omega, by omega, fun p H3 np s3 hp => ?_⟩
      have hD3 := s3 _ _ hD2
      have pD : p ≠ D := fun z => by rw [z, hD2] at np; cases np
      refine ⟨_, hD3, by rw [List.length_map]; omega, qs ++ [p], by rw [List.length_append, List.length_singleton, lq], by rw [List.map_append, upd_same]; rfl, fun q hq' => ?_, ?_, same_put (s2.trans s3) hD⟩
      · rcases List.mem_append.mp hq' with h | h
        · obtain ⟨h1, h2, h3⟩ := hq q h
          exact ⟨h1, h2, (h3.same s3).put h2⟩
        · obtain rfl := List.mem_singleton.mp h
          exact ⟨L2.Same.free s2 np, pD, hp.put pD⟩
      · rw [List.nodup_append]
        refine ⟨nd, List.nodup_cons.mpr ⟨(fun h => nomatch h), List.nodup_nil⟩, fun x hx y hy e => ?_⟩
        obtain rfl := List.mem_singleton.mp hy
        subst e
        exact (hq x hx).2.2.ne np rfl
    · rintro H2 ⟨qs, lq, hD2, hq, nd, s2⟩
      exact k D qs H2 hD s2 hD2 (by omega) (fun q h => ⟨(hq q h).1, (hq q h).2.2⟩) nd
end
end TT


set_option maxHeartbeats 4000000
namespace TT
open PySem PySem.Spec PyProof.Rows L2 LamX TL
/-! ### data that repr can show, of so many leaves and so deep -/
structure Gd (d : PyData) (n m : Nat) : Prop where
  s : d.showable = true
  h : d.hasDict = false
  dp : d.depth ≤ m
  l : d.leavesShort 65 = true
  b : d.bulk ≤ n
structure Gds (ds : List PyData) (n m : Nat) : Prop where
  s : PyData.showableAll ds = true
  h : PyData.hasDictAll ds = false
  dp : PyData.depthAll ds ≤ m
  l : PyData.leavesShortAll 65 ds = true
  b : PyData.bulkAll ds ≤ n
theorem Gds.nil {n m : Nat} : Gds [] n m := ⟨by simp [PyData.showableAll], by simp [PyData.hasDictAll], by simp [PyData.depthAll], by simp [PyData.leavesShortAll], by simp [PyData.bulkAll]⟩
theorem Gds.cons {d : PyData} {ds : List PyData} {n k m : Nat} (a : Gd d n m) (t : Gds ds k m) : Gds (d :: ds) (n + 1 + k) m := by
  have h1 := a.dp; have h2 := t.dp; have h3 := a.b; have h4 := t.b
  exact ⟨by simp [PyData.showableAll, a.s, t.s], by simp [PyData.hasDictAll, a.h, t.h], by rw [PyData.depthAll]; omega, by simp [PyData.leavesShortAll, a.l, t.l], by rw [PyData.bulkAll]; omega⟩
theorem Gd.tup {ds : List PyData} {n m : Nat} (t : Gds ds n m) : Gd (.tuple ds) n (m + 1) := by
  have h := t.dp
  exact ⟨by rw [PyData.showable]; exact t.s, by rw [PyData.hasDict]; exact t.h, by rw [PyData.depth]; omega, by rw [PyData.leavesShort]; exact t.l, by rw [PyData.bulk]; exact t.b⟩
theorem Gd.lst {ds : List PyData} {n m : Nat} (t : Gds ds n m) : Gd (.list ds) n (m + 1) := by
  have h := t.dp
  exact ⟨by rw [PyData.showable]; exact t.s, by rw [PyData.hasDict]; exact t.h, by rw [PyData.depth]; omega, by rw [PyData.leavesShort]; exact t.l, by rw [PyData.bulk]; exact t.b⟩
theorem Gd.int {i : Int} {n m : Nat} (h0 : -(10 ^ 64) < i) (h1 : i < 10 ^ 64) : Gd (.int i) n m := by
  refine ⟨int_ok64 h0 h1, by simp [PyData.hasDict], by simp [PyData.depth], ?_, by simp [PyData.bulk]⟩
  have := int_len64 h0 h1
  rw [PyData.leavesShort, decide_eq_true_eq, shown_int]
  exact this
theorem Gd.bl {b : Bool} {n m : Nat} : Gd (.bool b) n m := ⟨by simp [PyData.showable], by simp [PyData.hasDict], by simp [PyData.depth], by simp [PyData.leavesShort], by simp [PyData.bulk]⟩
theorem Gd.word {x : String} {m : Nat} (h : ((Str.ofString x).cps.toList.all fun c => decide (c < 16 ^ 8)) = true) (l : (Str.ofString x).cps.size ≤ 5) : Gd (.str (Str.ofString x)) 5 m :=
  ⟨by simp [PyData.showable], by simp [PyData.hasDict], by simp [PyData.depth], by rw [PyData.leavesShort]; exact h, by rw [PyData.bulk]; exact l⟩
theorem Gd.le {d : PyData} {n m n' m' : Nat} (g : Gd d n m) (h : n ≤ n') (h2 : m ≤ m') : Gd d n' m' := ⟨g.s, g.h, Nat.le_trans g.dp h2, g.l, Nat.le_trans g.b h⟩
theorem Gds.map {α : Type} {f : α → PyData} {n m : Nat} : ∀ {l : List α}, (∀ x ∈ l, Gd (f x) n m) → Gds (l.map f) (l.length * (n + 1)) m
  | [], _ => Gds.nil
  | a :: t, h => by
    have i := Gds.map (l := t) fun x hx => h x (List.mem_cons_of_mem _ hx)
    have c := Gds.cons (h a (List.mem_cons_self ..)) i
    rw [List.map_cons, List.length_cons, Nat.succ_mul, Nat.add_comm]
    exact c
theorem Gd.shown {d : PyData} {n m : Nat} (g : Gd d n m) (hm : m ≤ 60) (hn : n ≤ 10000) : Shown d := by
  have sl : sizeLine = 16777216 := sizeLine_eq
  have q := PyData.shown_le_bulk 65 (by decide) _ g.l
  have := g.b; have := g.dp
  exact ⟨g.s, by omega, by omega⟩
/-! pieces, entries as data -/
def dPc : Pc → PyData
  | .new l => .tuple [.str "new", .int l]
  | .notes l x => .tuple [.str "notes", .int l, .int x]
  | .copy f l a d b => .tuple [.str "copy", .int f, .int l, .int a, .bool d, .bool b]
def dEnt : Ent → PyData
  | .told x => .tuple [.str "told", .int x]
  | .rel d k c => .tuple [.str (word d), .int k, .int c]
theorem dp_pc {K : PySem.W.Frag} {H : Hp} {q : Addr} {p : Pc} (h : PcAt H q p) : Dp K H (.ref q) (dPc p) := by
  cases p with
  | new l => exact .tup (SqT.of h) (.cons (.str _) (.cons (.int _) .nil))
  | notes l x => exact .tup (SqT.of h) (.cons (.str _) (.cons (.int _) (.cons (.int _) .nil)))
  | copy f l a d b => exact .tup (SqT.of h) (.cons (.str _) (.cons (.int _) (.cons (.int _) (.cons (.int _) (.cons (.bl _) (.cons (.bl _) .nil))))))
theorem dp_ent {K : PySem.W.Frag} {H : Hp} {q : Addr} {e : Ent} (h : H q = some (.tup (entV e))) : Dp K H (.ref q) (dEnt e) := by
  cases e with
  | told x => exact .tup (SqT.of h) (.cons (.str _) (.cons (.int _) .nil))
  | rel d k c => exact .tup (SqT.of h) (.cons (.str _) (.cons (.int _) (.cons (.int _) .nil)))
theorem dp_pcs {K : PySem.W.Frag} {H : Hp} : ∀ {xs : List V} {ps : List Pc}, PcsAt H xs ps → DpAll K H xs (ps.map dPc)
  | _, _, .nil => .nil
  | _, _, .cons ⟨q, e, t⟩ r => by subst e; exact .cons (dp_pc t) (dp_pcs r)
theorem dp_ents {K : PySem.W.Frag} {H : Hp} : ∀ {xs : List V} {es : List Ent}, EntsAt H xs es → DpAll K H xs (es.map dEnt)
  | _, _, .nil => .nil
  | _, _, .cons ⟨q, e, t⟩ r => by subst e; exact .cons (dp_ent t) (dp_ents r)
theorem gd_pc {p : Pc} {h : Int} (o : p.OkAt h) (hh : h ≤ 30) (l30 : p.len ≤ 30) : Gd (dPc p) 12 1 := by
  have e64 : (10 : Int) ^ 12 < 10 ^ 64 := by decide +kernel
  have e30 : (30 : Int) < 10 ^ 12 := by decide +kernel
  cases p with
  | new l =>
    have o1 : 1 ≤ l := o
    have l1 : l ≤ 30 := l30
    exact (Gd.tup (Gds.cons (Gd.word (x := "new") (by decide +kernel) (by decide +kernel)) (Gds.cons (n := 0) (Gd.int (by omega) (by omega)) (Gds.nil (n := 0) (m := 0))))).le (by decide) (by decide)
  | notes l x =>
    obtain ⟨o1, o2, o3⟩ := o
    have l1 : l ≤ 30 := l30
    exact (Gd.tup (Gds.cons (Gd.word (x := "notes") (by decide +kernel) (by decide +kernel)) (Gds.cons (n := 0) (Gd.int (by omega) (by omega)) (Gds.cons (n := 0) (Gd.int (by omega) (by omega)) (Gds.nil (n := 0) (m := 0)))))).le (by decide) (by decide)
  | copy f l a d b =>
    obtain ⟨f0, f1, o1, o2, o3, _⟩ := o
    have l1 : l ≤ 30 := l30
    exact (Gd.tup (Gds.cons (Gd.word (x := "copy") (by decide +kernel) (by decide +kernel)) (Gds.cons (n := 0) (Gd.int (by omega) (by omega)) (Gds.cons (n := 0) (Gd.int (by omega) (by omega)) (Gds.cons (n := 0) (Gd.int (by omega) (by omega)) (Gds.cons (n := 0) Gd.bl (Gds.cons (n := 0) Gd.bl (Gds.nil (n := 0) (m := 0))))))))).le (by decide) (by decide)
def EB (k : Nat) : Ent → Prop
  | .told x => -((k + 1 : Nat) * 10 ^ 12) ≤ x ∧ x ≤ (k + 1 : Nat) * 10 ^ 12
  | .rel _ m c => 0 ≤ m ∧ m ≤ 30 ∧ -((k + 1 : Nat) * 10 ^ 12) ≤ c ∧ c ≤ (k + 1 : Nat) * 10 ^ 12
theorem EB.act {k j : Nat} {e : Ent} {a : Int} {d : Bool} (h : EB k e) (a0 : -(10 ^ 12) ≤ a) (a1 : a ≤ 10 ^ 12) (kj : k < j) : EB j (act a d e) := by
  cases e with
  | told x =>
    obtain ⟨h1, h2⟩ := h
    show _ ≤ ledI a d x ∧ ledI a d x ≤ _
    unfold ledI
    cases d <;> simp <;> omega
  | rel dn m c =>
    obtain ⟨m0, m1, h1, h2⟩ := h
    refine ⟨m0, m1, ?_⟩
    unfold ledI
    cases d <;> simp <;> omega
theorem ahead_le {ps : List Pc} (ok : Fits ps) : ∀ {i : Nat}, i ≤ ps.length → 0 ≤ aheadN ps i ∧ aheadN ps i ≤ pre ps i
  | 0, _ => by rw [ahead_zero, pre_zero]; exact ⟨Int.le_refl _, Int.le_refl _⟩
  | i + 1, h => by
    obtain ⟨p, hp⟩ : ∃ p, ps[i]? = some p := ⟨_, List.getElem?_eq_getElem (by omega)⟩
    have ih := ahead_le ok (i := i) (by omega)
    have po := (ok i p hp).pos
    rw [ahead_succ hp, pre_succ hp]
    cases p with
    | new l => have : 1 ≤ l := po; constructor <;> (simp only [Pc.fresh, Pc.len]; omega)
    | notes l x => have : 1 ≤ l := po; constructor <;> (simp only [Pc.fresh, Pc.len]; omega)
    | copy f l a d b => have : 1 ≤ l := po; constructor <;> (simp only [Pc.fresh, Pc.len]; omega)
/-- how great an entry can be -/
theorem ent_bound {ps : List Pc} (ok : PsOk ps) (z30 : pre ps ps.length ≤ 30) {E : List Ent} (h : Eqs ps (pre ps ps.length) E) : ∀ (k : Nat) (e : Ent), E[k]? = some e → EB k e := by
  intro k
  induction k using Nat.strongRecOn with
  | _ k ih =>
    intro e he
    have kl := (List.getElem?_eq_some_iff.mp he).1
    have hl := h.len
    obtain ⟨i, p, hp, il, h1, h2⟩ := locate (ps := ps) (n := ps.length) (k := (k : Int)) (Nat.le_refl _) (by omega) (by omega)
    have nx := pre_succ hp
    have nn := pre_nn ok.at_ (show i ≤ ps.length by omega)
    have mono := pre_le ok.at_ (show i + 1 ≤ ps.length by omega) (Nat.le_refl _)
    have sy := h.says i p ((k : Int) - pre ps i) hp (by omega) (by omega) (by omega)
    have ek : (pre ps i + ((k : Int) - pre ps i)).toNat = k := by omega
    have al := ahead_le ok.at_ (show i ≤ ps.length by omega)
    have oki := ok.at_ i p hp
    cases p with
    | new l =>
      have sy' : E[(pre ps i + ((k : Int) - pre ps i)).toNat]? = some (.rel false (aheadN ps i + ((k : Int) - pre ps i)) 0) := sy
      rw [ek, he] at sy'
      obtain rfl := Option.some.inj sy'
      exact ⟨by omega, by omega, by omega, by omega⟩
    | notes l x =>
      have sy' : E[(pre ps i + ((k : Int) - pre ps i)).toNat]? = some (.told x) := sy
      rw [ek, he] at sy'
      obtain rfl := Option.some.inj sy'
      obtain ⟨_, x0, x1⟩ := oki
      exact ⟨by omega, by omega⟩
    | copy f l a d b =>
      obtain ⟨f0, f1, l1, a0, a1, fb⟩ := oki
      obtain ⟨e0, s1, s2⟩ := sy
      rw [ek, he] at s2
      obtain rfl := Option.some.inj s2
      have nx' : pre ps (i + 1) = pre ps i + l := nx
      have sp : 0 ≤ spot f l b ((k : Int) - pre ps i) ∧ spot f l b ((k : Int) - pre ps i) < k := by
        unfold spot
        cases b with
        | true => have := fb rfl; rw [if_pos rfl]; omega
        | false => rw [if_neg (by decide)]; omega
      exact (ih _ (by omega) e0 s1).act a0 a1 (by omega)
theorem gd_ent {k : Nat} {e : Ent} (hk : k < 30) (h : EB k e) : Gd (dEnt e) 8 1 := by
  have e64 : (30 : Int) * 10 ^ 12 < 10 ^ 64 := by decide +kernel
  have b1 : (((k + 1 : Nat)) : Int) * 10 ^ 12 ≤ 30 * 10 ^ 12 := Int.mul_le_mul_of_nonneg_right (by omega) (by decide)
  have e30 : (30 : Int) < 10 ^ 64 := by decide +kernel
  cases e with
  | told x =>
    obtain ⟨h1, h2⟩ := h
    exact (Gd.tup (Gds.cons (Gd.word (x := "told") (by decide +kernel) (by decide +kernel)) (Gds.cons (n := 0) (Gd.int (by omega) (by omega)) (Gds.nil (n := 0) (m := 0))))).le (by decide) (by decide)
  | rel d m c =>
    obtain ⟨m0, m1, h1, h2⟩ := h
    cases d with
    | true => exact (Gd.tup (Gds.cons (Gd.word (x := "down") (by decide +kernel) (by decide +kernel)) (Gds.cons (n := 0) (Gd.int (by omega) (by omega)) (Gds.cons (n := 0) (Gd.int (by omega) (by omega)) (Gds.nil (n := 0) (m := 0)))))).le (by decide) (by decide)
    | false => exact (Gd.tup (Gds.cons (Gd.word (x := "up") (by decide +kernel) (by decide +kernel)) (Gds.cons (n := 0) (Gd.int (by omega) (by omega)) (Gds.cons (n := 0) (Gd.int (by omega) (by omega)) (Gds.nil (n := 0) (m := 0)))))).le (by decide) (by decide)
theorem gds_ents {ps : List Pc} (ok : PsOk ps) (z30 : pre ps ps.length ≤ 30) {E : List Ent} (h : Eqs ps (pre ps ps.length) E) : Gds (E.map dEnt) (E.length * 9) 1 := Gds.map fun e he => by
  obtain ⟨k, hk⟩ := List.mem_iff_getElem?.mp he
  have kl := (List.getElem?_eq_some_iff.mp hk).1
  have hl := h.len
  exact gd_ent (by omega) (ent_bound ok z30 h k e hk)
theorem gds_pcs {ps : List Pc} (ok : PsOk ps) (z30 : pre ps ps.length ≤ 30) : Gds (ps.map dPc) (ps.length * 13) 1 := Gds.map fun p hp => by
  obtain ⟨i, hi⟩ := List.mem_iff_getElem?.mp hp
  have il := (List.getElem?_eq_some_iff.mp hi).1
  have nx := pre_succ hi
  have nn := pre_nn ok.at_ (show i ≤ ps.length by omega)
  have mono := pre_le ok.at_ (show i + 1 ≤ ps.length by omega) (Nat.le_refl _)
  have po := (ok.at_ i p hi).pos
  exact gd_pc (ok.at_ i p hi) (by omega) (by omega)
end TT

set_option maxHeartbeats 4000000
namespace TT
open PySem PySem.Spec PyProof.Rows L2 LamX TL
/-! ### places, stretches, notes -/
def sp_check_place (K : PySem.W.Frag) (Z : Zs) : Sp := fun vs H Q E => ∃ (v : V) (z : Int), vs = [v, .int z] ∧ ((∃ k, v = .int k ∧ 0 ≤ k ∧ k < z ∧ Q .non H) ∨ ∃ o, IsI K H v o ∧ (∀ i, o = some i → ¬ (0 ≤ i ∧ i < z)) ∧ Out E (Z.c 0) v H)
/-- the least of 99 and what is left -/
def most (z k : Int) : Int := if z - k < 99 then z - k else 99
def sp_check_stretch (K : PySem.W.Frag) (Z : Zs) : Sp := fun vs H Q E => ∃ (f l : V) (z : Int), vs = [f, l, .int z] ∧
  ((∃ o, IsI K H f o ∧ (∀ i, o = some i → ¬ (0 ≤ i ∧ i < z)) ∧ Out E (Z.c 0) f H) ∨
   ∃ k, f = .int k ∧ 0 ≤ k ∧ k < z ∧ ((∃ o, IsI K H l o ∧ (∀ i, o = some i → ¬ (1 ≤ i ∧ i ≤ most z k)) ∧ Out E (Z.c 2) l H) ∨ ∃ i, l = .int i ∧ 1 ≤ i ∧ i ≤ most z k ∧ Q .non H))
/-- the note of an entry, by the notes of new places -/
def noteOf (nv : Int → Int) : Ent → Int
  | .told x => x
  | .rel d k c => ledI c d (nv k)
def sp_note_of : Sp := fun vs H Q _ => ∃ (q c : Addr) (e : Ent) (nv : Int → Int) (kvs : List (Key × V)), vs = [.ref q, .ref c] ∧ H q = some (.tup (entV e)) ∧ H c = some (.dK kvs) ∧ (∀ d k m, e = .rel d k m → valV kvs (.inl k) = some (.int (nv k))) ∧ ∀ H', Same H H' → Q (.int (noteOf nv e)) H'
def sp_l_note_of (K : PySem.W.Frag) : Sp := fun vs H Q _ => ∃ (q a : Addr) (e : Ent) (nv : Int → Int) (ns : List V), vs = [.ref q, .ref a] ∧ H q = some (.tup (entV e)) ∧ SqL K H a ns ∧ (∀ d k m, e = .rel d k m → 0 ≤ k ∧ ns[k.toNat]? = some (.int (nv k))) ∧ Q (.int (noteOf nv e)) H
def sp_l_int (K : PySem.W.Frag) : Sp := fun vs H Q _ => ∃ (v : V) (o : Option Int) (a b : Int), vs = [v, .int a, .int b] ∧ IsI K H v o ∧ ((∃ i, o = some i ∧ Q (.bl (decide (a ≤ i) && decide (i ≤ b))) H) ∨ (o = none ∧ Q (.bl false) H))
section
variable {P : Program} {w : World} {K : PySem.W.Frag} {mg : Str → Option Value} {base : Heap} {Z : Zs}
theorem bl_not {i a b : Int} (h : ¬ (a ≤ i ∧ i ≤ b)) : (decide (a ≤ i) && decide (i ≤ b)) = false := by
  by_cases c : a ≤ i
  · rw [decide_eq_true c, decide_eq_false fun d => h ⟨c, d⟩] <;> rfl
  · rw [decide_eq_false c] <;> rfl
theorem bl_yes {i a b : Int} (h : a ≤ i ∧ i ≤ b) : (decide (a ≤ i) && decide (i ≤ b)) = true := by rw [decide_eq_true h.1, decide_eq_true h.2] <;> rfl
theorem ok_check_place (T : Txt K mg Z) : FnOk P w K mg base (L2.CX P w) 4 Z.f_check_place Z.d_check_place ["place", "size"] (sp_check_place K Z) := by
  refine T.F_check_place.okX sc_check_place (fun vs H Q E h => ?_) (fun cdv A outer s H vs Q E hr h => ?_)
  · obtain ⟨v, z, rfl, _⟩ := h
    rfl
  · obtain ⟨v, z, rfl, h⟩ := h
    have X0 := T.ex 0 (by decide)
    refine ⟨_, (pss_one (ps_if (pt_not (pt_val (pe_call (ok_is_between T) (hr.mono (by decide)) rfl T.g_is_between T.k_is_between T.bn_is_between .nil pass0 (pa_cons (pv 0) (pa_cons pe_int (pa_cons (pe_op op_sub (pv 1) pe_int) pa_nil)))))) (pss_one (ps_raise rfl (takes_of rfl rfl rfl rfl) (pmk_oex (T.ex 0 (by decide)).ox (T.ex 0 (by decide)).ini T.t_E_init (ok_E_init T) (hr.mono (by decide)) T.bn_E_init .nil pass0 rfl T.g_NoPlace (pa_cons (pv 0) pa_nil)))) pss_nil)), ?_⟩
    refine ⟨_, rfl, _, rfl, _, _, rfl, rfl, ?_⟩
    rcases h with ⟨k, rfl, k0, k1, kk⟩ | ⟨o, hv, bad, out⟩
    · exact .inl ⟨k, 0, _, rfl, true, congrArg V.bl (bl_yes ⟨k0, by omega⟩), iteF kk⟩
    · cases hv with
      | int i => exact .inl ⟨i, 0, _, rfl, false, congrArg V.bl (bl_not (by have := bad i rfl; omega)), iteT ⟨_, rfl, mkR X0 out⟩⟩
      | no hw => exact .inr ⟨v, _, _, rfl, hw, false, rfl, iteT ⟨_, rfl, mkR X0 out⟩⟩
theorem ok_check_stretch (T : Txt K mg Z) : FnOk P w K mg base (L2.CX P w) 5 Z.f_check_stretch Z.d_check_stretch ["first", "length", "size"] (sp_check_stretch K Z) := by
  refine T.F_check_stretch.okX sc_check_stretch (fun vs H Q E h => ?_) (fun cdv A outer s H vs Q E hr h => ?_)
  · obtain ⟨f, l, z, rfl, _⟩ := h
    rfl
  · obtain ⟨f, l, z, rfl, h⟩ := h
    have X2 := T.ex 2 (by decide)
    refine ⟨_, (pss_cons (ps_expr (pe_call (ok_check_place T) (hr.mono (by decide)) rfl T.g_check_place T.k_check_place T.bn_check_place .nil (passes_call (takes_of rfl rfl rfl rfl) (fun _ _ _ _ h => h)) (pa_cons (pv 0) (pa_cons (pv 2) pa_nil))))
      (pss_one (ps_if (pt_not (pt_val (pe_call (ok_is_between T) (hr.mono (by decide)) rfl T.g_is_between T.k_is_between T.bn_is_between .nil pass0 (pa_cons (pv 1) (pa_cons pe_int (pa_cons (pe_callB  (call_min2 rfl) (by rfl) T.b_min (by decide +kernel) (pa_cons (pe_glob (v := .int 99) rfl T.c__LONGEST ⟨_, rfl⟩) (pa_cons (pe_op op_sub (pv 2) (pv 0)) pa_nil))) pa_nil)))))) (pss_one (ps_raise rfl (takes_of rfl rfl rfl rfl) (pmk_oex (T.ex 2 (by decide)).ox (T.ex 2 (by decide)).ini T.t_E_init (ok_E_init T) (hr.mono (by decide)) T.bn_E_init .nil pass0 rfl T.g_BadLength (pa_cons (pv 1) pa_nil)))) pss_nil))), ?_⟩
    refine ⟨_, rfl, _, rfl, f, z, rfl, ?_⟩
    rcases h with ⟨o, hv, bad, out⟩ | ⟨k, rfl, k0, k1, h⟩
    · exact .inr ⟨o, hv, bad, out⟩
    · refine .inl ⟨k, rfl, k0, k1, ?_⟩
      refine ⟨_, rfl, _, rfl, _, rfl, _, _, rfl, rfl, _, _, rfl, ?_⟩
      rcases h with ⟨o, hv, bad, out⟩ | ⟨i, rfl, i1, i2, kk⟩
      · cases hv with
        | int i => exact .inl ⟨i, 1, most z k, rfl, false, congrArg V.bl (bl_not (bad i rfl)), iteT ⟨_, rfl, mkR X2 out⟩⟩
        | no hw => exact .inr ⟨l, _, _, rfl, hw, false, rfl, iteT ⟨_, rfl, mkR X2 out⟩⟩
      · exact .inl ⟨i, 1, most z k, rfl, true, congrArg V.bl (bl_yes ⟨i1, i2⟩), iteF kk⟩
theorem ok_note_of (T : Txt K mg Z) : FnOk P w K mg base CX0 2 Z.f_note_of Z.d_note_of ["what", "chosen"] sp_note_of := by
  refine T.F_note_of.ok sc_note_of (fun vs H Q E h => ?_) (fun cdv A outer s H vs Q E hr h => ?_)
  · obtain ⟨q, c, e, nv, kvs, rfl, _⟩ := h
    rfl
  · obtain ⟨q, c, e, nv, kvs, rfl, hq, hc, has, k⟩ := h
    refine ⟨_, (pss_cons (ps_if (pt_cmpR op_eq (pe_ix ix_tup (pv 0) pe_int (fun _ _ => rfl)) pe_str (nomark _)) (pss_one (ps_ret (pe_ix ix_tup (pv 0) pe_int (fun _ _ => rfl)))) pss_nil)
      (pss_cons (ps_asg (pv 0) (pg_tup rfl (pgs_cons (pg_name (i := 2) sc_note_of.nd rfl (Or.inl rfl)) (pgs_cons (pg_name (i := 3) sc_note_of.nd rfl (Or.inl rfl)) (pgs_cons (pg_name (i := 4) sc_note_of.nd rfl (Or.inl rfl)) pgs_nil)))))
      (pss_one (ps_ret (pe_call (ok_led_by T) (hr.mono (by decide)) rfl T.g_led_by T.k_led_by T.bn_led_by .nil pass0 (pa_cons (pe_tup (pa_cons (pv 4) (pa_cons (pe_cmpR op_eq (pv 2) pe_str (nomark _)) pa_nil))) (pa_cons (pe_dget (hu_of hr) (pv 1) (pv 3) (fun _ _ => rfl)) pa_nil))))))), ?_⟩
    cases e with
    | told x =>
      have hq' : H q = some (.tup [.str "told", .int x]) := hq
      refine ⟨_, rfl, q, _, 0, .str "told", rfl, rfl, SqT.of hq', rfl, rfl, true, by rw [show decide (V.str "told" = V.str "told") = true by decide +kernel], iteT ?_⟩
      exact ⟨_, rfl, q, _, 1, .int x, rfl, rfl, SqT.of hq', rfl, k H (Same.refl H)⟩
    | rel dn n m =>
      have hq' : H q = some (.tup [.str (word dn), .int n, .int m]) := hq
      have w0 : decide (V.str (word dn) = V.str "told") = false := by cases dn <;> decide +kernel
      have w1 : decide (V.str (word dn) = V.str "down") = dn := by cases dn <;> decide +kernel
      refine ⟨_, rfl, q, _, 0, .str (word dn), rfl, rfl, SqT.of hq', rfl, rfl, false, by rw [w0], iteF ?_⟩
      refine ⟨_, rfl, q, _, rfl, SqT.of hq', rfl, _, _, rfl, _, _, rfl, _, _, rfl, rfl, ?_⟩
      refine ⟨_, rfl, _, rfl, rfl, by show 2 ≤ sizeLine; decide, fun u hu => ?_⟩
      rw [w1]
      have s1 := Same.new (o := .tup [.int m, .bl dn]) (Same.refl H) hu
      refine ⟨_, rfl, _, rfl, c, .int (nv n), rfl, ?_, u, m, dn, nv n, rfl, SqT.of upd_same, k _ s1⟩
      have hc' := s1 _ _ hc
      have g := DGet.k (k := .inl n) hc'
      rw [has dn n m rfl] at g
      exact g
theorem ok_l_note_of (T : Txt K mg Z) : FnOk P w K mg base CX0 2 Z.f_l_note_of Z.d_l_note_of ["_law_entry", "_law_notes"] (sp_l_note_of K) := by
  refine T.F_l_note_of.ok sc_l_note_of (fun vs H Q E h => ?_) (fun cdv A outer s H vs Q E hr h => ?_)
  · obtain ⟨q, a, e, nv, ns, rfl, _⟩ := h
    rfl
  · obtain ⟨q, a, e, nv, ns, rfl, hq, ha, has, k⟩ := h
    refine ⟨_, (pss_cons (ps_if (pt_cmpR op_eq (pe_ix ix_tup (pv 0) pe_int (fun _ _ => rfl)) pe_str (nomark _)) (pss_one (ps_ret (pe_ix ix_tup (pv 0) pe_int (fun _ _ => rfl)))) pss_nil)
      (pss_one (ps_ret (pe_ifExp (pt_cmpR op_eq (pe_ix ix_tup (pv 0) pe_int (fun _ _ => rfl)) pe_str (nomark _)) (pe_op op_add (pe_ix ix_tup (pv 0) pe_int (fun _ _ => rfl)) (pe_ix ix_list (pv 1) (pe_ix ix_tup (pv 0) pe_int (fun _ _ => rfl)) (fun _ _ => rfl))) (pe_op op_sub (pe_ix ix_tup (pv 0) pe_int (fun _ _ => rfl)) (pe_ix ix_list (pv 1) (pe_ix ix_tup (pv 0) pe_int (fun _ _ => rfl)) (fun _ _ => rfl))))))), ?_⟩
    cases e with
    | told x =>
      have hq' : H q = some (.tup [.str "told", .int x]) := hq
      refine ⟨_, rfl, q, _, 0, .str "told", rfl, rfl, SqT.of hq', rfl, rfl, true, by rw [show decide (V.str "told" = V.str "told") = true by decide +kernel], iteT ?_⟩
      exact ⟨_, rfl, q, _, 1, .int x, rfl, rfl, SqT.of hq', rfl, k⟩
    | rel dn n m =>
      have hq' : H q = some (.tup [.str (word dn), .int n, .int m]) := hq
      obtain ⟨n0, hn⟩ := has dn n m rfl
      have hat : atI ns n = some (.int (nv n)) := by
        have := atI_nat hn
        rw [Int.toNat_of_nonneg n0] at this
        exact this
      have w0 : decide (V.str (word dn) = V.str "told") = false := by cases dn <;> decide +kernel
      have w1 : decide (V.str (word dn) = V.str "up") = !dn := by cases dn <;> decide +kernel
      refine ⟨_, rfl, q, _, 0, .str (word dn), rfl, rfl, SqT.of hq', rfl, rfl, false, by rw [w0], iteF ?_⟩
      refine ⟨_, rfl, q, _, 0, .str (word dn), rfl, rfl, SqT.of hq', rfl, rfl, !dn, by rw [w1], ?_⟩
      cases dn with
      | true => exact iteF ⟨_, rfl, q, _, 2, .int m, rfl, rfl, SqT.of hq', rfl, _, rfl, _, rfl, q, _, 1, .int n, rfl, rfl, SqT.of hq', rfl, a, ns, n, _, rfl, rfl, ha, hat, _, _, rfl, rfl, k⟩
      | false => exact iteT ⟨_, rfl, q, _, 2, .int m, rfl, rfl, SqT.of hq', rfl, _, rfl, _, rfl, q, _, 1, .int n, rfl, rfl, SqT.of hq', rfl, a, ns, n, _, rfl, rfl, ha, hat, _, _, rfl, rfl, k⟩
theorem ok_l_is_int (T : Txt K mg Z) : FnOk P w K mg base CX0 1 Z.f_l_is_int Z.d_l_is_int ["_law_value", "_law_low", "_law_high"] (sp_l_int K) := by
  refine T.F_l_is_int.ok sc_l_is_int (fun vs H Q E h => ?_) (fun cdv A outer s H vs Q E hr h => ?_)
  · obtain ⟨v, o, a, b, rfl, _⟩ := h
    rfl
  · obtain ⟨v, o, a, b, rfl, hv, h⟩ := h
    refine ⟨_, (pss_one (ps_ret (pe_and (pe_callB  call_isi (by rfl) T.b_isinstance (by decide +kernel) (pa_cons (pv 0) (pa_cons (pe_bltn (v := .ty "int") rfl T.b_int (by decide +kernel) rfl) pa_nil))) (pe_and (pe_not (pe_callB  call_isi (by rfl) T.b_isinstance (by decide +kernel) (pa_cons (pv 0) (pa_cons (pe_bltn (v := .ty "bool") rfl T.b_bool (by decide +kernel) rfl) pa_nil)))) (pe_one (pe_chain op_le op_le (pv 1) (pv 0) (pv 2))))))), ?_⟩
    cases hv with
    | int i =>
      rcases h with ⟨j, e, k⟩ | ⟨e, _⟩
      · cases e
        refine ⟨_, rfl, _, _, _, _, true, rfl, .ty "int", .base (.int i), kit_ty (by decide +kernel), true, rfl, iteT ⟨_, rfl, _, _, _, _, false, rfl, .ty "bool", .base (.int i), kit_ty (by decide +kernel), false, rfl, true, rfl, iteT ?_⟩⟩
        refine ⟨_, rfl, _, rfl, _, _, rfl, rfl, decide (a ≤ i), rfl, ?_⟩
        by_cases c : a ≤ i
        · rw [decide_eq_true c] at k ⊢
          exact iteT ⟨_, rfl, _, _, rfl, rfl, k⟩
        · rw [decide_eq_false c] at k ⊢
          exact iteF k
      · cases e
    | no hw =>
      obtain ⟨t, b1, b2, ty, e1, e2, e3⟩ := hw
      rcases h with ⟨j, e, k⟩ | ⟨_, k⟩
      · cases e
      · refine ⟨_, rfl, _, _, t, _, b1, rfl, .ty "int", ty, e1, b1, rfl, ?_⟩
        cases b1 with
        | false => exact iteF k
        | true =>
          cases b2 with
          | false => cases e3
          | true => exact iteT ⟨_, rfl, _, _, t, _, true, rfl, .ty "bool", ty, e2, true, rfl, false, rfl, iteF k⟩
end
end TT

set_option maxHeartbeats 4000000
namespace TT
open PySem PySem.Spec PyProof.Rows L2 LamX NdefX
/-! ### a melody played -/
/-- what is handed to played: it may write into the list at ask, and answers nv d, the number i of those that are due -/
structure Asks (K : PySem.W.Frag) (tl : TL) (H : Hp) (ask : Addr) (G : Nat → List V) (due : List Int) (nv : Int → V) (ni : Int → Option Int) : Prop where
  start : H ask = some (.lst (G 0))
  step : ∀ (i : Nat) (d : Int) (H1 : Hp) (Q : VK), due[i]? = some d → H1 ask = some (.lst (G i)) → Keep ask H H1 → (∀ H2, H2 ask = some (.lst (G (i + 1))) → Keep ask H1 H2 → IsI K H2 (nv d) (ni d) → Q (nv d) H2) → tl E0 [.int d] H1 Q
/-- the numbers that these entries ask for, rising -/
structure Due (es : List Ent) (due : List Int) : Prop where
  up : due.Pairwise (· < ·)
  mem : ∀ k, k ∈ due ↔ ∃ d c, Ent.rel d k c ∈ es
theorem rising_uniq : ∀ {xs ys : List Int}, xs.Pairwise (· < ·) → ys.Pairwise (· < ·) → (∀ k, k ∈ xs ↔ k ∈ ys) → xs = ys
  | [], [], _, _, _ => rfl
  | [], y :: ys, _, _, h => absurd ((h y).mpr List.mem_cons_self) List.not_mem_nil
  | x :: xs, [], _, _, h => absurd ((h x).mp List.mem_cons_self) List.not_mem_nil
  | x :: xs, y :: ys, hx, hy, h => by
    obtain ⟨x1, x2⟩ := List.pairwise_cons.mp hx
    obtain ⟨y1, y2⟩ := List.pairwise_cons.mp hy
    have e : x = y := by
      rcases List.mem_cons.mp ((h x).mp List.mem_cons_self) with a | a
      · exact a
      · rcases List.mem_cons.mp ((h y).mpr List.mem_cons_self) with b | b
        · exact b.symm
        · have p := x1 y b
          have q := y1 x a
          omega
    subst e
    rw [rising_uniq x2 y2 fun k => ⟨fun m => ?_, fun m => ?_⟩]
    · rcases List.mem_cons.mp ((h k).mp (List.mem_cons_of_mem _ m)) with a | a
      · have := x1 k m
        omega
      · exact a
    · rcases List.mem_cons.mp ((h k).mpr (List.mem_cons_of_mem _ m)) with a | a
      · have := y1 k m
        omega
      · exact a
theorem Due.uniq {es : List Ent} {a b : List Int} (x : Due es a) (y : Due es b) : a = b := rising_uniq x.up y.up fun k => (x.mem k).trans (y.mem k).symm
/-- the dict of the notes asked so far -/
def dic (nv : Int → Int) (ds : List Int) : List (Key × V) := ds.map fun d => (Sum.inl d, V.int (nv d))
theorem dic_has {nv : Int → Int} {k : Int} : ∀ {ds : List Int}, k ∈ ds → valV (dic nv ds) (.inl k) = some (.int (nv k))
  | d :: ds, h => by
    by_cases e : d = k
    · subst e
      exact valV_pos rfl
    · have m : k ∈ ds := (List.mem_cons.mp h).elim (fun z => absurd z.symm e) id
      show valV ((Sum.inl d, V.int (nv d)) :: dic nv ds) (.inl k) = _
      rw [valV_neg (fun z => e (Sum.inl.inj z))]
      exact dic_has m
theorem dic_no {nv : Int → Int} {k : Int} : ∀ {ds : List Int}, k ∉ ds → valV (dic nv ds) (.inl k) = none
  | [], _ => rfl
  | d :: ds, h => by
    show valV ((Sum.inl d, V.int (nv d)) :: dic nv ds) (.inl k) = none
    rw [valV_neg (fun z => h (by rw [← Sum.inl.inj z]; exact List.mem_cons_self))]
    exact dic_no fun m => h (List.mem_cons_of_mem _ m)
theorem EntsAt.keep {p : Addr} {H H' : Hp} (k : Keep p H H') {o : List V} (hp : H p = some (.lst o)) {xs : List V} {es : List Ent} (h : EntsAt H xs es) : EntsAt H' xs es := Paired.imp (fun _ _ ⟨q, e, t⟩ => ⟨q, e, k _ _ (ne_of t hp fun z => nomatch z) t⟩) h
theorem EntsAt.off {c : Addr} {H : Hp} {o u : HO} (hc : H c = some o) (nt : ∀ xs, HO.tup xs ≠ o) {xs : List V} {es : List Ent} (h : EntsAt H xs es) : EntsAt (upd H c u) xs es := Paired.imp (fun _ _ ⟨q, e, t⟩ => ⟨q, e, (upd_ne (ne_of t hc (nt _))).trans t⟩) h
/-- one more note is known -/
def setN (n : Int → Int) (d z : Int) : Int → Int := fun a => if a = d then z else n a
theorem setN_at (n : Int → Int) (d z : Int) : setN n d z d = z := if_pos rfl
theorem setN_off {n : Int → Int} {d z a : Int} (h : a ≠ d) : setN n d z a = n a := if_neg h
theorem dic_next {n : Int → Int} {d z : Int} {ds : List Int} (h : d ∉ ds) : putK (dic n ds) (Sum.inl d) (V.int z) = dic (setN n d z) (ds ++ [d]) := by
  rw [putK_new _ (dic_no h)]
  unfold dic
  rw [List.map_append]
  congr 1
  · exact List.map_congr_left fun a ha => by rw [setN_off (n := n) (z := z) fun e : a = d => h (e ▸ ha)]
  · show [(Sum.inl d, V.int z)] = [(Sum.inl d, V.int (setN n d z d))]
    rw [setN_at]
def sp_played (K : PySem.W.Frag) (Z : Zs) : (Addr → TL) → Sp := fun tl vs H Q E => ∃ (q R f : Addr) (ps : List Pc) (fv lv : V), vs = [.ref q, .ref f, fv, lv] ∧ MelAt Z.cB H q R ps ∧ PsOk ps ∧
  ((∃ o, IsI K H fv o ∧ (∀ i, o = some i → ¬ (0 ≤ i ∧ i < pre ps ps.length)) ∧ Out E (Z.c 0) fv H) ∨
   (∃ k o, fv = .int k ∧ 0 ≤ k ∧ k < pre ps ps.length ∧ IsI K H lv o ∧ (∀ i, o = some i → ¬ (1 ≤ i ∧ i ≤ most (pre ps ps.length) k)) ∧ Out E (Z.c 2) lv H) ∨
   ∃ (k l : Int) (En : List Ent) (ask : Addr) (G : Nat → List V) (due : List Int) (nv : Int → V) (ni : Int → Option Int), fv = .int k ∧ lv = .int l ∧ 0 ≤ k ∧ k < pre ps ps.length ∧ 1 ≤ l ∧ l ≤ most (pre ps ps.length) k ∧ pre ps ps.length < 2 ^ 61 ∧ Eqs ps (pre ps ps.length) En ∧
    Due ((En.drop k.toNat).take l.toNat) due ∧ Asks K (tl f) H ask G due nv ni ∧
    ((∃ n : Int → Int, (∀ d ∈ due, ni d = some (n d)) ∧ ∀ x H', H x = none → H' ask = some (.lst (G due.length)) → Keep ask H H' → H' x = some (.tup (((En.drop k.toNat).take l.toNat).map fun e => V.int (noteOf n e))) → Q (.ref x) H') ∨
     ∃ (j : Nat) (d : Int), due[j]? = some d ∧ ni d = none ∧ (∀ i e, i < j → due[i]? = some e → ∃ n, ni e = some n) ∧ ∀ H', H' ask = some (.lst (G (j + 1))) → Keep ask H H' → Out E (Z.c 3) (nv d) H'))
section
variable {P : Program} {w : World} {K : PySem.W.Frag} {mg : Str → Option Value} {base : Heap} {Z : Zs}
theorem ok_M_played (T : Txt K mg Z)   : FOkB P w K mg base (L2.CX P w) 14 2 Z.f_M_played Z.d_M_played ["self", "look", "first", "length"] (sp_played K Z) := by
  refine okB T.F_M_played sc_M_played (fun tl vs H Q E h => ?_) (fun cdv tl A outer s H vs Q E hr R h => ?_)
  · obtain ⟨q, R, f, ps, fv, lv, rfl, _⟩ := h
    rfl
  · obtain ⟨q, Rp, f, ps, fv, lv, rfl, hm, ok, h⟩ := h
    have X3 := T.ex 3 (by decide)
    have sl : sizeLine = 16777216 := sizeLine_eq
    refine ⟨_, (pss_cons (ps_expr (pe_call (ok_check_stretch T) (hr.mono (by decide)) rfl T.g_check_stretch T.k_check_stretch T.bn_check_stretch .nil (passes_call (takes_of rfl rfl rfl rfl) (fun _ _ _ _ h => h)) (pa_cons (pv 2) (pa_cons (pv 3) (pa_cons (pe_fld (pv 0) rfl) pa_nil)))))
      (pss_cons (ps_setLc (i := 4) (own := [("place", 8)]) rfl sc_M_played.nd rfl rfl (sw_true rfl rfl rfl (by decide +kernel)) (pi_range2 rfl T.b_range (pa_cons (pv 2) (pa_cons (pe_op op_add (pv 2) (pv 3)) pa_nil))) (blkOk_by (own := [("place", 8)]) (N := ["self", "look", "first", "length", "found", "chosen", "number", "note", "place", "what"]) (sc := defScope s_M_played) (by decide +kernel)) (fun _ _ _ _ _ => (pg_name (i := 8) sc_M_played.nd rfl (Or.inl rfl))) (fun _ _ _ _ _ => pts_nil) (fun _ _ _ _ _ => (pe_ixO (E := E0) (ok_M_getitem T) ((hr.mono (j := 6) (by decide)).in1) T.bn_M_getitem passF T.a_M_getitem T.i_M_getitem T.z_fn (pv 0) (pv 8) (fun _ _ => rfl))))
      (pss_cons (ps_set (i := 5) sc_M_played.nd rfl (Or.inr rfl) pe_dnewK)
      (pss_cons (ps_for (passes_of rfl) rfl (pi_list (pe_callB  (cr_sortedS rfl) (by rfl) T.b_sorted (by decide +kernel) (pa_cons (pe_scI (own := [("what", 9)]) rfl sc_M_played.nd (pi_list (pv 4)) (blkOk_by (own := [("what", 9)]) (N := ["self", "look", "first", "length", "found", "chosen", "number", "note", "place", "what"]) (sc := defScope s_M_played) (by decide +kernel)) (fun _ _ _ _ _ => (pg_name (i := 9) sc_M_played.nd rfl (Or.inl rfl))) (fun _ _ _ _ _ => (pts_one (pt_cmpR op_ne (pe_ix (r := rIxT K) ix_tup (pv 9) pe_int (fun _ _ => rfl)) pe_str (nomark _)))) (fun _ _ _ _ _ => (pe_ix (r := rIxT K) ix_tup (pv 9) pe_int (fun _ _ => rfl)))) pa_nil))) (pg_name (i := 6) sc_M_played.nd rfl (Or.inl rfl)) (pss_cons (ps_set (i := 7) sc_M_played.nd rfl (Or.inl rfl) (pe_lookB (E := E0) (i := 1) (i2 := 6) R rfl passF (hr.mono (by decide)) rfl (.inl rfl) rfl (.inl rfl)))
      (pss_cons (ps_if (pt_not (pt_val (pe_call (ok_is_whole T) (hr.mono (by decide)) rfl T.g_is_whole T.k_is_whole T.bn_is_whole .nil pass0 (pa_cons (pv 7) pa_nil)))) (pss_one (ps_raise rfl (takes_of rfl rfl rfl rfl) (pmk_oex (T.ex 3 (by decide)).ox (T.ex 3 (by decide)).ini T.t_E_init (ok_E_init T) (hr.mono (by decide)) T.bn_E_init .nil pass0 rfl T.g_BadNote (pa_cons (pv 7) pa_nil)))) pss_nil)
      (pss_one (ps_dput (hu_of hr) (pv 5) (pv 6) (pv 7) rfl)))))
      (pss_one (ps_ret (pe_callTy call_tuple_of (by rfl) T.b_tuple (by decide +kernel) (pa_cons (pe_lc (own := [("what", 9)]) rfl sc_M_played.nd (pi_list (pv 4)) (blkOk_by (own := [("what", 9)]) (N := ["self", "look", "first", "length", "found", "chosen", "number", "note", "place", "what"]) (sc := defScope s_M_played) (by decide +kernel)) (fun _ _ _ _ _ => (pg_name (i := 9) sc_M_played.nd rfl (Or.inl rfl))) (fun _ _ _ _ _ => pts_nil) (fun _ _ _ _ _ => (pe_call (ok_note_of T) (hr.mono (by decide)) rfl T.g_note_of T.k_note_of T.bn_note_of .nil pass0 (pa_cons (pv 9) (pa_cons (pv 5) pa_nil))))) pa_nil)))))))), ?_⟩
    obtain ⟨dx, S, A', tr, m⟩ := hm
    refine ⟨_, rfl, _, rfl, _, rfl, q, _, dx, _, _, rfl, m.ins, T.clB, T.nB_size, mfs_size _ _ _ _ _, fv, lv, _, rfl, ?_⟩
    rcases h with ⟨o, hv, bad, out⟩ | ⟨k, o, rfl, k0, k1, hv, bad, out⟩ | ⟨k, l, En, ask, G, due, nv, ni, rfl, rfl, k0, k1, l1, l2, small, eq, hD, A0, h⟩
    · exact .inl ⟨o, hv, bad, out⟩
    · exact .inr ⟨k, rfl, k0, k1, .inl ⟨o, hv, bad, out⟩⟩
    refine .inr ⟨k, rfl, k0, k1, .inr ⟨l, rfl, l1, l2, ?_⟩⟩
    have lm : l ≤ 99 ∧ k + l ≤ pre ps ps.length := by
      unfold most at l2
      split at l2 <;> omega
    have hm : MelAt Z.cB H q Rp ps := ⟨dx, S, A', tr, m⟩
    have eL := eq.len
    -- what stands at each place
    refine ⟨_, rfl, _, rfl, _, rfl, _, _, rfl, rfl, k, k + l, rfl, ⟨by omega, by omega, by omega, by omega⟩, fun L hL => ?_⟩
    obtain ⟨es, ees⟩ : ∃ es, es = (En.drop k.toNat).take l.toNat := ⟨_, rfl⟩
    have les : es.length = l.toNat := by rw [ees, List.length_take, List.length_drop]; omega
    rw [← ees] at h hD
    have ask0 := A0.start
    have aL : ask ≠ L := ne_of_none ask0 hL
    refine lc_range (n := (k + l - k).toNat) (fun i H' => ∃ zs, H' L = some (.lst zs) ∧ EntsAt H' zs (es.take i) ∧ Same H H') ⟨[], upd_same, .nil, Same.new (Same.refl H) hL⟩ ?_ ?_
    · rintro i H1 hi ⟨zs, hL1, hz, s1⟩
      refine ⟨rfl, ?_⟩
      unfold tYes
      refine iteT ⟨_, rfl, _, rfl, q, _, _, rfl, s1 _ _ m.ins, q, Rp, ps, _, rfl, hm.same s1, ok, .inl ⟨k + (i : Int), En, rfl, by omega, by omega, by omega, eq, fun e y H2 he ny s2 hy => ?_⟩⟩
      have he' : es[i]? = some e := by
        rw [ees, List.getElem?_take, if_pos (by omega), List.getElem?_drop]
        rw [show (k + (i : Int)).toNat = k.toNat + i by omega] at he
        exact he
      have lz := Paired.len hz
      rw [List.length_take] at lz
      have hL2 := s2 _ _ hL1
      refine ⟨zs, hL2, by omega, zs ++ [.ref y], upd_same, ?_, same_put (s1.trans s2) hL⟩
      rw [take_next he']
      have : y ≠ L := ne_of hy hL2 fun z => nomatch z
      exact Paired.snoc ⟨y, rfl, by rw [upd_ne this]; exact hy⟩ ((hz.same s2).put hL2)
    rintro H1 ⟨xs, hL1, hx, s1⟩
    rw [List.take_of_length_le (by omega)] at hx
    have lx := Paired.len hx
    refine fun c hc => ?_
    have s2 := Same.new (o := .dK []) (Same.refl H1) hc
    have hc2 : upd H1 c (.dK []) c = some (.dK []) := upd_same
    generalize upd H1 c (.dK []) = H2 at s2 hc2 ⊢
    have s12 := s1.trans s2
    have hL2 := s2 _ _ hL1
    have hx2 := hx.same s2
    have ac : ask ≠ c := ne_of_none (s1 _ _ ask0) hc
    have Lc : L ≠ c := ne_of_none hL1 hc
    have Hc : H c = none := L2.Same.free s1 hc
    clear hc s1 hL1 hx
    -- the numbers that are asked for
    refine ⟨_, rfl, L, rfl, ⟨_, SqL.of hL2⟩, fun D hDn => ?_⟩
    have sD := Same.new (o := SetL w D []) (Same.refl H2) hDn
    refine sc_list (xs := xs) (fun i H' => ∃ ks : List Int, H' D = some (SetL w D ks) ∧ ks.length ≤ i ∧ (∀ n, n ∈ ks ↔ ∃ d m, Ent.rel d n m ∈ es.take i) ∧ Same H2 H') ⟨[], upd_same, Nat.le_refl _, fun n => ⟨fun z => absurd z List.not_mem_nil, fun ⟨_, _, z⟩ => absurd z (by simp)⟩, sD⟩ (fun i H' _ ⟨_, _, _, _, s⟩ => SqL.of (s _ _ hL2)) ?_ ?_
    · rintro i v H3 hi ⟨ks, hD3, lk, mk, s3⟩
      refine ⟨rfl, ?_⟩
      obtain ⟨e, he, y, rfl, hy⟩ := Paired.at hx2 hi
      have il := (List.getElem?_eq_some_iff.mp he).1
      have hy3 := s3 _ _ hy
      cases e with
      | told x =>
        have hy3 : H3 y = some (.tup [.str "told", .int x]) := hy3
        refine ⟨_, rfl, y, _, 0, .str "told", rfl, rfl, SqT.of hy3, rfl, rfl, false, by rw [show decide (V.str "told" = V.str "told") = true by decide +kernel] <;> rfl, iteF ?_⟩
        refine ⟨ks, hD3, by omega, fun n => (mk n).trans ?_, s3⟩
        rw [take_next he]
        constructor
        · rintro ⟨d, m, z⟩
          exact ⟨d, m, List.mem_append_left _ z⟩
        · rintro ⟨d, m, z⟩
          rcases List.mem_append.mp z with z | z
          · exact ⟨d, m, z⟩
          · cases List.mem_singleton.mp z
      | rel dn n m =>
        have hy3 : H3 y = some (.tup [.str (word dn), .int n, .int m]) := hy3
        refine ⟨_, rfl, y, _, 0, .str (word dn), rfl, rfl, SqT.of hy3, rfl, rfl, true, by rw [show decide (V.str (word dn) = V.str "told") = false by cases dn <;> decide +kernel] <;> rfl, iteT ?_⟩
        refine ⟨_, rfl, y, _, 1, .int n, rfl, rfl, SqT.of hy3, rfl, n, ks, rfl, hD3, by show ks.length + 1 < scanBound; unfold scanBound; omega, ks ++ [n], upd_same, by rw [List.length_append, List.length_singleton]; omega, fun a => ?_, same_put s3 hDn⟩
        rw [List.mem_append, List.mem_singleton, mk a, take_next he]
        constructor
        · rintro (⟨d, b, z⟩ | rfl)
          · exact ⟨d, b, List.mem_append_left _ z⟩
          · exact ⟨dn, m, List.mem_append_right _ (List.mem_singleton.mpr rfl)⟩
        · rintro ⟨d, b, z⟩
          rcases List.mem_append.mp z with z | z
          · exact .inl ⟨d, b, z⟩
          · cases List.mem_singleton.mp z
            exact .inr rfl
    rintro H3 ⟨ks, hD3, lk, mk, s3⟩
    rw [List.take_of_length_le (by omega)] at mk
    refine ⟨D, ks, rfl, hD3, by omega, fun ns p up mem lns hp => ?_⟩
    obtain rfl : ns = due := Due.uniq (es := es) ⟨up, fun k => (mem k).trans (mk k)⟩ hD
    have ln99 : ns.length ≤ 99 := by omega
    have s34 := Same.new (o := .lst (ns.map V.int)) (Same.refl H3) hp
    have hp4 : upd H3 p (.lst (ns.map V.int)) p = some (.lst (ns.map V.int)) := upd_same
    generalize upd H3 p (.lst (ns.map V.int)) = H4 at s34 hp4 ⊢
    have ap : ask ≠ p := ne_of_none (s3 _ _ (s12 _ _ ask0)) hp
    have s04 := s12.trans (s3.trans s34)
    have hc4 := (s3.trans s34) _ _ hc2
    have hL4 := (s3.trans s34) _ _ hL2
    have hx4 := hx2.same (s3.trans s34)
    have kp4 : Keep ask H H4 := Keep.of s04
    have ask4 := s04 _ _ ask0
    clear hp hD3 s3 s34 hx2 hL2 hc2 s12 s04 sD hDn mk lk s2
    have nup := up
    -- each is asked for
    refine ⟨p, rfl, ⟨_, SqL.of hp4⟩, for_list (xs := ns.map V.int) (fun i σ H' => ∃ (v6 v7 : Option V) (n : Int → Int), σ = [some (.ref q), some (.ref f), some (.int k), some (.int l), some (.ref L), some (.ref c), v6, v7, none, none] ∧ (∀ d ∈ ns.take i, ni d = some (n d)) ∧ H' c = some (.dK (dic n (ns.take i))) ∧ H' ask = some (.lst (G i)) ∧ Keep ask H H' ∧ H' L = some (.lst xs) ∧ EntsAt H' xs es ∧ H' p = some (.lst (ns.map V.int))) ⟨_, _, fun _ => 0, rfl, (fun _ z => absurd z (by simp)), hc4, ask4, kp4, hL4, hx4, hp4⟩ (fun i σ H' _ ⟨_, _, _, _, _, _, _, _, _, _, z⟩ => SqL.of z) ?_ ?_⟩
    · rintro i x σ H5 hi ⟨v6, v7, n, rfl, hn, hc5, ask5, kp5, hL5, hx5, hp5⟩
      rw [List.getElem?_map] at hi
      obtain ⟨d, hd, rfl⟩ := Option.map_eq_some_iff.mp hi
      have il := (List.getElem?_eq_some_iff.mp hd).1
      refine ⟨f, .int d, rfl, rfl, A0.step i d H5 _ hd ask5 kp5 fun H6 ask6 kp6 is6 => ?_⟩
      have hc6 := kp6 _ _ ac.symm hc5
      have hL6 := kp6 _ _ aL.symm hL5
      have hp6 := kp6 _ _ ap.symm hp5
      have hx6 := hx5.keep kp6 ask5
      have kp06 := kp5.trans kp6
      cases hnd : ni d with
      | none =>
        rw [hnd] at is6
        have stop : ∃ (j : Nat) (d : Int), ns[j]? = some d ∧ ni d = none ∧ (∀ i e, i < j → ns[i]? = some e → ∃ n, ni e = some n) ∧ ∀ H', H' ask = some (.lst (G (j + 1))) → Keep ask H H' → Out E (Z.c 3) (nv d) H' := by
          rcases h with ⟨n', all, _⟩ | h
          · rw [all d (List.mem_of_getElem? hd)] at hnd
            cases hnd
          · exact h
        obtain ⟨j, d', hj, nd', bef, out⟩ := stop
        obtain rfl : j = i := by
          rcases Nat.lt_trichotomy j i with c | c | c
          · obtain ⟨jl, je⟩ := List.getElem?_eq_some_iff.mp hj
            have := hn d' (List.mem_iff_getElem?.mpr ⟨j, by rw [List.getElem?_take, if_pos c]; exact hj⟩)
            rw [nd'] at this
            cases this
          · exact c
          · obtain ⟨m, z⟩ := bef i d c hd
            rw [hnd] at z
            cases z
        rw [hd] at hj
        cases hj
        generalize nv d = x at is6 out ⊢
        cases is6 with
        | no hw => exact ⟨_, rfl, x, false, rfl, hw, false, rfl, iteT ⟨_, rfl, mkR X3 (out H6 ask6 kp06)⟩⟩
      | some z =>
        rw [hnd] at is6
        generalize nv d = x at is6 ⊢
        cases is6
        refine ⟨_, rfl, .int z, true, rfl, whole_int z, true, rfl, iteF ?_⟩
        have fresh : d ∉ ns.take i := fun hm => by
          obtain ⟨j, hj⟩ := List.mem_iff_getElem?.mp hm
          have jl := (List.getElem?_eq_some_iff.mp hj).1
          rw [List.length_take] at jl
          rw [List.getElem?_take, if_pos (by omega)] at hj
          obtain ⟨a, b⟩ := List.getElem?_eq_some_iff.mp hj
          obtain ⟨a', b'⟩ := List.getElem?_eq_some_iff.mp hd
          have := List.pairwise_iff_getElem.mp nup j i a a' (by omega)
          rw [b, b'] at this
          omega
        refine ⟨_, rfl, _, rfl, _, rfl, c, _, rfl, DPut.k (k := .inl d) hc6 (by unfold dic; rw [List.length_map, List.length_take]; omega), ?_⟩
        refine ⟨_, _, setN n d z, rfl, fun a ha => ?_, ?_, (upd_ne ac).trans ask6, keep_put kp06 Hc, (upd_ne Lc).trans hL6, hx6.off hc6 (fun _ z => nomatch z), (upd_ne (ne_of hp6 hc6 fun z => nomatch z)).trans hp6⟩
        · rw [take_next hd] at ha
          rcases List.mem_append.mp ha with ha | ha
          · rw [hn a ha, setN_off fun e : a = d => fresh (e ▸ ha)]
          · obtain rfl := List.mem_singleton.mp ha
            rw [hnd, setN_at]
        · rw [upd_same, take_next hd]
          exact congrArg (fun y => some (HO.dK y)) (dic_next fresh)
    · rintro σ H5 ⟨v6, v7, n, rfl, hn, hc5, ask5, kp5, hL5, hx5, hp5⟩
      rw [List.length_map] at hn hc5 ask5
      rw [List.take_of_length_le (Nat.le_refl _)] at hn hc5
      rcases h with ⟨n', all, fin⟩ | ⟨j, d, hj, nd, _, _⟩
      · have agree : ∀ d ∈ ns, n d = n' d := fun d hd => by
          have a := hn d hd
          rw [all d hd] at a
          exact (Option.some.inj a).symm
        -- the notes
        refine ⟨_, rfl, L, rfl, ⟨_, SqL.of hL5⟩, fun D hDn => ?_⟩
        have sD := Same.new (o := .lst []) (Same.refl H5) hDn
        refine lc_list (xs := xs) (fun i H' => H' D = some (.lst ((es.take i).map fun e => V.int (noteOf n' e))) ∧ Same H5 H') ⟨upd_same, sD⟩ (fun i H' _ ⟨_, s⟩ => SqL.of (s _ _ hL5)) ?_ ?_
        · rintro i v H6 hi ⟨hD6, s6⟩
          refine ⟨rfl, ?_⟩
          unfold tYes
          obtain ⟨e, he, y, rfl, hy⟩ := Paired.at hx5 hi
          have il := (List.getElem?_eq_some_iff.mp he).1
          refine iteT ⟨_, rfl, _, rfl, y, c, e, n, dic n ns, rfl, s6 _ _ hy, s6 _ _ hc5, fun d a m ee => ?_, fun H7 s7 => ?_⟩
          · subst ee
            exact dic_has ((hD.mem a).mpr ⟨d, m, List.mem_of_getElem? he⟩)
          · have e2 : noteOf n e = noteOf n' e := by
              cases e with
              | told x => rfl
              | rel d a m =>
                show ledI m d (n a) = ledI m d (n' a)
                rw [agree a ((hD.mem a).mpr ⟨d, m, List.mem_of_getElem? he⟩)]
            refine ⟨_, s7 _ _ hD6, by rw [List.length_map, List.length_take]; omega, ?_, same_put (s6.trans s7) hDn⟩
            rw [upd_same, take_next he, List.map_append, e2]
            rfl
        · rintro H6 ⟨hD6, s6⟩
          rw [List.take_of_length_le (by omega)] at hD6
          refine ⟨D, _, rfl, .inl ⟨SqL.of hD6, fun x hx => ?_⟩⟩
          have s7 := Same.new (o := .tup (es.map fun e => V.int (noteOf n' e))) (Same.refl H6) hx
          have kp7 : Keep ask H _ := kp5.trans (Keep.of (s6.trans s7))
          exact fin x _ (by
            cases hz : H x with
            | none => rfl
            | some o =>
              have : x ≠ ask := fun y => by
                rw [y, s6 _ _ ask5] at hx
                cases hx
              rw [s6 _ _ (kp5 _ _ this hz)] at hx
              cases hx) ((s6.trans s7) _ _ ask5) kp7 upd_same
      · have := hn d (List.mem_of_getElem? hj)
        rw [nd] at this
        cases this
end
end TT

set_option maxHeartbeats 4000000
namespace TT
open PySem PySem.Spec PyProof.Rows L2 LamX NdefX
/-- what the law's look met, what it found -/
def sp_told (K : PySem.W.Frag) (Z : Zs) : (Addr → TL) → Sp := fun tl vs H Q _ => ∃ f : Addr, vs = [.ref f] ∧ ∃ G : V → V → Hp → Prop, (∀ c f H', G c f H' → ∀ x, H' x = none → Q (.ref x) (upd H' x (.tup [c, f]))) ∧
  ∀ H1, Same H H1 → tl f (fun cls d H' => PySem.W.exmOne K cls (.ref (Z.c 4)) = some true ∧ ∀ a, H' a = none → G (.ref a) .non (upd H' a (exk a cls d))) [] H1 (fun v H' => G .non v H')
section
variable {P : Program} {w : World} {K : PySem.W.Frag} {mg : Str → Option Value} {base : Heap} {Z : Zs}
theorem ok_l_told (T : Txt K mg Z) {k : Nat} : FOkB P w K mg base CX0 (k + 2) k Z.f_l_told Z.d_l_told ["_law_look_here"] (sp_told K Z) := by
  refine okB T.F_l_told sc_l_told (fun tl vs H Q E h => ?_) (fun cdv tl A outer s H vs Q E hr R h => ?_)
  · obtain ⟨f, rfl, _⟩ := h
    rfl
  · obtain ⟨f, rfl, G, hG, t⟩ := h
    refine ⟨_, pss_cons (ps_asg (pe_tup (pa_cons pe_non (pa_cons pe_non pa_nil))) (pg_tup rfl (pgs_cons (pg_name (i := 1) sc_l_told.nd rfl (Or.inl rfl)) (pgs_cons (pg_name (i := 2) sc_l_told.nd rfl (Or.inl rfl)) pgs_nil))))
      (pss_cons (ps_try_kept (i := 3) (c := .ref (Z.c 4)) rfl rfl rfl sc_l_told.nd rfl rfl ⟨by rfl, by decide, .inl T.g_TuneError⟩ (fun W pn xe tk _ => pss_one (ps_set (i := 2) sc_l_told.nd rfl (Or.inl rfl) (pe_lookBS (i := 0) tk R rfl hr rfl (.inl rfl))))
        (fun a oe cls d pn _ _ => pss_one (ps_set (i := 1) sc_l_told.nd rfl (Or.inl rfl) (pv 3))))
      (pss_one (ps_ret (pe_tup (pa_cons (pv 1) (pa_cons (pv 2) pa_nil)))))), ?_⟩
    refine ⟨by show 2 ≤ sizeLine; decide, fun y hy => ⟨y, _, rfl, SqT.of upd_same, rfl, _, _, rfl, _, _, rfl, rfl, ?_⟩⟩
    refine ⟨f, _, _, fun cls d H' e => ⟨e.1, fun a ha => ⟨_, rfl, fun ha' => ⟨_, rfl, _, rfl, by show 2 ≤ sizeLine; decide, hG _ _ _ (e.2 a ha')⟩⟩⟩, fun v H' q => ⟨_, rfl, _, rfl, by show 2 ≤ sizeLine; decide, hG _ _ _ q⟩, rfl, t _ (Same.new (Same.refl H) hy)⟩
end
end TT

set_option maxHeartbeats 4000000
namespace TT
open PySem PySem.Spec PyProof.Rows L2 LamX NdefX
/-! ### the tables: which name a def, a lambda has, by its line -/
def nmL (l _c : Nat) : Str := if l ≤ 384 then ("_law_played_right" ++ ".<locals>.") ++ "_law_look" else if l ≤ 390 then lamN "_law_played_right" else if l ≤ 400 then lamN "_law_refusals_right" else lamN "_law_right"
def nmI (l _c : Nat) : Str := if l ≤ 400 then lamN (lamN "_law_refusals_right") else lamN (lamN "_law_right")
/-- the lambdas in which another one is made -/
def dpL (l _c : Nat) : Bool := decide (l = 397 ∨ l = 417)
def tabs (Z : Zs) : List NTab := [(Z.t_l_played_right, nmL), (Z.t_l_refusals_right, nmL), (Z.t_l_right, nmL)]
theorem tabs_mem_l_played_right (Z : Zs) : (Z.t_l_played_right, nmL) ∈ tabs Z := by simp [tabs]
theorem tabs_mem_l_refusals_right (Z : Zs) : (Z.t_l_refusals_right, nmL) ∈ tabs Z := by simp [tabs]
theorem tabs_mem_l_right (Z : Zs) : (Z.t_l_right, nmL) ∈ tabs Z := by simp [tabs]
theorem tabs_one (Z : Zs) {PT : Addr} : ∀ p ∈ tabs Z, p.1 = PT → p.2 = nmL := fun p hp _ => by
  simp only [tabs, List.mem_cons, List.not_mem_nil, or_false] at hp
  rcases hp with rfl | rfl | rfl <;> rfl
abbrev TabK (Z : Zs) (H : Hp) : Prop := TabX dpL nmI (tabs Z) H
theorem tabK_nil {nm : Nat → Nat → Str} {H : Hp} {a : Addr} {T : List NTab} (h : H a = some (.tbl #[])) : ∃ ps : Array Value, H a = some (.tbl ps) ∧ TriplesOk ps.toList ∧ ∀ (pos : Pos) (cv : Value), codeAmong pos ps.toList = some cv → ∃ c, cv = .ref c ∧ CodeK nmI T H c (nm pos.line pos.col) (dpL pos.line pos.col) :=
  ⟨#[], h, True.intro, fun pos cv hc => by
    have z : codeAmong pos [] = some cv := hc
    simp [codeAmong] at z⟩
theorem TabX.keep {dp : Nat → Nat → Bool} {nmI : Nat → Nat → Str} {T : List NTab} {H H' : Hp} {p : Addr} {o : List V} (t : TabX dp nmI T H) (k : Keep p H H') (hp : H p = some (.lst o)) : TabX dp nmI T H' := t.by_ fun a u h n => k _ _ (fun z => by
  rw [z, hp] at h
  exact n o (Option.some.inj h).symm) h
def freeB (out sc : Scope) : Bool := sc.names.all fun y => !decide (y.2 = .free) || (decide (out.names.lookup y.1 = some .cell) || decide (out.names.lookup y.1 = some .free))
theorem free_by {out sc : Scope} (h : freeB out sc = true) : ∀ y ∈ sc.names, y.2 = .free → out.names.lookup y.1 = some .cell ∨ out.names.lookup y.1 = some .free := fun y hy e => by
  have := List.all_eq_true.mp h y hy
  rw [decide_eq_true e] at this
  simpa using this
/-! ### the law's look: tells what it is asked, answers the note -/
abbrev s_look : Stmt := (defBody s_l_played_right).getD 3 (.Pass ⟨0, 0, 0, 0⟩)
abbrev lookF (q : Str) (cl : List (Str × Addr)) (c : Addr) : NF := NF.of s_look "_law_look" q cl c
theorem sc_look : NScope ["_law_number", "_law_asked", "_law_notes"] ["_law_number"] ["_law_asked", "_law_notes"] (C8.fnScope s_look) := nscope_by (by decide +kernel)
def sp_look (K : PySem.W.Frag) : List (Option V) → Sp := fun ws vs H Q _ => ∃ (a b : Addr) (d : Int) (v : V) (xs ns : List V), ws = [some (.ref a), some (.ref b)] ∧ vs = [.int d] ∧ H a = some (.lst xs) ∧ xs.length < sizeLine ∧ H b = some (.lst ns) ∧ a ≠ b ∧ 0 ≤ d ∧ ns[d.toNat]? = some v ∧ Q v (upd H a (.lst (xs ++ [.int d])))
section
variable {P : Program} {w : World} {K : PySem.W.Frag} {mg : Str → Option Value} {base : Heap} {Z : Zs}
theorem ok_look {f c : Addr} {q : Str} {cl : List (Str × Addr)} {CX : CXT} : NOk P w K mg base CX 3 f (lookF q cl c) ["_law_number"] ["_law_asked", "_law_notes"] (sp_look K) := by
  refine nok_of (F := lookF q cl c) sc_look (fun _ _ _ us hl => match us, hl with | [_], _ => rfl) (fun ws vs H Q E h => ?_) fun A outer s H vs ws Q E hr hf hc hl h => ?_
  · obtain ⟨a, b, d, v, xs, ns, rfl, rfl, _⟩ := h
    rfl
  · obtain ⟨a, b, d, v, xs, ns, rfl, rfl, ha, lx, hb, ab, d0, hv, k⟩ := h
    refine ⟨_, pss_cons (ps_expr (pe_bm PySem.F.plainAttrs_list PySem.F.slot_list_append PySem.F.type_list_append mt_append (pv 1) (pa_cons (pv 0) pa_nil))) (pss_one (ps_ret (pe_ix ix_list (pv 2) (pv 0) (fun _ _ => rfl)))), ?_⟩
    have hat : atI ns d = some v := by
      have := atI_nat hv
      rw [Int.toNat_of_nonneg d0] at this
      exact this
    refine ⟨_, rfl, .inl ⟨rfl, _, SqL.of ha⟩, _, rfl, a, xs, _, rfl, rfl, ha, lx, ?_⟩
    refine ⟨_, rfl, _, rfl, b, ns, d, v, rfl, rfl, SqL.of ((upd_ne ab.symm).trans hb), hat, k⟩
end
end TT

set_option maxHeartbeats 4000000
namespace TT
open PySem PySem.Spec PyProof.Rows L2 LamX NdefX
/-! ### what is due -/
theorem ahead_mono {ps : List Pc} (ok : Fits ps) : ∀ {i n : Nat}, i ≤ n → n ≤ ps.length → aheadN ps i ≤ aheadN ps n
  | i, 0, h, _ => by
    have : i = 0 := by omega
    subst this
    exact Int.le_refl _
  | i, n + 1, h, hn => by
    by_cases c : i = n + 1
    · rw [c]
      exact Int.le_refl _
    · have ih := ahead_mono ok (i := i) (n := n) (by omega) (by omega)
      obtain ⟨p, hp⟩ : ∃ p, ps[n]? = some p := ⟨_, List.getElem?_eq_getElem (by omega)⟩
      have po := (ok n p hp).pos
      rw [ahead_succ hp]
      cases p with
      | new l => have : 1 ≤ l := po; show aheadN ps i ≤ aheadN ps n + l; omega
      | notes l x => show aheadN ps i ≤ aheadN ps n + 0; omega
      | copy f l a d b => show aheadN ps i ≤ aheadN ps n + 0; omega
/-- which numbers stand in the entries -/
theorem ent_num {ps : List Pc} (ok : PsOk ps) {E : List Ent} (h : Eqs ps (pre ps ps.length) E) : ∀ (k : Nat) (d : Bool) (m c : Int), E[k]? = some (.rel d m c) → 0 ≤ m ∧ m < aheadN ps ps.length := by
  intro k
  induction k using Nat.strongRecOn with
  | _ k ih =>
    intro d0 m c he
    have kl := (List.getElem?_eq_some_iff.mp he).1
    have hl := h.len
    obtain ⟨i, p, hp, il, h1, h2⟩ := locate (ps := ps) (n := ps.length) (k := (k : Int)) (Nat.le_refl _) (by omega) (by omega)
    have nx := pre_succ hp
    have nn := pre_nn ok.at_ (show i ≤ ps.length by omega)
    have mono := pre_le ok.at_ (show i + 1 ≤ ps.length by omega) (Nat.le_refl _)
    have am := ahead_mono ok.at_ (show i + 1 ≤ ps.length by omega) (Nat.le_refl _)
    have an := ahead_succ hp
    have sy := h.says i p ((k : Int) - pre ps i) hp (by omega) (by omega) (by omega)
    have ek : (pre ps i + ((k : Int) - pre ps i)).toNat = k := by omega
    have al := ahead_le ok.at_ (show i ≤ ps.length by omega)
    have oki := ok.at_ i p hp
    cases p with
    | new l =>
      have sy' : E[(pre ps i + ((k : Int) - pre ps i)).toNat]? = some (.rel false (aheadN ps i + ((k : Int) - pre ps i)) 0) := sy
      rw [ek, he] at sy'
      cases sy'
      have an' : aheadN ps (i + 1) = aheadN ps i + l := an
      have nx' : pre ps (i + 1) = pre ps i + l := nx
      omega
    | notes l x =>
      have sy' : E[(pre ps i + ((k : Int) - pre ps i)).toNat]? = some (.told x) := sy
      rw [ek, he] at sy'
      cases sy'
    | copy f l a d b =>
      obtain ⟨f0, f1, l1, a0, a1, fb⟩ := oki
      obtain ⟨e0, s1, s2⟩ := sy
      rw [ek, he] at s2
      have nx' : pre ps (i + 1) = pre ps i + l := nx
      have sp : 0 ≤ spot f l b ((k : Int) - pre ps i) ∧ spot f l b ((k : Int) - pre ps i) < k := by
        unfold spot
        cases b with
        | true => have := fb rfl; rw [if_pos rfl]; omega
        | false => rw [if_neg (by decide)]; omega
      cases e0 with
      | told x => cases s2
      | rel d1 m1 c1 =>
        cases s2
        exact ih _ (by omega) d1 m c1 s1
/-- put into a rising list -/
def putIn (a : Int) : List Int → List Int
  | [] => [a]
  | b :: r => if a < b then a :: b :: r else if a = b then b :: r else b :: putIn a r
theorem putIn_mem (a k : Int) : ∀ l : List Int, k ∈ putIn a l ↔ k = a ∨ k ∈ l
  | [] => by simp [putIn]
  | b :: r => by
    unfold putIn
    by_cases c : a < b
    · rw [if_pos c, List.mem_cons]
    · rw [if_neg c]
      by_cases d : a = b
      · rw [if_pos d, List.mem_cons, d]
        constructor
        · exact .inr
        · rintro (z | z)
          · exact .inl z
          · exact z
      · rw [if_neg d, List.mem_cons, List.mem_cons, putIn_mem a k r]
        constructor
        · rintro (z | z | z)
          · exact .inr (.inl z)
          · exact .inl z
          · exact .inr (.inr z)
        · rintro (z | z | z)
          · exact .inr (.inl z)
          · exact .inl z
          · exact .inr (.inr z)
theorem putIn_up (a : Int) : ∀ {l : List Int}, l.Pairwise (· < ·) → (putIn a l).Pairwise (· < ·)
  | [], _ => List.pairwise_singleton _ _
  | b :: r, h => by
    obtain ⟨h1, h2⟩ := List.pairwise_cons.mp h
    unfold putIn
    by_cases c : a < b
    · rw [if_pos c]
      refine List.pairwise_cons.mpr ⟨fun y hy => ?_, h⟩
      rcases List.mem_cons.mp hy with z | z
      · rw [z]; exact c
      · have := h1 y z
        omega
    · rw [if_neg c]
      by_cases d : a = b
      · rw [if_pos d]
        exact h
      · rw [if_neg d]
        refine List.pairwise_cons.mpr ⟨fun y hy => ?_, putIn_up a h2⟩
        rcases (putIn_mem a y r).mp hy with z | z
        · omega
        · exact h1 y z
theorem due_ex : ∀ es : List Ent, ∃ due, Due es due
  | [] => ⟨[], .nil, fun k => ⟨fun z => absurd z List.not_mem_nil, fun ⟨_, _, z⟩ => absurd z List.not_mem_nil⟩⟩
  | e :: es => by
    obtain ⟨due, h⟩ := due_ex es
    cases e with
    | told x => exact ⟨due, h.up, fun k => (h.mem k).trans ⟨fun ⟨d, c, z⟩ => ⟨d, c, List.mem_cons_of_mem _ z⟩, fun ⟨d, c, z⟩ => ⟨d, c, (List.mem_cons.mp z).elim (fun y => by cases y) id⟩⟩⟩
    | rel d m c =>
      refine ⟨putIn m due, putIn_up m h.up, fun k => (putIn_mem m k due).trans ⟨?_, ?_⟩⟩
      · rintro (rfl | z)
        · exact ⟨d, c, List.mem_cons_self⟩
        · obtain ⟨d', c', z⟩ := (h.mem k).mp z
          exact ⟨d', c', List.mem_cons_of_mem _ z⟩
      · rintro ⟨d', c', z⟩
        rcases List.mem_cons.mp z with z | z
        · cases z
          exact .inl rfl
        · exact .inr ((h.mem k).mpr ⟨d', c', z⟩)
theorem cut_mid {xs : List V} {a l : Int} (a0 : 0 ≤ a) (l0 : 0 ≤ l) (h : a + l ≤ (xs.length : Int)) : cutV xs (some a) (some (a + l)) = (xs.drop a.toNat).take l.toNat := by
  obtain ⟨m, rfl⟩ := Int.eq_ofNat_of_zero_le a0
  obtain ⟨n, rfl⟩ := Int.eq_ofNat_of_zero_le l0
  unfold cutV
  rw [show ((m : Int) + (n : Int)) = ((m + n : Nat) : Int) by omega, HT.sIx_nat, HT.sIx_nat, Nat.min_eq_left (by omega), Nat.min_eq_left (by omega), show m + n - m = n by omega]
  rfl
theorem EntsAt.take {H : Hp} (n : Nat) {xs : List V} {es : List Ent} (h : EntsAt H xs es) : EntsAt H (xs.take n) (es.take n) := by
  induction h generalizing n with
  | nil => rw [List.take_nil, List.take_nil]; exact .nil
  | cons r t ih =>
    cases n with
    | zero => exact .nil
    | succ n => exact .cons r (ih n)
theorem EntsAt.drop {H : Hp} (n : Nat) {xs : List V} {es : List Ent} (h : EntsAt H xs es) : EntsAt H (xs.drop n) (es.drop n) := by
  induction h generalizing n with
  | nil => rw [List.drop_nil, List.drop_nil]; exact .nil
  | cons r t ih =>
    cases n with
    | zero => exact .cons r t
    | succ n => exact ih n
/-- ints as data -/
def dI (ns : List Int) : PyData := .list (ns.map PyData.int)
theorem dp_ints {K : PySem.W.Frag} {H : Hp} : ∀ ns : List Int, DpAll K H (ns.map V.int) (ns.map PyData.int)
  | [] => .nil
  | n :: ns => .cons (.int n) (dp_ints ns)
theorem ints_shaped (ps : List Int) : SeqAt.shaped (.list (ps.map PyData.int)) = true := by
  have h1 : ∀ ps : List Int, PyData.canLayAll0 (ps.map PyData.int) = true := fun ps => by
    induction ps with
    | nil => rfl
    | cons a t ih => simp [PyData.canLayAll0, PyData.canLay0, ih]
  have h2 : ∀ ps : List Int, PyData.depthAll (ps.map PyData.int) ≤ 1 := fun ps => by
    induction ps with
    | nil => simp [PyData.depthAll]
    | cons a t ih =>
      simp [PyData.depthAll, PyData.depth]
      omega
  have := h2 ps
  unfold SeqAt.shaped
  rw [show PyData.canLay0 (.list (ps.map PyData.int)) = PyData.canLayAll0 (ps.map PyData.int) from by simp [PyData.canLay0], h1, decide_eq_true (by simp only [PyData.depth]; omega)]
  rfl

theorem eqv_ints : ∀ ns : List Int, PyData.eqv (dI ns) (dI ns) = true := fun ns => by
  unfold dI
  simp only [PyData.eqv]
  induction ns with
  | nil => simp [PyData.eqvAll]
  | cons n ns ih => simp [PyData.eqvAll, PyData.eqv, ih]
theorem eqv_none (n : Int) (ns : List Int) : PyData.eqv (dI (n :: ns)) (dI []) = false := by
  unfold dI
  simp [PyData.eqv, PyData.eqvAll]
theorem dI_inj {a b : List Int} (h : dI a = dI b) : a = b := by
  unfold dI at h
  injection h with h
  induction a generalizing b with
  | nil => cases b with
    | nil => rfl
    | cons y b => cases h
  | cons x a ih => cases b with
    | nil => cases h
    | cons y b =>
      rw [List.map_cons, List.map_cons] at h
      injection h with h1 h2
      injection h1 with h1
      rw [h1, ih h2]
theorem gds_ints {ns : List Int} (h : ∀ n ∈ ns, -(10 ^ 64) < n ∧ n < 10 ^ 64) : Gds (ns.map PyData.int) (ns.length * 1) 1 := by
  have := Gds.map (f := PyData.int) (n := 0) (m := 1) (l := ns) fun n hn => Gd.int (h n hn).1 (h n hn).2
  exact this
end TT

set_option maxHeartbeats 4000000
namespace TT
open PySem PySem.Spec PyProof.Rows L2 LamX NdefX
/-! ### notes told, as is due -/
/-- the notes of a melody's new places: ints, or something odd -/
def NoteV (p : Addr) (H : Hp) (v : V) : Prop := ∃ d, Odd p H v d ∧ Shown d ∧ ∀ i, isInt v = some i → -(10 ^ 12) ≤ i ∧ i ≤ 10 ^ 12
theorem NoteV.keep {p : Addr} {H H' : Hp} {v : V} (k : Keep p H H') (h : NoteV p H v) : NoteV p H' v := let ⟨d, o, r⟩ := h; ⟨d, o.keep k, r⟩
theorem NoteV.extN {p : Addr} {H H' : Hp} {v : V} (k : ExtN H H') (h : NoteV p H v) : NoteV p H' v := let ⟨d, o, r⟩ := h; ⟨d, o.extN k, r⟩
theorem MelAt.move {B : Addr} {H H' : Hp} {q R : Addr} {ps : List Pc} (f : ∀ b o, (∀ xs, o ≠ .lst xs) → (∀ ps, o ≠ .tbl ps) → H b = some o → H' b = some o) (h : MelAt B H q R ps) : MelAt B H' q R ps := by
  obtain ⟨dx, S, A, tr, h⟩ := h
  exact ⟨dx, S, A, tr, f _ _ (fun _ z => nomatch z) (fun _ z => nomatch z) h.ins, f _ _ (fun _ z => nomatch z) (fun _ z => nomatch z) h.pieces, Paired.imp (fun _ _ ⟨y, e, t⟩ => ⟨y, e, f _ _ (fun _ z => nomatch z) (fun _ z => nomatch z) t⟩) h.pcs, f _ _ (fun _ z => nomatch z) (fun _ z => nomatch z) h.starts, f _ _ (fun _ z => nomatch z) (fun _ z => nomatch z) h.ahead⟩
theorem MelAt.keep {B : Addr} {H H' : Hp} {p q R : Addr} {o : List V} {ps : List Pc} (h : MelAt B H q R ps) (k : Keep p H H') (hp : H p = some (.lst o)) : MelAt B H' q R ps := h.move fun _ _ nl _ e => k _ _ (fun z => by
  rw [z, hp] at e
  exact nl o (Option.some.inj e).symm) e
theorem MelAt.extN {B : Addr} {H H' : Hp} {q R : Addr} {ps : List Pc} (h : MelAt B H q R ps) (k : ExtN H H') : MelAt B H' q R ps := h.move fun _ _ _ nt e => k _ _ e nt
theorem EntsAt.extN {H H' : Hp} (k : ExtN H H') {xs : List V} {es : List Ent} (h : EntsAt H xs es) : EntsAt H' xs es := Paired.imp (fun _ _ ⟨q, e, t⟩ => ⟨q, e, k _ _ t fun _ z => nomatch z⟩) h
theorem Met.keep {a C p : Addr} {H H' : Hp} {fs : List (Str × V)} {o : List V} (h : Met H a C fs) (k : Keep p H H') (hp : H p = some (.lst o)) : Met H' a C fs := by
  obtain ⟨d, h1, h2⟩ := h
  exact ⟨d, k _ _ (ne_of h1 hp fun z => nomatch z) h1, k _ _ (ne_of h2 hp fun z => nomatch z) h2⟩
theorem pot_lst {H : Hp} {p : Addr} {n : Nat} (h : Pot H p n) : ∃ o, H p = some (.lst o) := by
  obtain ⟨own, mix, h, _⟩ := h
  exact ⟨_, h⟩
/-- a melody, what it shows, notes for its new places; the tables -/
structure Band (Z : Zs) (p q R x b : Addr) (ps : List Pc) (En : List Ent) (xs ns : List V) (n : Nat) (H : Hp) : Prop where
  hp : Pot H p n
  hT : TabK Z H
  mel : MelAt Z.cB H q R ps
  hx : H x = some (.lst xs)
  ents : EntsAt H xs En
  hb : H b = some (.lst ns)
  notes : ∀ v ∈ ns, NoteV p H v
  xp : x ≠ p
  bp : b ≠ p
theorem Band.keep {Z : Zs} {p q R x b : Addr} {ps : List Pc} {En : List Ent} {xs ns : List V} {n n' : Nat} {H H' : Hp} (B : Band Z p q R x b ps En xs ns n H) (k : Keep p H H') (hp' : Pot H' p n') : Band Z p q R x b ps En xs ns n' H' := by
  obtain ⟨o, ho⟩ := pot_lst B.hp
  exact ⟨hp', B.hT.keep k ho, B.mel.keep k ho, k _ _ B.xp B.hx, EntsAt.keep k ho B.ents, k _ _ B.bp B.hb, fun v hv => (B.notes v hv).keep k, B.xp, B.bp⟩
theorem Band.ext {Z : Zs} {p q R x b : Addr} {ps : List Pc} {En : List Ent} {xs ns : List V} {n : Nat} {H H' : Hp} (B : Band Z p q R x b ps En xs ns n H) (e : ExtN H H') (t : TabK Z H') : Band Z p q R x b ps En xs ns n H' :=
  ⟨Pot.extN e B.hp, t, B.mel.extN e, e _ _ B.hx (fun _ z => nomatch z), B.ents.extN e, e _ _ B.hb (fun _ z => nomatch z), fun v hv => (B.notes v hv).extN e, B.xp, B.bp⟩
theorem Band.same {Z : Zs} {p q R x b : Addr} {ps : List Pc} {En : List Ent} {xs ns : List V} {n : Nat} {H H' : Hp} (B : Band Z p q R x b ps En xs ns n H) (s : Same H H') : Band Z p q R x b ps En xs ns n H' := B.ext (ExtN.same s) (B.hT.ext s)
/-- .. while another list is written -/
theorem Band.asked {Z : Zs} {p q R x b a : Addr} {ps : List Pc} {En : List Ent} {xs ns ys : List V} {n : Nat} {H H' : Hp} (B : Band Z p q R x b ps En xs ns n H) (ap : a ≠ p) (ax : a ≠ x) (ab : a ≠ b) (ha : H a = some (.lst ys)) (nts : ∀ v ∈ ns, NoteV p H' v) (k : Keep a H H') : Band Z p q R x b ps En xs ns n H' := by
  obtain ⟨own, mix, h, r⟩ := B.hp
  exact ⟨⟨own, mix, k _ _ ap.symm h, r⟩, B.hT.keep k ha, B.mel.keep k ha, k _ _ ax.symm B.hx, EntsAt.keep k ha B.ents, k _ _ ab.symm B.hb, nts, B.xp, B.bp⟩
/-- the law's frame -/
abbrev xPR (P : Program) (w : World) (K : PySem.W.Frag) (mg : Str → Option Value) (base : Heap) (Z : Zs) (A : Around) (outer : List Env) (s : Shared) (H : Hp) (E : XK) : Cx := (cxOf CX0 P w K mg base ["_law_pot_here", "_law_tune", "_law_shown_here", "_law_notes", "_law_first", "_law_length", "_law_some", "_law_asked", "_law_look", "_law_caught", "_law_found", "_law_due", "_law_bad", "_law_entry", "_law_number", "_law_one"] "_law_played_right" (defScope s_l_played_right) Z.f_l_played_right (.ref Z.c_l_played_right) A outer s H E).nox
/-- the note asked for -/
def ntV (ns : List V) (d : Int) : V := (ns[d.toNat]?).getD .non
def ntI (ns : List V) (d : Int) : Option Int := isInt (ntV ns d)
/-- what the law's look found: all the notes, or the first that is no int -/
def Told (Z : Zs) (H7 : Hp) (ask : Addr) (due : List Int) (ns : List V) (es : List Ent) (c v : V) (H : Hp) : Prop := Keep ask H7 H ∧
  (((∀ d ∈ due, ∃ m, ntI ns d = some m) ∧ c = .non ∧ H ask = some (.lst (due.map V.int)) ∧ ∃ t, v = .ref t ∧ H t = some (.tup (es.map fun e => V.int (noteOf (fun d => (ntI ns d).getD 0) e)))) ∨
   ∃ (j : Nat) (d : Int) (bb : Addr), due[j]? = some d ∧ ntI ns d = none ∧ (∀ (i : Nat) (e : Int), i < j → due[i]? = some e → ∃ m, ntI ns e = some m) ∧ c = .ref bb ∧ v = .non ∧ H ask = some (.lst ((due.take (j + 1)).map V.int)) ∧ Met H bb (Z.c 3) [("value", ntV ns d)])
/-- the first for which something is so -/
theorem first_of {α : Type} {p : α → Prop} : ∀ l : List α, (∀ x ∈ l, p x) ∨ ∃ (j : Nat) (x : α), l[j]? = some x ∧ ¬ p x ∧ ∀ (i : Nat) (y : α), i < j → l[i]? = some y → p y
  | [] => .inl fun _ h => absurd h List.not_mem_nil
  | a :: l => by
    by_cases h : p a
    · rcases first_of (p := p) l with g | ⟨j, x, h1, h2, h3⟩
      · exact .inl fun x hx => (List.mem_cons.mp hx).elim (fun e => e ▸ h) (g x)
      · refine .inr ⟨j + 1, x, h1, h2, fun i y hi e => ?_⟩
        cases i with
        | zero => cases e; exact h
        | succ i => exact h3 i y (by omega) e
    · exact .inr ⟨0, a, rfl, h, fun i y hi => absurd hi (Nat.not_lt_zero _)⟩
theorem filter_none {α : Type} {f : α → Bool} : ∀ {l : List α}, (∀ x ∈ l, f x = false) → l.filter f = []
  | [], _ => rfl
  | a :: l, h => by rw [List.filter_cons, if_neg (by rw [h a List.mem_cons_self]; decide), filter_none fun x hx => h x (List.mem_cons_of_mem _ hx)]
theorem filter_first {α : Type} {f : α → Bool} {d : α} : ∀ {l : List α} {j : Nat}, l[j]? = some d → f d = true → (∀ (i : Nat) (y : α), i < j → l[i]? = some y → f y = false) → ∃ r, l.filter f = d :: r
  | [], j, h, _, _ => by simp at h
  | a :: l, 0, h, e, _ => by
    cases h
    exact ⟨l.filter f, by rw [List.filter_cons, if_pos e]⟩
  | a :: l, j + 1, h, e, b => by
    obtain ⟨r, q⟩ := filter_first (l := l) (j := j) h e fun i y hi hy => b (i + 1) y (by omega) hy
    exact ⟨r, by rw [List.filter_cons, if_neg (by rw [b 0 a (Nat.succ_pos _) rfl]; decide), q]⟩
theorem shown_notes {n : Int → Int} {es : List Ent} (l : es.length ≤ 1000) (h : ∀ e ∈ es, -(10 ^ 64) < noteOf n e ∧ noteOf n e < 10 ^ 64) : Gd (.tuple (es.map fun e => PyData.int (noteOf n e))) (es.length * 1) 1 :=
  Gd.tup (Gds.map (f := fun e => PyData.int (noteOf n e)) (n := 0) (m := 0) fun e he => Gd.int (h e he).1 (h e he).2)
theorem dp_notes {K : PySem.W.Frag} {H : Hp} {n : Int → Int} : ∀ es : List Ent, DpAll K H (es.map fun e => V.int (noteOf n e)) (es.map fun e => PyData.int (noteOf n e))
  | [] => .nil
  | e :: es => .cons (.int _) (dp_notes es)
theorem cut_to {xs : List V} {j : Nat} : cutV xs none (some ((j : Int) + 1)) = xs.take (j + 1) := by
  unfold cutV
  rw [show (j : Int) + 1 = ((j + 1 : Nat) : Int) by omega, HT.sIx_nat, HT.sIx_none, List.drop_zero, Nat.sub_zero]
  rcases Nat.le_total (j + 1) xs.length with c | c
  · rw [Nat.min_eq_left c]
  · rw [Nat.min_eq_right c, List.take_of_length_le (Nat.le_refl _), List.take_of_length_le c]
theorem flat_ints : ∀ l : List Int, (l.map V.int).all flatV = true
  | [] => rfl
  | n :: l => by rw [List.map_cons, List.all_cons, flat_ints l]; rfl
theorem rising_len : ∀ {l : List Int} {lo hi : Int}, l.Pairwise (· < ·) → (∀ x ∈ l, lo ≤ x ∧ x < hi) → (l.length : Int) ≤ 0 ∨ (l.length : Int) ≤ hi - lo
  | [], lo, hi, _, _ => .inl (Int.le_refl 0)
  | x :: l, lo, hi, h, b => by
    obtain ⟨h1, h2⟩ := List.pairwise_cons.mp h
    have bx := b x List.mem_cons_self
    rcases rising_len (lo := x + 1) (hi := hi) h2 (fun y hy => ⟨by have := h1 y hy; omega, (b y (List.mem_cons_of_mem _ hy)).2⟩) with c | c
    · right
      rw [List.length_cons]
      omega
    · right
      rw [List.length_cons]
      omega
def sp_played_right (Z : Zs) : Sp := fun vs H Q _ => ∃ (p q R x b : Addr) (n : Nat) (ps : List Pc) (En : List Ent) (xs ns : List V), vs = [.ref p, .ref q, .ref x, .ref b] ∧ Band Z p q R x b ps En xs ns n H ∧ n + 10 < 1000000 ∧ PsOk ps ∧ pre ps ps.length ≤ 30 ∧ Eqs ps (pre ps ps.length) En ∧ (ns.length : Int) = aheadN ps ps.length ∧
  ∀ n' H', n' ≤ n + 10 → Pot H' p n' → TabK Z H' → KeepN p H H' → Q (.bl true) H'
section
variable {P : Program} {w : World} {K : PySem.W.Frag} {mg : Str → Option Value} {base : Heap} {Z : Zs}
theorem ok_l_played_right (T : Txt K mg Z) (TB : TabB base mg Z.c_l_played_right Z.t_l_played_right) : GOk P w K mg base CX0 18 Z.f_l_played_right Z.d_l_played_right ["_law_pot_here", "_law_tune", "_law_shown_here", "_law_notes"] (sp_played_right Z) := by
  refine okGC T.F_l_played_right sc_l_played_right (fun vs H Q E h => ?_) (fun A outer s H vs Q E g hr h => ?_)
  · obtain ⟨p, q, R, x, b, n, ps, En, xs, ns, rfl, _⟩ := h
    rfl
  · obtain ⟨p, q, R, x, b, n, ps, En, xs, ns, rfl, B0, hn, ok, z30, eq, ln, k⟩ := h
    have sl : sizeLine = 16777216 := sizeLine_eq
    refine ⟨_, (pss_cons (ps_set (i := 4) sc_l_played_right.nd rfl (Or.inr rfl) (pe_call (ok_l_take T) (hr.mono (by decide)) rfl T.g_l_take T.k_l_take T.bn_l_take .nil pass0 (pa_cons (pv 0) (pa_cons (pe_callB  call_len (by rfl) T.b_len (by decide +kernel) (pa_cons (pv 2) pa_nil)) pa_nil))))
      (pss_cons (ps_set (i := 5) sc_l_played_right.nd rfl (Or.inr rfl) (pe_op op_add pe_int (pe_call (ok_l_take T) (hr.mono (by decide)) rfl T.g_l_take T.k_l_take T.bn_l_take .nil pass0 (pa_cons (pv 0) (pa_cons (pe_op op_sub (pe_callB  call_len (by rfl) T.b_len (by decide +kernel) (pa_cons (pv 2) pa_nil)) (pv 4)) pa_nil)))))
      (pss_cons (ps_asg (pe_tup (pa_cons (pe_slice sl_list (pv 2) (po_some (pv 4)) (po_some (pe_op op_add (pv 4) (pv 5)))) (pa_cons (pe_lst pa_nil) pa_nil))) (pg_tup rfl (pgs_cons (pg_name (i := 6) sc_l_played_right.nd rfl (Or.inl rfl)) (pgs_cons (pg_name (i := 7) sc_l_played_right.nd rfl (Or.inr rfl)) pgs_nil))))
      (pss_cons (ps_ndX (T := tabs Z) (nm := nmL) (dp := dpL) (nmI := nmI) (i := 8) TB rfl (tabs_mem_l_played_right Z) (tabs_one Z) (by rfl) (by rfl) (free_by (out := defScope s_l_played_right) (by decide +kernel)) rfl rfl rfl sc_l_played_right.nd rfl (.inr rfl) (.inl rfl))
      (pss_cons (ps_asg (pe_callFB (tl := tlA (xPR P w K mg base Z A outer s H E) 14 2 (tlC (xPR P w K mg base Z A outer s H E) 2)) (runs_A runs_C) (ok_l_told T) (hr.mono (by decide)) T.bn_l_told pass0 rfl T.g_l_told T.k_l_told (pa_cons (pe_lamB (k := 14) (j := 2) (tl0 := tlC (xPR P w K mg base Z A outer s H E) 2) (T := tabs Z) (nm := nmL) (dp := dpL) (nmI := nmI) (d := false) (t := fun _ σ' E' => tMethB Z.cB "played" (sp_played K Z) (fun _ => tlC (xPR P w K mg base Z A outer s H E) 2 σ') E' (tVar 1) (tCons (tVar 8) (tCons (tVar 4) (tCons (tVar 5) tNil)))) TB rfl (tabs_mem_l_played_right Z) (tabs_one Z) (by rfl) (by rfl) rfl ⟨lamS_by (sc := defScope s_l_played_right) (by decide +kernel), fun _ _ _ _ _ => rfl, fun A' outer' s' H' E' f c' σ' hr' R' => pe_methB (tl := fun _ => tlC (xPR P w K mg base Z A outer s H E) 2 σ') (R_in R') (pv 1) T.clB ⟨T.a_M_played, T.i_M_played, T.k_M_played⟩ (ok_M_played T) (hr'.mono (by decide)) T.bn_M_played (passes_call (takes_of rfl rfl rfl rfl) (fun _ _ _ _ h => h)) (pa_cons (pv 8) (pa_cons (pv 4) (pa_cons (pv 5) pa_nil)))⟩) pa_nil)) (pg_tup rfl (pgs_cons (pg_name (i := 9) sc_l_played_right.nd rfl (Or.inl rfl)) (pgs_cons (pg_name (i := 10) sc_l_played_right.nd rfl (Or.inl rfl)) pgs_nil))))
      (pss_cons (ps_set (i := 11) sc_l_played_right.nd rfl (Or.inl rfl) (pe_callB  (cr_sortedS rfl) (by rfl) T.b_sorted (by decide +kernel) (pa_cons (pe_callTy (cr_setOfI rfl) (by rfl) T.b_set (by decide +kernel) (pa_cons (pe_lc (own := [("_law_entry", 13)]) rfl sc_l_played_right.nd (pi_list (pv 6)) (blkOk_by (own := [("_law_entry", 13)]) (N := ["_law_pot_here", "_law_tune", "_law_shown_here", "_law_notes", "_law_first", "_law_length", "_law_some", "_law_asked", "_law_look", "_law_caught", "_law_found", "_law_due", "_law_bad", "_law_entry", "_law_number", "_law_one"]) (sc := defScope s_l_played_right) (by decide +kernel)) (fun _ _ _ _ _ => (pg_name (i := 13) sc_l_played_right.nd rfl (Or.inl rfl))) (fun _ _ _ _ _ => (pts_one (pt_cmpR op_ne (pe_ix (r := rIxT K) ix_tup (pv 13) pe_int (fun _ _ => rfl)) pe_str (nomark _)))) (fun _ _ _ _ _ => (pe_ix (r := rIxT K) ix_tup (pv 13) pe_int (fun _ _ => rfl)))) pa_nil)) pa_nil)))
      (pss_cons (ps_setLc (i := 12) (own := [("_law_number", 14)]) rfl sc_l_played_right.nd rfl rfl (sw_true rfl rfl rfl (by decide +kernel)) (pi_list (pv 11)) (blkOk_by (own := [("_law_number", 14)]) (N := ["_law_pot_here", "_law_tune", "_law_shown_here", "_law_notes", "_law_first", "_law_length", "_law_some", "_law_asked", "_law_look", "_law_caught", "_law_found", "_law_due", "_law_bad", "_law_entry", "_law_number", "_law_one"]) (sc := defScope s_l_played_right) (by decide +kernel)) (fun _ _ _ _ _ => (pg_name (i := 14) sc_l_played_right.nd rfl (Or.inl rfl))) (fun _ _ _ _ _ => (pts_one (pt_not (pt_val (pe_call (ok_l_is_int T) (hr.mono (by decide)) rfl T.g_l_is_int T.k_l_is_int T.bn_l_is_int .nil pass0 (pa_cons (pe_ix (r := rIxL K) ix_list (pv 3) (pv 14) (fun _ _ => rfl)) (pa_cons (pe_un un_neg (pe_op op_powW pe_int pe_int)) (pa_cons (pe_op op_powW pe_int pe_int) pa_nil)))))))) (fun _ _ _ _ _ => (pv 14)))
      (pss_cons (ps_if (pt_cmpR (op_neD (by exact hr.units)) (pv 12) (pe_lst pa_nil) (nomark _)) (pss_cons (ps_if (PW.pt (pw_or (pt_not (pt_val (pe_callB (r := rIsM K) (id := "isinstance") call_isM (by rfl) T.b_isinstance (by decide +kernel) (pa_cons (pv 9) (pa_cons (pe_glob (v := .ref (Z.c 3)) rfl T.g_BadNote rfl) pa_nil))))) (pw_or1 (pt_cmpR op_ne (pe_callB (r := rReprD K) (id := "repr") (call_reprS (by exact g) (by exact hr.units)) (by rfl) T.b_repr (by decide +kernel) (pa_cons (show PE _ _ (tMv K "value" (tVar 9)) from pe_mv (pv 9)) pa_nil)) (pe_callB (r := rReprD K) (id := "repr") (call_reprS (by exact g) (by exact hr.units)) (by rfl) T.b_repr (by decide +kernel) (pa_cons (pe_ix ix_list (pv 3) (pe_ix ix_list (pv 12) pe_int (fun _ _ => rfl)) (fun _ _ => rfl)) pa_nil)) (nomark _))))) (pss_one (ps_ret pe_bl)) pss_nil)
      (pss_one (ps_ret (pe_cmpR (op_eqD (by exact hr.units)) (pv 7) (pe_slice sl_list (pv 11) po_none (po_some (pe_op op_add (pe_bm PySem.F.plainAttrs_list PySem.F.slot_list_index PySem.F.type_list_index mt_index (pv 11) (pa_cons (pe_ix ix_list (pv 12) pe_int (fun _ _ => rfl)) pa_nil)) pe_int))) (nomark _))))) pss_nil)
      (pss_one (ps_ret (pe_and (pe_cmpR op_isN (pv 9) pe_non (nomark _)) (pe_and (pe_cmpR (op_eqD (by exact hr.units)) (pv 7) (pv 11) (nomark _)) (pe_one (pe_cmpR op_eq (pe_callB (r := rReprD K) (id := "repr") (call_reprS (by exact g) (by exact hr.units)) (by rfl) T.b_repr (by decide +kernel) (pa_cons (pv 10) pa_nil)) (pe_callB (r := rReprD K) (id := "repr") (call_reprS (by exact g) (by exact hr.units)) (by rfl) T.b_repr (by decide +kernel) (pa_cons (pe_callTy call_tuple_of (by rfl) T.b_tuple (by decide +kernel) (pa_cons (pe_lc (own := [("_law_one", 15)]) rfl sc_l_played_right.nd (pi_list (pv 6)) (blkOk_by (own := [("_law_one", 15)]) (N := ["_law_pot_here", "_law_tune", "_law_shown_here", "_law_notes", "_law_first", "_law_length", "_law_some", "_law_asked", "_law_look", "_law_caught", "_law_found", "_law_due", "_law_bad", "_law_entry", "_law_number", "_law_one"]) (sc := defScope s_l_played_right) (by decide +kernel)) (fun _ _ _ _ _ => (pg_name (i := 15) sc_l_played_right.nd rfl (Or.inl rfl))) (fun _ _ _ _ _ => pts_nil) (fun _ _ _ _ _ => (pe_call (ok_l_note_of T) (hr.mono (by decide)) rfl T.g_l_note_of T.k_l_note_of T.bn_l_note_of .nil pass0 (pa_cons (pv 15) (pa_cons (pv 3) pa_nil))))) pa_nil)) pa_nil)) (nomark _))))))))))))))), ?_⟩
    have lx := Paired.len B0.ents
    have lE := eq.len
    have p1 : 1 ≤ pre ps ps.length := by
      have := pre_lt ok.at_ (j := 0) (i := ps.length) (by have := ok.n1; omega) (Nat.le_refl _)
      rw [pre_zero] at this
      omega
    have big : (100 : Int) < 10 ^ 60 := by decide
    refine ⟨_, rfl, _, rfl, _, _, rfl, .inl ⟨_, SqL.of B0.hx, rfl⟩, p, n, _, rfl, B0.hp, by omega, by omega, by omega, fun a n1 H1 a0 a1 hn1 hp1 k1 => ?_⟩
    have B1 := B0.keep k1 hp1
    refine ⟨_, rfl, _, rfl, _, _, rfl, .inl ⟨_, SqL.of B1.hx, rfl⟩, _, rfl, _, _, rfl, rfl, p, n1, _, rfl, hp1, by omega, by omega, by omega, fun l0 n2 H2 b0 b1 hn2 hp2 k2 => ?_⟩
    have B2 := B1.keep k2 hp2
    have kp2 := k1.trans k2
    refine ⟨_, _, rfl, rfl, ?_⟩
    show gName 5 (V.int (1 + l0)) _ _ _
    obtain ⟨l, el⟩ : ∃ l, l = 1 + l0 := ⟨_, rfl⟩
    rw [← el]
    have l1 : 1 ≤ l := by omega
    have al : a + l ≤ (xs.length : Int) := by omega
    clear b0 b1 el B1 k1 k2 hp1 B0
    have hcut := cut_mid a0 (show 0 ≤ l by omega) al
    refine ⟨_, rfl, _, rfl, _, rfl, _, rfl, _, rfl, _, _, rfl, rfl, _, rfl, x, xs, rfl, SqL.of B2.hx, fun S hS => ?_⟩
    rw [hcut]
    refine ⟨Nat.zero_le _, fun ask hask => ?_⟩
    have s23 := Same.new (o := .lst ((xs.drop a.toNat).take l.toNat)) (Same.refl H2) hS
    have hS3 := upd_same (H := H2) (a := S) (o := .lst ((xs.drop a.toNat).take l.toNat))
    generalize upd H2 S (.lst ((xs.drop a.toNat).take l.toNat)) = H3 at s23 hS3 hask ⊢
    have s34 := Same.new (o := .lst []) (Same.refl H3) hask
    have ask4 := upd_same (H := H3) (a := ask) (o := .lst [])
    have nask : H2 ask = none := L2.Same.free s23 hask
    generalize upd H3 ask (.lst []) = H4 at s34 ask4 ⊢
    refine ⟨by show 2 ≤ sizeLine; decide, fun y hy => ⟨y, _, rfl, SqT.of upd_same, rfl, _, _, rfl, _, _, rfl, rfl, ?_⟩⟩
    have s45 := Same.new (o := .tup [.ref S, .ref ask]) (Same.refl H4) hy
    generalize upd H4 y (.tup [.ref S, .ref ask]) = H5 at s45 ⊢
    have s25 := s23.trans (s34.trans s45)
    obtain ⟨es, ees⟩ : ∃ es, es = (En.drop a.toNat).take l.toNat := ⟨_, rfl⟩
    obtain ⟨ys, eys⟩ : ∃ ys, ys = (xs.drop a.toNat).take l.toNat := ⟨_, rfl⟩
    rw [← eys] at hS3
    have he2 : EntsAt H2 ys es := by
      rw [ees, eys]
      exact (B2.ents.drop _).take _
    have hS5 := (s34.trans s45) _ _ hS3
    have ask5 := s45 _ _ ask4
    have aS : ask ≠ S := fun z => by
      rw [z] at hask
      rw [hS3] at hask
      cases hask
    have B5 := B2.same s25
    have he5 := he2.same s25
    clear hy s45 ask4 s34 hS3 s23 hcut hS hask he2
    -- the law's look
    refine ⟨B5.hT, fun look c1 H6 e6 T6 _ at6 co6 => ?_⟩
    have B6 := B5.ext e6 T6
    have ask6 := e6 _ _ ask5 fun _ z => nomatch z
    refine ⟨B6.hT, fun lf H7 e7 T7 _ ⟨as, bd, sc, c2, good, at7, co7, _⟩ => ?_⟩
    have B7 := B6.ext e7 T7
    have ask7 := e7 _ _ ask6 fun _ z => nomatch z
    have look7 := e7 _ _ at6 fun ps => fnO_ne ps
    have code7 := e7 _ _ co6 fun ps => codeO_ne ps
    have e57 : ExtN H5 H7 := fun b o h n => e7 _ _ (e6 _ _ h n) n
    have he7 := he5.extN e57
    have hS7 := e57 _ _ hS5 fun _ z => nomatch z
    obtain ⟨due, hD⟩ := due_ex es
    have nts : ∀ H', Keep ask H7 H' → ∀ v ∈ ns, NoteV p H' v := fun H' kp v hv => by
      obtain ⟨d, o, r⟩ := B2.notes v hv
      exact ⟨d, ExtN.keep (fun b u _ e n => kp b u (fun z => by rw [z, nask] at e; cases e) (e57 _ _ (s25 _ _ e) n)) o, r⟩
    have dueN : ∀ d ∈ due, 0 ≤ d ∧ ns[d.toNat]? = some (ntV ns d) := fun d hd => by
      obtain ⟨dn, c, hm⟩ := (hD.mem d).mp hd
      rw [ees] at hm
      obtain ⟨i, hi⟩ := List.mem_iff_getElem?.mp (List.mem_of_mem_drop (List.mem_of_mem_take hm))
      have := ent_num ok eq i dn d c hi
      have lt : d.toNat < ns.length := by omega
      exact ⟨this.1, by unfold ntV; rw [List.getElem?_eq_getElem lt]; rfl⟩
    have ap : ask ≠ p := fun z => by
      obtain ⟨o, ho⟩ := pot_lst B2.hp
      rw [← z, nask] at ho
      cases ho
    have ax : ask ≠ x := fun z => by
      have := B2.hx
      rw [← z, nask] at this
      cases this
    have ab : ask ≠ b := fun z => by
      have := B2.hb
      rw [← z, nask] at this
      cases this
    have ldue : due.length ≤ 1000 := by
      have := rising_len (lo := 0) (hi := (ns.length : Int)) hD.up fun d hd => ⟨(dueN d hd).1, by
        have := (List.getElem?_eq_some_iff.mp (dueN d hd).2).1
        have := (dueN d hd).1
        omega⟩
      have := ahead_le ok.at_ (Nat.le_refl ps.length)
      omega
    have X3 := T.ex 3 (by decide)
    have Te := T.ex 4 (by decide)
    refine ⟨lf, rfl, Told Z H7 ask due ns es, fun c f Hb gw y hy => ?rest, fun Ha sa => ?look⟩
    case look =>
      have Ba := B7.same sa
      obtain ⟨dx, S', A', tr', m⟩ := id Ba.mel
      refine ⟨rfl, _, as, bd, sc, c2, good, sa _ _ at7, co7.imp (sa _ _) (fun ⟨P, e⟩ => ⟨P, sa _ _ e⟩), ?_⟩
      refine ⟨_, rfl, q, dx, _, rfl, m.ins, ?nope, _, rfl, _, rfl, _, rfl, ?_⟩
      case nope => rw [mfs_lookup, if_neg (by decide +kernel), if_neg (by decide +kernel), if_neg (by decide +kernel), if_neg (by decide +kernel), if_neg (by decide +kernel)]
      refine ⟨q, R, look, ps, _, _, rfl, Ba.mel, ok, .inr (.inr ⟨a, l, En, ask, fun i => (due.take i).map V.int, due, ntV ns, ntI ns, rfl, rfl, a0, by omega, l1, ?_, by omega, eq, ees ▸ hD, ⟨sa _ _ ask7, fun i d H1 Q1 hd ha1 kp1 kq => ?_⟩, ?_⟩)⟩
      · unfold most
        split <;> omega
      · have kp7 : Keep ask H7 H1 := fun b o n e => kp1 b o n (sa _ _ e)
        have look1 := kp7 _ _ (ne_of look7 ask7 fun z => by unfold FnO at z; cases z) look7
        have code1 := kp7 _ _ (ne_of code7 ask7 fun z => by unfold CodeO at z; cases z) code7
        have hb1 := kp7 _ _ ab.symm B7.hb
        obtain ⟨d0, hv⟩ := dueN d (List.mem_of_getElem? hd)
        refine ⟨lookF _ _ c1, ["_law_number"], ["_law_asked", "_law_notes"], [7, 3], sp_look K, ok_look, fun okx => Caps.made okx (free_by (out := defScope s_l_played_right) (by decide +kernel)) (by decide +kernel) rfl, look1, code1, ?_⟩
        refine ⟨ask, b, d, ntV ns d, (due.take i).map V.int, ns, rfl, rfl, ha1, by rw [List.length_map, List.length_take]; omega, hb1, ab, d0, hv, ?_⟩
        have kp2 : Keep ask H1 (upd H1 ask (.lst ((due.take i).map V.int ++ [.int d]))) := fun b o n e => (upd_ne n).trans e
        obtain ⟨dd, od, _⟩ := nts _ (kp7.trans kp2) _ (List.mem_of_getElem? hv)
        refine kq _ ?_ kp2 od.isI
        rw [upd_same, take_next hd, List.map_append]
        rfl
      · rcases first_of (p := fun d => ∃ m, ntI ns d = some m) due with all | ⟨j, d, hj, bad, bef⟩
        · refine .inl ⟨fun d => (ntI ns d).getD 0, fun d hd => ?_, fun t H' _ ha' kp' ht => ?_⟩
          · obtain ⟨m, e⟩ := all d hd
            show ntI ns d = some ((ntI ns d).getD 0)
            rw [e]
            rfl
          · have ha' : H' ask = some (.lst ((due.take due.length).map V.int)) := ha'
            rw [List.take_of_length_le (Nat.le_refl _)] at ha'
            exact ⟨fun b o n e => kp' b o n (sa _ _ e), .inl ⟨all, rfl, ha', t, rfl, ees ▸ ht⟩⟩
        · have bad' : ntI ns d = none := by
            cases e : ntI ns d with
            | none => rfl
            | some m => exact absurd ⟨m, e⟩ bad
          refine .inr ⟨j, d, hj, bad', bef, fun H' ha' kp' => ?_⟩
          exact Out.met (G := fun c Hc => Told Z H7 ask due ns es c .non Hc) X3 Te fun bb Hc sc mt => ⟨fun b o n e => sc _ _ (kp' b o n (sa _ _ e)), .inr ⟨j, d, bb, hj, bad', bef, rfl, rfl, sc _ _ ha', mt⟩⟩
    case rest =>
      obtain ⟨kpb, res⟩ := gw
      refine ⟨y, _, rfl, SqT.of upd_same, rfl, _, _, rfl, _, _, rfl, rfl, ?_⟩
      have sby := Same.new (o := .tup [c, f]) (Same.refl Hb) hy
      generalize upd Hb y (.tup [c, f]) = Hc at sby ⊢
      have Bb := B7.asked ap ax ab ask7 (nts Hb kpb) kpb
      have Bc := Bb.same sby
      have hec := (EntsAt.keep kpb ask7 he7).same sby
      have hSc := sby _ _ (kpb _ _ aS.symm hS7)
      have KNc : KeepN p H Hc := fun b' o np e nt => sby _ _ (kpb _ _ (fun z => by have := kp2 _ _ np e; rw [z, nask] at this; cases this) (e57 _ _ (s25 _ _ (kp2 _ _ np e)) nt))
      clear Bb hy
      -- what is due, by the law
      have les : es.length = ys.length := (Paired.len he7).symm
      have lys : ys.length ≤ 30 := by
        rw [eys, List.length_take, List.length_drop]
        omega
      refine ⟨_, rfl, S, rfl, ⟨_, SqL.of hSc⟩, fun D hDn => ?_⟩
      have sD := Same.new (o := .lst []) (Same.refl Hc) hDn
      refine lc_list (xs := ys) (fun i H' => ∃ ks : List Int, H' D = some (.lst (ks.map V.int)) ∧ ks.length ≤ i ∧ (∀ n, n ∈ ks ↔ ∃ d m, Ent.rel d n m ∈ es.take i) ∧ Same Hc H') ⟨[], upd_same, Nat.le_refl _, fun n => ⟨fun z => absurd z List.not_mem_nil, fun ⟨_, _, z⟩ => absurd z (by simp)⟩, sD⟩ (fun i H' _ ⟨_, _, _, _, s⟩ => SqL.of (s _ _ hSc)) ?_ ?_
      · rintro i v H3 hi ⟨ks, hD3, lk, mk, s3⟩
        refine ⟨rfl, ?_⟩
        obtain ⟨e, he, u, rfl, hu⟩ := Paired.at hec hi
        have il := (List.getElem?_eq_some_iff.mp he).1
        have hu3 := s3 _ _ hu
        cases e with
        | told x =>
          have hu3 : H3 u = some (.tup [.str "told", .int x]) := hu3
          refine ⟨_, rfl, u, _, 0, .str "told", rfl, rfl, SqT.of hu3, rfl, rfl, false, by rw [show decide (V.str "told" = V.str "told") = true by decide +kernel] <;> rfl, iteF ?_⟩
          refine ⟨ks, hD3, by omega, fun n => (mk n).trans ?_, s3⟩
          rw [take_next he]
          constructor
          · rintro ⟨d, m, z⟩
            exact ⟨d, m, List.mem_append_left _ z⟩
          · rintro ⟨d, m, z⟩
            rcases List.mem_append.mp z with z | z
            · exact ⟨d, m, z⟩
            · cases List.mem_singleton.mp z
        | rel dn n m =>
          have hu3 : H3 u = some (.tup [.str (word dn), .int n, .int m]) := hu3
          refine ⟨_, rfl, u, _, 0, .str (word dn), rfl, rfl, SqT.of hu3, rfl, rfl, true, by rw [show decide (V.str (word dn) = V.str "told") = false by cases dn <;> decide +kernel] <;> rfl, iteT ?_⟩
          refine ⟨_, rfl, u, _, 1, .int n, rfl, rfl, SqT.of hu3, rfl, ks.map V.int, hD3, by rw [List.length_map]; omega, ks ++ [n], by rw [upd_same, List.map_append]; rfl, by rw [List.length_append, List.length_singleton]; omega, fun a => ?_, same_put s3 hDn⟩
          rw [List.mem_append, List.mem_singleton, mk a, take_next he]
          constructor
          · rintro (⟨d, b, z⟩ | rfl)
            · exact ⟨d, b, List.mem_append_left _ z⟩
            · exact ⟨dn, m, List.mem_append_right _ (List.mem_singleton.mpr rfl)⟩
          · rintro ⟨d, b, z⟩
            rcases List.mem_append.mp z with z | z
            · exact .inl ⟨d, b, z⟩
            · cases List.mem_singleton.mp z
              exact .inr rfl
      rintro Hd ⟨ks, hDd, lk, mk, scd⟩
      rw [List.take_of_length_le (by omega)] at mk
      refine ⟨D, ks, rfl, SqL.of hDd, by show ks.length + 1 < scanBound; unfold scanBound; omega, fun M hM => ?_⟩
      generalize hoS : SetL (xPR P w K mg base Z A outer s H E).w M ks = oS
      have sde := Same.new (o := oS) (Same.refl Hd) hM
      refine ⟨M, ks, rfl, by rw [hoS]; exact upd_same, by omega, fun ns' r up mem _ hr' => ?_⟩
      obtain rfl : ns' = due := Due.uniq (es := es) ⟨up, fun k => (mem k).trans (mk k)⟩ hD
      have sef := Same.new (o := .lst (ns'.map V.int)) (Same.refl (upd Hd M oS)) hr'
      have hrf := upd_same (H := upd Hd M oS) (a := r) (o := .lst (ns'.map V.int))
      generalize upd (upd Hd M oS) r (.lst (ns'.map V.int)) = Hf at sef hrf ⊢
      have scf := scd.trans (sde.trans sef)
      clear sde sef hr' hM hDd scd mk lk sD hDn
      have Bf := Bc.same scf
      -- the first that is no int
      refine ⟨_, rfl, r, rfl, ⟨_, SqL.of hrf⟩, fun D hDn => ?_⟩
      have sD := Same.new (o := .lst []) (Same.refl Hf) hDn
      refine lc_list (xs := ns'.map V.int) (fun i H' => H' D = some (.lst (((ns'.take i).filter fun d => (ntI ns d).isNone).map V.int)) ∧ Same Hf H') ⟨upd_same, sD⟩ (fun i H' _ ⟨_, s⟩ => SqL.of (s _ _ hrf)) ?_ ?_
      · rintro i v H3 hi ⟨hD3, s3⟩
        refine ⟨rfl, ?_⟩
        rw [List.getElem?_map] at hi
        obtain ⟨d, hd, rfl⟩ := Option.map_eq_some_iff.mp hi
        obtain ⟨d0, hv⟩ := dueN d (List.mem_of_getElem? hd)
        obtain ⟨dd, od, _, small⟩ := (Bf.same s3).notes _ (List.mem_of_getElem? hv)
        have hat : atI ns d = some (ntV ns d) := by
          have := atI_nat hv
          rw [Int.toNat_of_nonneg d0] at this
          exact this
        have isi : IsI K H3 (ntV ns d) (ntI ns d) := od.isI
        refine ⟨_, rfl, _, rfl, b, ns, d, _, rfl, rfl, SqL.of (Bf.same s3).hb, hat, _, _, rfl, rfl, ⟨by decide, by decide +kernel⟩, _, rfl, _, _, rfl, rfl, ⟨by decide, by decide +kernel⟩, _, ntI ns d, _, _, rfl, isi, ?_⟩
        have fl : (ns'.take (i + 1)).filter (fun d => (ntI ns d).isNone) = (ns'.take i).filter (fun d => (ntI ns d).isNone) ++ if (ntI ns d).isNone = true then [d] else [] := by
          rw [take_next hd, List.filter_append]
          cases h : (ntI ns d).isNone <;> simp [List.filter_cons, h]
        have lf : ((ns'.take i).filter fun d => (ntI ns d).isNone).length ≤ 1000 := by
          have := List.length_filter_le (fun d => (ntI ns d).isNone) (ns'.take i)
          rw [List.length_take] at this
          omega
        cases e : ntI ns d with
        | some m =>
          have b12 : (10 : Int) ^ 12 ≤ 10 ^ (50 : Int).toNat := by decide +kernel
          have := small m e
          refine .inl ⟨m, rfl, true, congrArg V.bl (bl_yes ⟨by omega, by omega⟩), iteF ?_⟩
          refine ⟨?_, s3⟩
          rw [fl, e]
          simpa using hD3
        | none =>
          refine .inr ⟨rfl, false, rfl, iteT ⟨_, rfl, _, hD3, by rw [List.length_map]; omega, ?_, same_put s3 hDn⟩⟩
          rw [upd_same, fl, e, List.map_append]
          rfl
      · rintro Hg ⟨hDg, sfg⟩
        rw [List.take_of_length_le (by rw [List.length_map]; exact Nat.le_refl _)] at hDg
        have Bg := Bf.same sfg
        have scg := scf.trans sfg
        have hrg := sfg _ _ hrf
        clear sfg hrf Bf scf hDn sD
        rcases res with ⟨all, rfl, askb, t, rfl, ht⟩ | ⟨j, d, bb, hj, bad, bef, rfl, rfl, askb, mt⟩
        · rw [filter_none fun d hd => by obtain ⟨m, e⟩ := all d hd; rw [e]; rfl] at hDg
          refine ⟨_, rfl, Nat.zero_le _, fun e he => ⟨dI [], dI [], .lst (SqL.of (Same.new (Same.refl Hg) he _ _ hDg)) .nil, .lst (SqL.of upd_same) .nil, by decide +kernel, by decide +kernel, false, by rw [eqv_ints] <;> rfl, iteF ?_⟩⟩
          have sgh := Same.new (o := .lst []) (Same.refl Hg) he
          generalize upd Hg e (.lst []) = Hh at sgh ⊢
          have Bh := Bg.same sgh
          have sch := scg.trans sgh
          have hrh := sgh _ _ hrg
          have askh := (sby.trans sch) _ _ askb
          have hth := (sby.trans sch) _ _ ht
          have heh := hec.same sch
          have hSh := sch _ _ hSc
          obtain ⟨nf, enf⟩ : ∃ nf : Int → Int, nf = fun d => (ntI ns d).getD 0 := ⟨_, rfl⟩
          have nfV : ∀ d ∈ ns', ntV ns d = .int (nf d) ∧ -(10 ^ 12) ≤ nf d ∧ nf d ≤ 10 ^ 12 := fun d hd => by
            obtain ⟨m, e⟩ := all d hd
            obtain ⟨dd, od, _, small⟩ := Bh.notes _ (List.mem_of_getElem? (dueN d hd).2)
            have b := small m e
            have en : nf d = m := by rw [enf]; show (ntI ns d).getD 0 = m; rw [e]; rfl
            rw [en]
            exact ⟨isInt_some e, b⟩
          have bnd : ∀ e ∈ es, -(10 ^ 64) < noteOf nf e ∧ noteOf nf e < 10 ^ 64 := fun e he => by
            have e64 : (31 : Int) * 10 ^ 12 < 10 ^ 64 := by decide +kernel
            have hm := he
            rw [ees] at he
            obtain ⟨i, hi⟩ := List.mem_iff_getElem?.mp (List.mem_of_mem_drop (List.mem_of_mem_take he))
            have il := (List.getElem?_eq_some_iff.mp hi).1
            have eb := ent_bound ok z30 eq i e hi
            have b1 : (((i + 1 : Nat)) : Int) * 10 ^ 12 ≤ 30 * 10 ^ 12 := Int.mul_le_mul_of_nonneg_right (by omega) (by decide)
            cases e with
            | told x =>
              obtain ⟨h1, h2⟩ := eb
              show -(10 ^ 64) < x ∧ x < 10 ^ 64
              omega
            | rel d m c =>
              obtain ⟨_, _, h1, h2⟩ := eb
              obtain ⟨_, n1, n2⟩ := nfV m ((hD.mem m).mpr ⟨d, c, hm⟩)
              show -(10 ^ 64) < ledI c d (nf m) ∧ ledI c d (nf m) < 10 ^ 64
              unfold ledI
              cases d <;> simp <;> omega
          have gd := shown_notes (by omega) bnd
          have sh := gd.shown (by decide) (by omega)
          rw [← enf] at hth
          refine ⟨_, rfl, rfl, true, rfl, iteT ?_⟩
          refine ⟨_, rfl, _, rfl, dI ns', dI ns', .lst (SqL.of askh) (dp_ints ns'), .lst (SqL.of hrh) (dp_ints ns'), ints_shaped ns', ints_shaped ns', true, by rw [eqv_ints], iteT ?_⟩
          refine ⟨_, rfl, .ref t, _, rfl, .one (.dp (.tup (SqT.of hth) (dp_notes es)) gd.h), sh.ok, sh.dep, sh.len, ?_⟩
          refine ⟨_, rfl, S, rfl, ⟨_, SqL.of hSh⟩, fun D2 hD2 => ?_⟩
          have sD := Same.new (o := .lst []) (Same.refl Hh) hD2
          refine lc_list (xs := ys) (fun i H' => H' D2 = some (.lst ((es.take i).map fun e => V.int (noteOf nf e))) ∧ Same Hh H') ⟨upd_same, sD⟩ (fun i H' _ ⟨_, s⟩ => SqL.of (s _ _ hSh)) ?_ ?_
          · rintro i v H6 hi ⟨hD6, s6⟩
            refine ⟨rfl, ?_⟩
            unfold tYes
            obtain ⟨e, he, u, rfl, hu⟩ := Paired.at heh hi
            have il := (List.getElem?_eq_some_iff.mp he).1
            refine iteT ⟨_, rfl, _, rfl, u, b, e, nf, ns, rfl, s6 _ _ hu, SqL.of (s6 _ _ Bh.hb), fun d k m ee => ?_, _, hD6, by rw [List.length_map, List.length_take]; omega, ?_, same_put s6 hD2⟩
            · subst ee
              have hk := (hD.mem k).mpr ⟨d, m, List.mem_of_getElem? he⟩
              have q := dueN k hk
              rw [(nfV k hk).1] at q
              exact q
            · rw [upd_same, take_next he, List.map_append]
              rfl
          · rintro H6 ⟨hD6, s6⟩
            rw [List.take_of_length_le (by omega)] at hD6
            refine ⟨D2, _, rfl, .inl ⟨SqL.of hD6, fun u hu => ?_⟩⟩
            have s7 := Same.new (o := .tup (es.map fun e => V.int (noteOf nf e))) (Same.refl H6) hu
            refine ⟨_, _, rfl, .one (.dp (.tup (SqT.of upd_same) (dp_notes es)) gd.h), sh.ok, sh.dep, sh.len, rfl, ?_⟩
            rw [decide_eq_true rfl]
            have sfin := sch.trans (s6.trans s7)
            have Bz := Bh.same (s6.trans s7)
            exact k n2 _ (by omega) Bz.hp Bz.hT fun b' o np e nt => sfin _ _ (KNc b' o np e nt)
        · obtain ⟨rr, er⟩ := filter_first (f := fun d => (ntI ns d).isNone) hj (by rw [bad]; rfl) fun i y hi hy => by obtain ⟨m, e⟩ := bef i y hi hy; rw [e]; rfl
          rw [er] at hDg
          refine ⟨_, rfl, Nat.zero_le _, fun e he => ⟨dI (d :: rr), dI [], .lst (SqL.of (Same.new (Same.refl Hg) he _ _ hDg)) (dp_ints (d :: rr)), .lst (SqL.of upd_same) .nil, ints_shaped (d :: rr), by decide +kernel, true, by rw [eqv_none] <;> rfl, iteT ?_⟩⟩
          have sgh := Same.new (o := .lst []) (Same.refl Hg) he
          generalize upd Hg e (.lst []) = Hh at sgh ⊢
          have Bh := Bg.same sgh
          have sch := scg.trans sgh
          have hDh := sgh _ _ hDg
          have hrh := sgh _ _ hrg
          have mth := mt.same (sby.trans sch)
          have askh := (sby.trans sch) _ _ askb
          obtain ⟨d0, hv⟩ := dueN d (List.mem_of_getElem? hj)
          obtain ⟨dd, od, nd, _⟩ := Bh.notes _ (List.mem_of_getElem? hv)
          have hat : atI ns d = some (ntV ns d) := by
            have := atI_nat hv
            rw [Int.toNat_of_nonneg d0] at this
            exact this
          refine ⟨_, rfl, bb, Z.c 3, _, .ref (Z.c 3), .ref (Z.c 3), true, true, rfl, mth, X3.ec, X3.selfC, .own _, X3.self, true, rfl, iteF ?_⟩
          refine ⟨_, rfl, bb, Z.c 3, _, ntV ns d, rfl, mth, X3.xf, X3.nv, rfl, ntV ns d, dd, rfl, .one od.dp, nd.ok, nd.dep, nd.len, ?_⟩
          have at0 : atI ((d :: rr).map V.int) 0 = some (V.int d) := atI_nat (j := 0) rfl
          have hjv : (ns'.map V.int)[j]? = some (.int d) := by rw [List.getElem?_map, hj]; rfl
          refine ⟨_, rfl, _, rfl, D, (d :: rr).map V.int, 0, .int d, rfl, rfl, SqL.of hDh, at0, b, ns, d, _, rfl, rfl, SqL.of Bh.hb, hat, ntV ns d, dd, rfl, .one od.dp, nd.ok, nd.dep, nd.len, rfl, false, by rw [decide_eq_true rfl] <;> rfl, iteF ?_⟩
          refine ⟨_, rfl, _, rfl, _, rfl, .inl ⟨rfl, _, SqL.of hrh⟩, _, rfl, D, (d :: rr).map V.int, 0, .int d, rfl, rfl, SqL.of hDh, at0, r, ns'.map V.int, .int d, j, .int d, rfl, rfl, SqL.of hrh, rfl, flat_ints ns', hjv, beq_self_eq_true d, fun m z' hm hz => ?_, _, _, rfl, rfl, _, rfl, r, ns'.map V.int, rfl, SqL.of hrh, fun u hu => ?_⟩
          · rw [List.getElem?_map] at hz
            obtain ⟨a', ha', rfl⟩ := Option.map_eq_some_iff.mp hz
            obtain ⟨jl, je⟩ := List.getElem?_eq_some_iff.mp hj
            obtain ⟨ml, me⟩ := List.getElem?_eq_some_iff.mp ha'
            have := List.pairwise_iff_getElem.mp hD.up m j ml jl hm
            rw [je, me] at this
            show (a' == d) = false
            exact beq_eq_false_iff_ne.mpr (by omega)
          · rw [cut_to, ← List.map_take]
            have s7 := Same.new (o := .lst ((ns'.take (j + 1)).map V.int)) (Same.refl Hh) hu
            refine ⟨dI (ns'.take (j + 1)), dI (ns'.take (j + 1)), .lst (SqL.of (s7 _ _ askh)) (dp_ints _), .lst (SqL.of upd_same) (dp_ints _), ints_shaped _, ints_shaped _, ?_⟩
            rw [eqv_ints]
            have Bz := Bh.same s7
            have sfin := sch.trans s7
            exact k n2 _ (by omega) Bz.hp Bz.hT fun b' o np e nt => sfin _ _ (KNc b' o np e nt)
end
end TT

set_option maxHeartbeats 4000000
namespace TT
open PySem PySem.Spec PyProof.Rows L2 LamX NdefX
/-! ### what played refuses -/
abbrev xRF (P : Program) (w : World) (K : PySem.W.Frag) (mg : Str → Option Value) (base : Heap) (Z : Zs) (A : Around) (outer : List Env) (s : Shared) (H : Hp) (E : XK) : Cx := (cxOf CX0 P w K mg base ["_law_pot_here", "_law_tune", "_law_size", "_law_first", "_law_length", "_law_caught", "_law_found"] "_law_refusals_right" (defScope s_l_refusals_right) Z.f_l_refusals_right (.ref Z.c_l_refusals_right) A outer s H E).nox
/-- no callables of the def's own -/
def tl0 : L2.St → Addr → TL := fun _ _ _ _ _ _ => False
theorem runs_0 {P : Program} {w : World} {K : PySem.W.Frag} {mg : Str → Option Value} {base : Heap} {fs : List Addr} {k : Nat} {σ : L2.St} {s : Shared} {H : Hp} (f : Addr) : RunsB P w K mg base fs k f (tl0 σ f) s H := ⟨fun _ _ _ _ _ _ _ _ _ _ _ _ _ _ t => t.elim⟩
/-- what the look met and found: the tune is refused, or told -/
def Ref (Z : Zs) (p : Addr) (H7 : Hp) (z : Int) (fv lv : V) (c v : V) (H : Hp) : Prop := ∃ (o : List V), H7 p = some (.lst o) ∧ KeepN p H7 H ∧ H p = some (.lst o) ∧ TabK Z H ∧
  ((∃ bb : Addr, c = .ref bb ∧ v = .non ∧ (∀ i, isInt fv = some i → ¬ (0 ≤ i ∧ i < z)) ∧ Met H bb (Z.c 0) [("value", fv)]) ∨
   (∃ (bb : Addr) (k : Int), c = .ref bb ∧ v = .non ∧ fv = .int k ∧ 0 ≤ k ∧ k < z ∧ (∀ i, isInt lv = some i → ¬ (1 ≤ i ∧ i ≤ most z k)) ∧ Met H bb (Z.c 2) [("value", lv)]) ∨
   ∃ (k l : Int) (t : Addr) (xs : List V), c = .non ∧ fv = .int k ∧ 0 ≤ k ∧ k < z ∧ lv = .int l ∧ 1 ≤ l ∧ l ≤ most z k ∧ v = .ref t ∧ H t = some (.tup xs) ∧ (xs.length : Int) = l)
theorem or_no {fv : V} {lo hi : Int} {F : Bool → Prop} (h : ∀ i, isInt fv = some i → ¬ (lo ≤ i ∧ i ≤ hi)) (k : F false) : (∃ i, isInt fv = some i ∧ ∃ b, V.bl (decide (lo ≤ i) && decide (i ≤ hi)) = V.bl b ∧ F b) ∨ (isInt fv = none ∧ ∃ b, V.bl false = V.bl b ∧ F b) := by
  cases e : isInt fv with
  | none => exact .inr ⟨rfl, false, rfl, k⟩
  | some i => exact .inl ⟨i, rfl, false, congrArg V.bl (bl_not (h i e)), k⟩
def sp_refusals_right (Z : Zs) : Sp := fun vs H Q _ => ∃ (p q R : Addr) (n : Nat) (ps : List Pc) (z : Int) (En : List Ent), vs = [.ref p, .ref q, .int z] ∧ Pot H p n ∧ TabK Z H ∧ MelAt Z.cB H q R ps ∧ n + 10 < 1000000 ∧ PsOk ps ∧ pre ps ps.length ≤ 30 ∧ z = pre ps ps.length ∧ Eqs ps (pre ps ps.length) En ∧
  ∀ n' H', n' ≤ n + 10 → Pot H' p n' → TabK Z H' → KeepN p H H' → Q (.bl true) H'
section
variable {P : Program} {w : World} {K : PySem.W.Frag} {mg : Str → Option Value} {base : Heap} {Z : Zs}
theorem ok_l_refusals_right (T : Txt K mg Z) (TB : TabB base mg Z.c_l_refusals_right Z.t_l_refusals_right) : GOk P w K mg base CX0 18 Z.f_l_refusals_right Z.d_l_refusals_right ["_law_pot_here", "_law_tune", "_law_size"] (sp_refusals_right Z) := by
  refine okGC T.F_l_refusals_right sc_l_refusals_right (fun vs H Q E h => ?_) (fun A outer s H vs Q E g hr h => ?_)
  · obtain ⟨p, q, R, n, ps, z, En, rfl, _⟩ := h
    rfl
  · obtain ⟨p, q, R, n, ps, z, En, rfl, hp, hT, mel, hn, ok, z30, ez, eq, k⟩ := h
    have sl : sizeLine = 16777216 := sizeLine_eq
    refine ⟨_, (pss_cons (ps_set (i := 3) sc_l_refusals_right.nd rfl (Or.inr rfl) (pe_call (ok_l_of T) (hr.mono (by decide)) rfl T.g_l_of T.k_l_of T.bn_l_of .nil pass0 (pa_cons (pv 0) (pa_cons (pe_lst (pa_cons pe_int (pa_cons (pe_un un_neg pe_int) (pa_cons (pv 2) (pa_cons pe_non (pa_cons pe_bl (pa_cons (pe_op op_sub (pv 2) pe_int) pa_nil))))))) pa_nil))))
      (pss_cons (ps_set (i := 4) sc_l_refusals_right.nd rfl (Or.inr rfl) (pe_call (ok_l_of T) (hr.mono (by decide)) rfl T.g_l_of T.k_l_of T.bn_l_of .nil pass0 (pa_cons (pv 0) (pa_cons (pe_lst (pa_cons pe_int (pa_cons pe_int (pa_cons (pv 2) (pa_cons (pe_op op_add (pv 2) pe_int) (pa_cons pe_int (pa_cons pe_non (pa_cons pe_bl pa_nil)))))))) pa_nil))))
      (pss_cons (ps_asg (pe_callFB (tl := tlA (xRF P w K mg base Z A outer s H E) 14 2 tl0) (runs_A fun pins σ H s I f => runs_0 f) (ok_l_told T) (hr.mono (by decide)) T.bn_l_told pass0 rfl T.g_l_told T.k_l_told (pa_cons (pe_lamB (k := 14) (j := 2) (tl0 := tl0) (T := tabs Z) (nm := nmL) (dp := dpL) (nmI := nmI) (d := true) (t := fun c' σ' E' => tMethB Z.cB "played" (sp_played K Z) (fun _ => tlP P w K mg base 2) E' (tVar 1) (tCons (tLamI (xRF P w K mg base Z A outer s H E) c' (lamN "_law_refusals_right") 2 dpL nmI (tabs Z) ["_law_number"] ["_law_number"] (fun _ => tC (.int 0))) (tCons (tVar 3) (tCons (tVar 4) tNil)))) TB rfl (tabs_mem_l_refusals_right Z) (tabs_one Z) (by rfl) (by rfl) rfl ⟨lamS_by (sc := defScope s_l_refusals_right) (by decide +kernel), fun _ _ _ _ _ => rfl, fun A' outer' s' H' E' f c' σ' hr' R' => pe_methB (tl := fun _ => tlP P w K mg base 2) (fun _ _ _ _ _ f => runs_P f) (pv 1) T.clB ⟨T.a_M_played, T.i_M_played, T.k_M_played⟩ (ok_M_played T) (hr'.mono (by decide)) T.bn_M_played (passes_call (takes_of rfl rfl rfl rfl) (fun _ _ _ _ h => h)) (pa_cons (pe_lamI TB rfl (by rfl) rfl ⟨nscope_by (by decide +kernel), by decide +kernel, fun _ _ _ _ _ us hl => match us, hl with | [_], _ => rfl, fun F f A s H E o s hr => pe_int⟩) (pa_cons (pv 3) (pa_cons (pv 4) pa_nil)))⟩) pa_nil)) (pg_tup rfl (pgs_cons (pg_name (i := 5) sc_l_refusals_right.nd rfl (Or.inl rfl)) (pgs_cons (pg_name (i := 6) sc_l_refusals_right.nd rfl (Or.inl rfl)) pgs_nil))))
      (pss_cons (ps_if (pt_not (pt_val (pe_call (ok_l_is_int T) (hr.mono (by decide)) rfl T.g_l_is_int T.k_l_is_int T.bn_l_is_int .nil pass0 (pa_cons (pv 3) (pa_cons pe_int (pa_cons (pe_op op_sub (pv 2) pe_int) pa_nil)))))) (pss_one (ps_ret (pe_and (pe_callB (r := rIsM K) (id := "isinstance") call_isM (by rfl) T.b_isinstance (by decide +kernel) (pa_cons (pv 5) (pa_cons (pe_glob (v := .ref (Z.c 0)) rfl T.g_NoPlace rfl) pa_nil))) (pe_one (pe_cmpR op_eq (pe_callB (r := rReprD K) (id := "repr") (call_reprS (by exact g) (by exact hr.units)) (by rfl) T.b_repr (by decide +kernel) (pa_cons (show PE _ _ (tMv K "value" (tVar 5)) from pe_mv (pv 5)) pa_nil)) (pe_callB (r := rReprD K) (id := "repr") (call_reprS (by exact g) (by exact hr.units)) (by rfl) T.b_repr (by decide +kernel) (pa_cons (pv 3) pa_nil)) (nomark _)))))) pss_nil)
      (pss_cons (ps_if (pt_not (pt_val (pe_call (ok_l_is_int T) (hr.mono (by decide)) rfl T.g_l_is_int T.k_l_is_int T.bn_l_is_int .nil pass0 (pa_cons (pv 4) (pa_cons pe_int (pa_cons (pe_callB  (call_min2 rfl) (by rfl) T.b_min (by decide +kernel) (pa_cons pe_int (pa_cons (pe_op op_sub (pv 2) (pv 3)) pa_nil))) pa_nil)))))) (pss_one (ps_ret (pe_and (pe_callB (r := rIsM K) (id := "isinstance") call_isM (by rfl) T.b_isinstance (by decide +kernel) (pa_cons (pv 5) (pa_cons (pe_glob (v := .ref (Z.c 2)) rfl T.g_BadLength rfl) pa_nil))) (pe_one (pe_cmpR op_eq (pe_callB (r := rReprD K) (id := "repr") (call_reprS (by exact g) (by exact hr.units)) (by rfl) T.b_repr (by decide +kernel) (pa_cons (show PE _ _ (tMv K "value" (tVar 5)) from pe_mv (pv 5)) pa_nil)) (pe_callB (r := rReprD K) (id := "repr") (call_reprS (by exact g) (by exact hr.units)) (by rfl) T.b_repr (by decide +kernel) (pa_cons (pv 4) pa_nil)) (nomark _)))))) pss_nil)
      (pss_one (ps_ret (pe_and (pe_cmpR op_isN (pv 5) pe_non (nomark _)) (pe_one (pe_cmpR op_eq (pe_callB  call_len (by rfl) T.b_len (by decide +kernel) (pa_cons (pv 6) pa_nil)) (pv 4) (nomark _))))))))))), ?_⟩
    refine ⟨_, rfl, _, rfl, _, rfl, _, rfl, _, _, rfl, rfl, by show 6 ≤ sizeLine; decide, fun a ha => ?_⟩
    have e64 : (100 : Int) < 10 ^ 64 := by decide +kernel
    have p1 : 1 ≤ z := by
      have := pre_lt ok.at_ (j := 0) (i := ps.length) (by have := ok.n1; omega) (Nat.le_refl _)
      rw [pre_zero] at this
      omega
    refine ⟨p, a, n, _, rfl, hp.new ha, by omega, upd_same, (hp.ne ha).symm, Nat.zero_lt_succ _, by show 6 ≤ 1000; decide, fun fv n1 H1 hf hn1 hp1 k1 => ?_⟩
    have kf : Keep p H H1 := (Keep.new Keep.rfl' ha).trans k1
    have ff : ∃ dd, Fl fv dd ∧ Shown dd := by
      simp only [List.mem_cons, List.not_mem_nil, or_false] at hf
      rcases hf with rfl | rfl | rfl | rfl | rfl | rfl
      · exact ⟨_, .int _, shown_i (by decide +kernel) (by decide +kernel)⟩
      · exact ⟨_, .int _, shown_i (by decide +kernel) (by decide +kernel)⟩
      · exact ⟨_, .int _, shown_i (by omega) (by omega)⟩
      · exact ⟨_, .non, shown_menu (by simp [menu])⟩
      · exact ⟨_, .bl _, shown_menu (by simp [menu])⟩
      · exact ⟨_, .int _, shown_i (by omega) (by omega)⟩
    clear hf k1
    refine ⟨_, rfl, _, rfl, _, rfl, _, _, rfl, rfl, by show 7 ≤ sizeLine; decide, fun a2 ha2 => ?_⟩
    refine ⟨p, a2, n1, _, rfl, hp1.new ha2, by omega, upd_same, (hp1.ne ha2).symm, Nat.zero_lt_succ _, by show 7 ≤ 1000; decide, fun lv n2 H2 hl hn2 hp2 k2 => ?_⟩
    have kl : Keep p H H2 := kf.trans ((Keep.new Keep.rfl' ha2).trans k2)
    have fl : ∃ dd, Fl lv dd ∧ Shown dd := by
      simp only [List.mem_cons, List.not_mem_nil, or_false] at hl
      rcases hl with rfl | rfl | rfl | rfl | rfl | rfl | rfl
      · exact ⟨_, .int _, shown_i (by decide +kernel) (by decide +kernel)⟩
      · exact ⟨_, .int _, shown_i (by decide +kernel) (by decide +kernel)⟩
      · exact ⟨_, .int _, shown_i (by omega) (by omega)⟩
      · exact ⟨_, .int _, shown_i (by omega) (by omega)⟩
      · exact ⟨_, .int _, shown_i (by decide +kernel) (by decide +kernel)⟩
      · exact ⟨_, .non, shown_menu (by simp [menu])⟩
      · exact ⟨_, .bl _, shown_menu (by simp [menu])⟩
    clear hl k2 kf
    obtain ⟨o0, hp0⟩ := pot_lst hp
    obtain ⟨o, hpo⟩ := pot_lst hp2
    have T2 := hT.keep kl hp0
    have mel2 := mel.keep kl hp0
    obtain ⟨df, fdf, shf⟩ := ff
    obtain ⟨dl, fdl, shl⟩ := fl
    have isF : ∀ H, IsI K H fv (isInt fv) := fun H => (Odd.fl (p := p) fdf).isI
    have isL : ∀ H, IsI K H lv (isInt lv) := fun H => (Odd.fl (p := p) fdl).isI
    have X0 := T.ex 0 (by decide)
    have X2 := T.ex 2 (by decide)
    have Te := T.ex 4 (by decide)
    refine ⟨T2, fun lf H7 e7 T7 _ ⟨as, bd, sc, c2, good, at7, co7, ck⟩ => ?_⟩
    have hp7 := e7 _ _ hpo fun _ z => nomatch z
    have mel7 := mel2.extN e7
    refine ⟨lf, rfl, Ref Z p H7 z fv lv, fun c f Hb gw y hy => ?rest, fun Ha sa => ?look⟩
    case look =>
      have mela := mel7.same sa
      obtain ⟨dx, S', A', tr', m⟩ := id mela
      refine ⟨rfl, _, as, bd, sc, c2, good, sa _ _ at7, co7.imp (sa _ _) (fun ⟨P, e⟩ => ⟨P, sa _ _ e⟩), ?_⟩
      refine ⟨_, rfl, q, dx, _, rfl, m.ins, ?nope, ?_⟩
      case nope => rw [mfs_lookup, if_neg (by decide +kernel), if_neg (by decide +kernel), if_neg (by decide +kernel), if_neg (by decide +kernel), if_neg (by decide +kernel)]
      refine ⟨T7.ext sa, ck.by_ fun b o h _ => sa _ _ h, fun g' Hq eq' Tq _ LP => ⟨_, rfl, _, rfl, ?_⟩⟩
      have kq : KeepN p H7 Hq := fun b o _ h nt => eq' _ _ (sa _ _ h) nt
      have hpq := eq' _ _ (sa _ _ hp7) fun _ z => nomatch z
      refine ⟨q, R, g', ps, fv, lv, rfl, mela.extN eq', ok, ?_⟩
      by_cases cf : ∃ k, fv = .int k ∧ 0 ≤ k ∧ k < z
      · obtain ⟨k, rfl, k0, k1⟩ := cf
        by_cases cl : ∃ l, lv = .int l ∧ 1 ≤ l ∧ l ≤ most z k
        · obtain ⟨l, rfl, l1, l2⟩ := cl
          obtain ⟨due, hD⟩ := due_ex ((En.drop k.toNat).take l.toNat)
          refine .inr (.inr ⟨k, l, En, p, fun _ => o, due, fun _ => .int 0, fun _ => some 0, rfl, rfl, k0, by omega, l1, by rw [← ez]; exact l2, by omega, eq, hD, ⟨hpq, fun i d Hr Q1 hd ha1 kp1 kk => ?_⟩, .inl ⟨fun _ => 0, fun _ _ => rfl, fun t H' _ ha' kp' ht => ?_⟩⟩)
          · refine LamAtP.tl (LP.by_ fun b u h nl nt => kp1 _ _ (fun y => by rw [y, hpq] at h; exact nl _ (Option.some.inj h).symm) h) rfl ?_
            exact kk Hr ha1 Keep.rfl' (.int 0)
          · refine ⟨o, hp7, kq.then (KeepN.of kp'), ha', Tq.keep kp' hpq, .inr (.inr ⟨k, l, t, _, rfl, rfl, k0, k1, rfl, l1, l2, rfl, ht, ?_⟩)⟩
            have := eq.len
            have l2' := l2
            unfold most at l2'
            rw [List.length_map, List.length_take, List.length_drop]
            split at l2' <;> omega
        · have bad : ∀ i, isInt lv = some i → ¬ (1 ≤ i ∧ i ≤ most z k) := fun i e ⟨a, b⟩ => cl ⟨i, isInt_some e, a, b⟩
          exact .inr (.inl ⟨k, isInt lv, rfl, k0, by omega, isL _, by rw [← ez]; exact bad, Out.met (G := fun c Hc => Ref Z p H7 z (.int k) lv c .non Hc) X2 Te fun bb Hc sc mt => ⟨o, hp7, kq.then (KeepN.of (Keep.of sc)), sc _ _ hpq, Tq.ext sc, .inr (.inl ⟨bb, k, rfl, rfl, rfl, k0, k1, bad, mt⟩)⟩⟩)
      · have bad : ∀ i, isInt fv = some i → ¬ (0 ≤ i ∧ i < z) := fun i e ⟨a, b⟩ => cf ⟨i, isInt_some e, a, b⟩
        exact .inl ⟨isInt fv, isF _, by rw [← ez]; exact bad, Out.met (G := fun c Hc => Ref Z p H7 z fv lv c .non Hc) X0 Te fun bb Hc sc mt => ⟨o, hp7, kq.then (KeepN.of (Keep.of sc)), sc _ _ hpq, Tq.ext sc, .inl ⟨bb, rfl, rfl, bad, mt⟩⟩⟩
    case rest =>
      obtain ⟨o', hp7', kb, hpb, Tb, res⟩ := gw
      refine ⟨y, _, rfl, SqT.of upd_same, rfl, _, _, rfl, _, _, rfl, rfl, ?_⟩
      have sby := Same.new (o := .tup [c, f]) (Same.refl Hb) hy
      generalize upd Hb y (.tup [c, f]) = Hc at sby ⊢
      have potc : Pot Hc p n2 := by
        obtain ⟨own, mix, h, r⟩ := hp2
        have h7 := e7 _ _ h fun _ z => nomatch z
        rw [h7] at hp7'
        cases hp7'
        exact ⟨own, mix, sby _ _ hpb, r⟩
      have fin : Q (.bl true) Hc := k n2 Hc (by omega) potc (Tb.ext sby) fun b o np e nt => sby _ _ (kb b o np (e7 _ _ (kl _ _ np e) nt) nt)
      rcases res with ⟨bb, rfl, rfl, bad, mt⟩ | ⟨bb, j, rfl, rfl, rfl, j0, j1, bad, mt⟩ | ⟨j, l, t, xs, rfl, rfl, j0, j1, rfl, l1, l2, rfl, ht, lx⟩
      · have mt := mt.same sby
        refine ⟨_, rfl, _, rfl, _, _, rfl, rfl, fv, isInt fv, 0, _, rfl, isF _, or_no (fun i e y => bad i e ⟨y.1, by have := y.2; omega⟩) (iteT ?_)⟩
        refine ⟨_, rfl, bb, Z.c 0, _, .ref (Z.c 0), .ref (Z.c 0), true, true, rfl, mt, X0.ec, X0.selfC, .own _, X0.self, true, rfl, iteT ?_⟩
        refine ⟨_, rfl, bb, Z.c 0, _, fv, rfl, mt, X0.xf, X0.nv, rfl, fv, df, rfl, .one (Odd.fl (p := p) fdf).dp, shf.ok, shf.dep, shf.len, ?_⟩
        refine ⟨_, rfl, fv, df, rfl, .one (Odd.fl (p := p) fdf).dp, shf.ok, shf.dep, shf.len, rfl, ?_⟩
        rw [decide_eq_true rfl]
        exact fin
      · have mt := mt.same sby
        refine ⟨_, rfl, _, rfl, _, _, rfl, rfl, .int j, some j, 0, _, rfl, .int j, .inl ⟨j, rfl, true, congrArg V.bl (bl_yes ⟨j0, by omega⟩), iteF ?_⟩⟩
        refine ⟨_, rfl, _, rfl, _, rfl, _, _, rfl, rfl, _, _, rfl, lv, isInt lv, 1, most z j, rfl, isL _, or_no (fun i e y => bad i e ⟨y.1, y.2⟩) (iteT ?_)⟩
        refine ⟨_, rfl, bb, Z.c 2, _, .ref (Z.c 2), .ref (Z.c 2), true, true, rfl, mt, X2.ec, X2.selfC, .own _, X2.self, true, rfl, iteT ?_⟩
        refine ⟨_, rfl, bb, Z.c 2, _, lv, rfl, mt, X2.xf, X2.nv, rfl, lv, dl, rfl, .one (Odd.fl (p := p) fdl).dp, shl.ok, shl.dep, shl.len, ?_⟩
        refine ⟨_, rfl, lv, dl, rfl, .one (Odd.fl (p := p) fdl).dp, shl.ok, shl.dep, shl.len, rfl, ?_⟩
        rw [decide_eq_true rfl]
        exact fin
      · refine ⟨_, rfl, _, rfl, _, _, rfl, rfl, .int j, some j, 0, _, rfl, .int j, .inl ⟨j, rfl, true, congrArg V.bl (bl_yes ⟨j0, by omega⟩), iteF ?_⟩⟩
        refine ⟨_, rfl, _, rfl, _, rfl, _, _, rfl, rfl, _, _, rfl, .int l, some l, 1, most z j, rfl, .int l, .inl ⟨l, rfl, true, congrArg V.bl (bl_yes ⟨l1, l2⟩), iteF ?_⟩⟩
        refine ⟨_, rfl, rfl, true, rfl, iteT ⟨_, rfl, _, _, rfl, .inr ⟨_, SqT.of (sby _ _ ht), rfl⟩, _, rfl, ?_⟩⟩
        rw [lx]
        refine ⟨rfl, ?_⟩
        show Q (.bl (decide (V.int l = V.int l))) Hc
        rw [decide_eq_true rfl]
        exact fin
end
end TT

set_option maxHeartbeats 4000000
namespace TT
open PySem PySem.Spec PyProof.Rows L2 LamX NdefX
/-! ### the law's own check -/
theorem seq_via {c : TT} {a a' b : TS} {D : _} {σ : L2.St} {H : Hp} (C : L2.St → Hp → Prop) (h : (∀ σ H, C σ H → b D σ H) → tSeq (tIfS c a a') b D σ H) (k : ∀ σ H, C σ H → b D σ H) : tSeq (tIfS c a a') b D σ H := h k
theorem name_via {c : TT} {a a' b : TS} {D : Ends} {rt : VK} {bk ct : L2.St → Hp → Prop} {i : Nat} {v : V} {σ : L2.St} {H : Hp} (C : L2.St → Hp → Prop) (h : (∀ σ H, C σ H → b D σ H) → gName i v σ H (Ends.nx { nx := tSeq (tIfS c a a') b D, rt := rt, bk := bk, ct := ct })) (k : ∀ σ H, C σ H → b D σ H) : gName i v σ H (Ends.nx { nx := tSeq (tIfS c a a') b D, rt := rt, bk := bk, ct := ct }) := h k
abbrev xR (P : Program) (w : World) (K : PySem.W.Frag) (mg : Str → Option Value) (base : Heap) (Z : Zs) (A : Around) (outer : List Env) (s : Shared) (H : Hp) (E : XK) : Cx := (cxOf CX0 P w K mg base ["_law_pot_here", "_law_pieces_here", "_law_tune", "_law_shown_here", "_law_notes", "_law_others", "_law_wide", "_law_gone", "_law_caught", "_law_number", "_law_own", "_law_lap"] "_law_right" (defScope s_l_right) Z.f_l_right (.ref Z.c_l_right) A outer s H E).nox
def rLenQ (K : PySem.W.Frag) : List V → Hp → VK → Prop := fun xs H Q => ∃ x n, xs = [x] ∧ LenV K x H n ∧ Q (.int n) H
def sp_l_right (Z : Zs) : Sp := fun vs H Q _ => ∃ (p : Addr) (n : Nat), vs = [.ref p] ∧ Pot H p n ∧ n + 500 < 1000000 ∧ TabK Z H ∧ ∀ (n' : Nat) (H' : Hp), n' ≤ n + 500 → Pot H' p n' → TabK Z H' → KeepN p H H' → Q (.bl true) H'
theorem Band.keepN {Z : Zs} {p q R x b : Addr} {ps : List Pc} {En : List Ent} {xs ns : List V} {n n' : Nat} {H H' : Hp} (B : Band Z p q R x b ps En xs ns n H) (k : KeepN p H H') (hp' : Pot H' p n') (t : TabK Z H') : Band Z p q R x b ps En xs ns n' H' := by
  obtain ⟨o, ho⟩ := pot_lst B.hp
  have off : ∀ {b u}, (∀ xs, u ≠ HO.lst xs) → H b = some u → b ≠ p := fun nl e z => by
    rw [z, ho] at e
    exact nl o (Option.some.inj e).symm
  exact ⟨hp', t, B.mel.move fun b u nl nt e => k _ _ (off nl e) e nt, k _ _ B.xp B.hx (fun _ z => nomatch z), Paired.imp (fun _ _ ⟨q, e, u⟩ => ⟨q, e, k _ _ (ne_of u ho fun z => nomatch z) u (fun _ z => nomatch z)⟩) B.ents, k _ _ B.bp B.hb (fun _ z => nomatch z), fun v hv => let ⟨d, o, r⟩ := B.notes v hv; ⟨d, ExtN.keep (fun b u np e nt => k b u np e nt) o, r⟩, B.xp, B.bp⟩
theorem note_int {p : Addr} {H : Hp} {v : Int} (h0 : -(10 ^ 12) ≤ v) (h1 : v ≤ 10 ^ 12) : NoteV p H (.int v) := by
  have e64 : (10 : Int) ^ 12 < 10 ^ 64 := by decide +kernel
  exact ⟨_, .fl (.int v), shown_i (by omega) (by omega), fun i e => by cases e; exact ⟨h0, h1⟩⟩
/-- the melody of 120 new places -/
theorem wide_ok : PsOk [Pc.new 120] := ⟨fun i p h => by
  cases i with
  | zero => cases h; show (1 : Int) ≤ 120; decide
  | succ i => simp at h, by decide, by decide, by decide +kernel⟩
def wideE : List Ent := (List.range 120).map fun i : Nat => Ent.rel false (i : Int) 0
theorem wide_eqs : Eqs [Pc.new 120] (pre [Pc.new 120] 1) wideE := by
  have e : pre [Pc.new 120] 1 = 120 := by decide +kernel
  refine ⟨by rw [e]; unfold wideE; rw [List.length_map, List.length_range] <;> rfl, fun i p j hp j0 j1 _ => ?_⟩
  cases i with
  | succ i => simp at hp
  | zero =>
    cases hp
    have j1' : j < 120 := j1
    show wideE[(pre [Pc.new 120] 0 + j).toNat]? = some (.rel false (aheadN [Pc.new 120] 0 + j) 0)
    rw [pre_zero, ahead_zero, Int.zero_add]
    unfold wideE
    rw [List.getElem?_map, List.getElem?_range (by omega)]
    show some (Ent.rel false ((j.toNat : Nat) : Int) 0) = some (Ent.rel false j 0)
    rw [Int.toNat_of_nonneg j0]
/-- the numbers from a on -/
def runI (a : Int) (n : Nat) : List Int := (List.range n).map fun i : Nat => a + (i : Int)
theorem runI_up (a : Int) (n : Nat) : (runI a n).Pairwise (· < ·) := by
  unfold runI
  rw [List.pairwise_map]
  exact List.pairwise_lt_range.imp fun h => by omega
theorem runI_at {a : Int} {n i : Nat} {d : Int} (h : (runI a n)[i]? = some d) : i < n ∧ d = a + (i : Int) := by
  unfold runI at h
  rw [List.getElem?_map] at h
  obtain ⟨j, h1, h2⟩ := Option.map_eq_some_iff.mp h
  have hl := (List.getElem?_eq_some_iff.mp h1).1
  rw [List.length_range] at hl
  rw [List.getElem?_range hl] at h1
  obtain rfl := Option.some.inj h1
  exact ⟨hl, h2.symm⟩
theorem wide_part {a : Int} (a0 : 0 ≤ a) (a1 : a < 20) : (wideE.drop a.toNat).take (99 : Int).toNat = (runI a 99).map fun d => Ent.rel false d 0 := by
  refine List.ext_getElem? fun i => ?_
  unfold wideE runI
  rw [List.getElem?_take, List.getElem?_map, List.getElem?_map]
  by_cases c : i < 99
  · rw [if_pos (by show i < 99; exact c), List.getElem?_drop, List.getElem?_map, List.getElem?_range (by omega), List.getElem?_range c]
    show some (Ent.rel false ((a.toNat + i : Nat) : Int) 0) = some (Ent.rel false (a + (i : Int)) 0)
    rw [show ((a.toNat + i : Nat) : Int) = a + (i : Int) by omega]
  · rw [if_neg (by show ¬ i < 99; exact c), List.getElem?_eq_none (by rw [List.length_range]; omega)]
    rfl
theorem wide_due {a : Int} (a0 : 0 ≤ a) (a1 : a < 20) : Due ((wideE.drop a.toNat).take (99 : Int).toNat) (runI a 99) := by
  rw [wide_part a0 a1]
  exact ⟨runI_up a 99, fun k => ⟨fun h => ⟨false, 0, List.mem_map.mpr ⟨k, h, rfl⟩⟩, fun ⟨d, c, h⟩ => by
    obtain ⟨j, hj, e⟩ := List.mem_map.mp h
    cases e
    exact hj⟩⟩
theorem eqv_tup : ∀ ns : List Int, PyData.eqv (.tuple (ns.map PyData.int)) (.tuple (ns.map PyData.int)) = true := fun ns => by
  simp only [PyData.eqv]
  induction ns with
  | nil => simp [PyData.eqvAll]
  | cons n ns ih => simp [PyData.eqvAll, PyData.eqv, ih]
theorem shaped_tup (ns : List Int) : SeqAt.shaped (.tuple (ns.map PyData.int)) = true := by
  have := ints_shaped ns
  unfold SeqAt.shaped at this ⊢
  simp only [PyData.canLay0, PyData.depth] at this ⊢
  exact this
theorem wide_notes {a : Int} (a0 : 0 ≤ a) (a1 : a < 20) : (((wideE.drop a.toNat).take (99 : Int).toNat).map fun e => V.int (noteOf (fun d => d * 2) e)) = ((runI a 99).map fun d => 2 * d).map V.int := by
  rw [wide_part a0 a1, List.map_map, List.map_map]
  refine List.map_congr_left fun d _ => ?_
  show V.int (ledI 0 false (d * 2)) = V.int (2 * d)
  unfold ledI
  rw [if_neg (by decide)]
  congr 1
  omega
section
variable {P : Program} {w : World} {K : PySem.W.Frag} {mg : Str → Option Value} {base : Heap} {Z : Zs}
theorem ok_l_right (T : Txt K mg Z) (TB_l_played_right : TabB base mg Z.c_l_played_right Z.t_l_played_right) (TB_l_refusals_right : TabB base mg Z.c_l_refusals_right Z.t_l_refusals_right) (TB : TabB base mg Z.c_l_right Z.t_l_right) : GOk P w K mg base CX0 22 Z.f_l_right Z.d_l_right ["_law_pot_here"] (sp_l_right Z) := by
  refine okGC T.F_l_right sc_l_right (fun vs H Q E h => ?_) (fun A outer s H vs Q E g hr h => ?_)
  · obtain ⟨p, n, rfl, _⟩ := h
    rfl
  · obtain ⟨p, n, rfl, hp, hn, hT, k⟩ := h
    have sl : sizeLine = 16777216 := sizeLine_eq
    refine ⟨_, (pss_cons (ps_set (i := 1) sc_l_right.nd rfl (Or.inl rfl) (pe_call (ok_l_pieces T) (hr.mono (by decide)) rfl T.g_l_pieces T.k_l_pieces T.bn_l_pieces .nil pass0 (pa_cons (pv 0) (pa_cons pe_int pa_nil))))
      (pss_cons (ps_asg (pe_tup (pa_cons (pe_make (mkM T) (ok_M_init T) (hr.mono (by decide)) rfl T.g_Bk T.bn_M_init .nil pass0 (pa_cons (pv 1) pa_nil)) (pa_cons (pe_call (ok_l_shown T) (hr.mono (by decide)) rfl T.g_l_shown T.k_l_shown T.bn_l_shown .nil pass0 (pa_cons (pv 1) pa_nil)) pa_nil))) (pg_tup rfl (pgs_cons (pg_name (i := 2) sc_l_right.nd rfl (Or.inr rfl)) (pgs_cons (pg_name (i := 3) sc_l_right.nd rfl (Or.inr rfl)) pgs_nil))))
      (pss_cons (ps_setLc (i := 4) (own := [("_law_number", 9)]) rfl sc_l_right.nd rfl rfl (sw_true rfl rfl rfl (by decide +kernel)) (pi_range1 rfl T.b_range (pa_cons (pe_fld (pv 2) rfl) pa_nil)) (blkOk_by (own := [("_law_number", 9)]) (N := ["_law_pot_here", "_law_pieces_here", "_law_tune", "_law_shown_here", "_law_notes", "_law_others", "_law_wide", "_law_gone", "_law_caught", "_law_number", "_law_own", "_law_lap"]) (sc := defScope s_l_right) (by decide +kernel)) (fun _ _ _ _ _ => (pg_name (i := 9) sc_l_right.nd rfl (Or.inl rfl))) (fun _ _ _ _ _ => pts_nil) (fun _ _ _ _ _ => (pe_call (ok_l_amount T) (hr.mono (by decide)) rfl T.g_l_amount T.k_l_amount T.bn_l_amount .nil pass0 (pa_cons (pv 0) pa_nil))))
      (pss_cons (ps_if (PW.pt (pw_and (pt_cmpR (op_neD (by exact hr.units)) (pv 4) (pe_lst pa_nil) (nomark _)) (pw_and1 (pt_cmpR op_eq (pe_call (ok_l_take T) (hr.mono (by decide)) rfl T.g_l_take T.k_l_take T.bn_l_take .nil pass0 (pa_cons (pv 0) (pa_cons pe_int pa_nil))) pe_int (nomark _))))) (pss_one (ps_asg (pe_call (ok_l_of T) (hr.mono (by decide)) rfl T.g_l_of T.k_l_of T.bn_l_of .nil pass0 (pa_cons (pv 0) (pa_cons (pe_lst (pa_cons pe_non (pa_cons pe_bl (pa_cons pe_str (pa_cons (pe_tup (pa_cons pe_int pa_nil)) pa_nil))))) pa_nil))) (pg_sub (pv 4) (pe_call (ok_l_take T) (hr.mono (by decide)) rfl T.g_l_take T.k_l_take T.bn_l_take .nil pass0 (pa_cons (pv 0) (pa_cons (pe_callB  call_len (by rfl) T.b_len (by decide +kernel) (pa_cons (pv 4) pa_nil)) pa_nil))) set_list))) pss_nil)
      (pss_cons (ps_setLc (i := 5) (own := [("_law_number", 9)]) rfl sc_l_right.nd rfl rfl (sw_true rfl rfl rfl (by decide +kernel)) (pi_range1 rfl T.b_range (pa_cons (pe_fld (pv 2) rfl) pa_nil)) (blkOk_by (own := [("_law_number", 9)]) (N := ["_law_pot_here", "_law_pieces_here", "_law_tune", "_law_shown_here", "_law_notes", "_law_others", "_law_wide", "_law_gone", "_law_caught", "_law_number", "_law_own", "_law_lap"]) (sc := defScope s_l_right) (by decide +kernel)) (fun _ _ _ _ _ => (pg_name (i := 9) sc_l_right.nd rfl (Or.inl rfl))) (fun _ _ _ _ _ => pts_nil) (fun _ _ _ _ _ => (pe_call (ok_l_amount T) (hr.mono (by decide)) rfl T.g_l_amount T.k_l_amount T.bn_l_amount .nil pass0 (pa_cons (pv 0) pa_nil))))
      (pss_cons (ps_if (pt_not (pt_val (pe_callB  (cr_all rfl) (by rfl) T.b_all (by decide +kernel) (pa_cons (pe_lc (own := [("_law_own", 10)]) rfl sc_l_right.nd (pi_tup (pe_tup (pa_cons (pv 4) (pa_cons (pv 4) (pa_cons (pv 5) (pa_cons (pv 4) (pa_cons (pv 5) pa_nil))))))) (blkOk_by (own := [("_law_own", 10)]) (N := ["_law_pot_here", "_law_pieces_here", "_law_tune", "_law_shown_here", "_law_notes", "_law_others", "_law_wide", "_law_gone", "_law_caught", "_law_number", "_law_own", "_law_lap"]) (sc := defScope s_l_right) (by decide +kernel)) (fun _ _ _ _ _ => (pg_name (i := 10) sc_l_right.nd rfl (Or.inl rfl))) (fun _ _ _ _ _ => pts_nil) (fun _ _ _ _ _ => (pe_callG (ok_l_played_right T TB_l_played_right) (by exact g) (hr.mono (by decide)) rfl T.g_l_played_right T.k_l_played_right T.bn_l_played_right .nil pass0 (pa_cons (pv 0) (pa_cons (pv 2) (pa_cons (pv 3) (pa_cons (pv 10) pa_nil))))))) pa_nil)))) (pss_one (ps_ret pe_bl)) pss_nil)
      (pss_cons (ps_if (pt_not (pt_val (pe_callB  (cr_all rfl) (by rfl) T.b_all (by decide +kernel) (pa_cons (pe_lc (own := [("_law_lap", 11)]) rfl sc_l_right.nd (pi_range1 rfl T.b_range (pa_cons pe_int pa_nil)) (blkOk_by (own := [("_law_lap", 11)]) (N := ["_law_pot_here", "_law_pieces_here", "_law_tune", "_law_shown_here", "_law_notes", "_law_others", "_law_wide", "_law_gone", "_law_caught", "_law_number", "_law_own", "_law_lap"]) (sc := defScope s_l_right) (by decide +kernel)) (fun _ _ _ _ _ => (pg_name (i := 11) sc_l_right.nd rfl (Or.inl rfl))) (fun _ _ _ _ _ => pts_nil) (fun _ _ _ _ _ => (pe_callG (ok_l_refusals_right T TB_l_refusals_right) (by exact g) (hr.mono (by decide)) rfl T.g_l_refusals_right T.k_l_refusals_right T.bn_l_refusals_right .nil pass0 (pa_cons (pv 0) (pa_cons (pv 2) (pa_cons (pe_callB (r := rLenQ K) (id := "len") call_len (by rfl) T.b_len (by decide +kernel) (pa_cons (pv 3) pa_nil)) pa_nil)))))) pa_nil)))) (pss_one (ps_ret pe_bl)) pss_nil)
      (pss_cons (ps_asg (pe_tup (pa_cons (pe_make (mkM T) (ok_M_init T) (hr.mono (by decide)) rfl T.g_Bk T.bn_M_init .nil pass0 (pa_cons (pe_tup (pa_cons (pe_tup (pa_cons pe_str (pa_cons pe_int pa_nil))) pa_nil)) pa_nil)) (pa_cons (pe_call (ok_l_take T) (hr.mono (by decide)) rfl T.g_l_take T.k_l_take T.bn_l_take .nil pass0 (pa_cons (pv 0) (pa_cons pe_int pa_nil))) pa_nil))) (pg_tup rfl (pgs_cons (pg_name (i := 6) sc_l_right.nd rfl (Or.inr rfl)) (pgs_cons (pg_name (i := 7) sc_l_right.nd rfl (Or.inr rfl)) pgs_nil))))
      (pss_cons (ps_if (pt_cmpR (op_neD (by exact hr.units)) (pe_methB (E := E0) (tl := fun _ => tlP P w K mg base 2) (fun _ _ _ _ _ f => runs_P f) (pv 6) T.clB ⟨T.a_M_played, T.i_M_played, T.k_M_played⟩ (ok_M_played T) (hr.mono (by decide)) T.bn_M_played passF (pa_cons (pe_lamP (k := 2) (T := tabs Z) (nm := nmL) (dp := dpL) (nmI := nmI) (N := ["_law_number"]) (ps := ["_law_number"]) (t := fun _ => tOp (rI CMul fun i j => V.int (i * j)) (tVar 0) (tC (.int 2))) TB rfl (tabs_mem_l_right Z) (tabs_one Z) (by rfl) (by rfl) rfl ⟨nscope_by (by decide +kernel), by decide +kernel, fun _ _ _ _ _ us hl => match us, hl with | [_], _ => rfl, fun F f A s H E o es hr => pe_op op_mul (pe_var (i := 0) rfl (Or.inl (show F.scope.names.lookup ("_law_number" : Str) = some NameKind.local by rw [es]; rfl))) pe_int⟩) (pa_cons (pv 7) (pa_cons pe_int pa_nil)))) (pe_callTy call_tuple_of (by rfl) T.b_tuple (by decide +kernel) (pa_cons (pe_lc (own := [("_law_number", 9)]) rfl sc_l_right.nd (pi_range2 rfl T.b_range (pa_cons (pv 7) (pa_cons (pe_op op_add (pv 7) pe_int) pa_nil))) (blkOk_by (own := [("_law_number", 9)]) (N := ["_law_pot_here", "_law_pieces_here", "_law_tune", "_law_shown_here", "_law_notes", "_law_others", "_law_wide", "_law_gone", "_law_caught", "_law_number", "_law_own", "_law_lap"]) (sc := defScope s_l_right) (by decide +kernel)) (fun _ _ _ _ _ => (pg_name (i := 9) sc_l_right.nd rfl (Or.inl rfl))) (fun _ _ _ _ _ => pts_nil) (fun _ _ _ _ _ => (pe_op op_mul pe_int (pv 9)))) pa_nil)) (nomark _)) (pss_one (ps_ret pe_bl)) pss_nil)
      (pss_cons (ps_set (i := 8) sc_l_right.nd rfl (Or.inl rfl) (pe_ix ix_tup (pe_callFB (tl := tlA (xR P w K mg base Z A outer s H E) 14 2 tl0) (runs_A fun pins σ H s I f => runs_0 f) (ok_l_told T) (hr.mono (by decide)) T.bn_l_told pass0 rfl T.g_l_told T.k_l_told (pa_cons (pe_lamB (k := 14) (j := 2) (tl0 := tl0) (T := tabs Z) (nm := nmL) (dp := dpL) (nmI := nmI) (d := true) (t := fun c' σ' E' => tMethB Z.cB "played" (sp_played K Z) (fun _ => tlP P w K mg base 2) E' (tVar 6) (tCons (tLamI (xR P w K mg base Z A outer s H E) c' (lamN "_law_right") 2 dpL nmI (tabs Z) ["_law_number"] ["_law_number"] (fun _ => tC (.int 0))) (tCons (tVar 7) (tCons (tC (.int 100)) tNil)))) TB rfl (tabs_mem_l_right Z) (tabs_one Z) (by rfl) (by rfl) rfl ⟨lamS_by (sc := defScope s_l_right) (by decide +kernel), fun _ _ _ _ _ => rfl, fun A' outer' s' H' E' f c' σ' hr' R' => pe_methB (tl := fun _ => tlP P w K mg base 2) (fun _ _ _ _ _ f => runs_P f) (pv 6) T.clB ⟨T.a_M_played, T.i_M_played, T.k_M_played⟩ (ok_M_played T) (hr'.mono (by decide)) T.bn_M_played (passes_call (takes_of rfl rfl rfl rfl) (fun _ _ _ _ h => h)) (pa_cons (pe_lamI TB rfl (by rfl) rfl ⟨nscope_by (by decide +kernel), by decide +kernel, fun _ _ _ _ _ us hl => match us, hl with | [_], _ => rfl, fun F f A s H E o s hr => pe_int⟩) (pa_cons (pv 7) (pa_cons pe_int pa_nil)))⟩) pa_nil)) pe_int (fun _ _ => rfl)))
      (pss_one (ps_ret (pe_and (pe_callB (r := rIsM K) (id := "isinstance") call_isM (by rfl) T.b_isinstance (by decide +kernel) (pa_cons (pv 8) (pa_cons (pe_glob (v := .ref (Z.c 2)) rfl T.g_BadLength rfl) pa_nil))) (pe_one (pe_cmpR op_eq (show PE _ _ (tMv K "value" (tVar 8)) from pe_mv (pv 8)) pe_int (nomark _)))))))))))))))), ?_⟩
    -- a melody, what it shows
    refine ⟨_, rfl, p, n, 24, rfl, hp, by omega, by decide, by decide, fun ps R tr n1 H1 ok l7 z24 hR hps hn1 hp1 k1 => ?_⟩
    obtain ⟨o0, hpo⟩ := pot_lst hp
    have hT1 := hT.keep k1 hpo
    refine ⟨_, rfl, fun q dx nq ndx ne => ⟨q, dx, R, tr, ps, rfl, ?_⟩⟩
    have s1 := Same.new (o := .own q) (Same.refl H1) ndx
    have nq1 : upd H1 dx (.own q) q = none := by rw [upd_ne ne.symm]; exact nq
    have s2 := Same.new (o := .ins Z.cB dx []) s1 nq1
    refine ⟨s2 _ _ hR, hps.same s2, ok, upd_same, fun H2 mel kp2 => ⟨rfl, ?_⟩⟩
    have s12 : Same H1 H2 := fun b o e => by
      have nb : b ≠ q := ne_of_none e nq
      exact kp2 _ _ nb (by rw [upd_ne nb]; exact s1 _ _ e)
    clear s1 s2 nq1 kp2 nq ndx ne
    refine ⟨_, rfl, R, tr, ps, rfl, s12 _ _ hR, hps.same s12, ok, by omega, fun x En xs H3 nx s23 hx hes eq => ?_⟩
    refine ⟨by show 2 ≤ sizeLine; decide, fun u hu => ⟨u, _, rfl, SqT.of upd_same, rfl, _, _, rfl, _, _, rfl, rfl, ?_⟩⟩
    have s34 := Same.new (o := .tup [.ref q, .ref x]) (Same.refl H3) hu
    generalize upd H3 u (.tup [.ref q, .ref x]) = H4 at s34 ⊢
    have s14 := (s12.trans s23).trans s34
    have xp : x ≠ p := fun z => by
      rw [z] at nx
      exact (hp1.same s12).ne nx rfl
    have hp4 := hp1.same s14
    have hT4 := hT1.ext s14
    have mel4 := mel.same (s23.trans s34)
    have hx4 := s34 _ _ hx
    have hes4 := hes.same s34
    have KN4 : KeepN p H H4 := KeepN.of (k1.same s14)
    clear s34 hu s23 s12 hps hR hx hes nx mel s14 hp1 hT1 k1
    have al := ahead_le ok.at_ (Nat.le_refl ps.length)
    -- notes for its new places
    obtain ⟨dx, S, A', tr', m⟩ := id mel4
    refine ⟨_, rfl, q, _, dx, _, _, rfl, m.ins, T.clB, T.nB_new, mfs_new _ _ _ _ _, _, rfl, by omega, by omega, fun D hD => ?_⟩
    have pD : p ≠ D := hp4.ne hD
    obtain ⟨o4, hpo4⟩ := pot_lst hp4
    refine lc_range (n := (aheadN ps ps.length).toNat) (fun i H' => ∃ (n' : Nat) (vs : List Int), H' D = some (.lst (vs.map V.int)) ∧ vs.length = i ∧ (∀ v ∈ vs, -(10 ^ 12) ≤ v ∧ v ≤ 10 ^ 12) ∧ n' ≤ n1 + 2 * i ∧ Pot H' p n' ∧ Keep p H4 H') ⟨n1, [], upd_same, rfl, (fun _ z => absurd z List.not_mem_nil), by omega, hp4.new hD, Keep.new Keep.rfl' hD⟩ ?_ ?_
    · rintro i H5 hi ⟨n', vs, hD5, lv, bv, hn', hp5, k5⟩
      refine ⟨rfl, ?_⟩
      unfold tYes
      refine iteT ⟨_, rfl, p, n', rfl, hp5, by omega, fun v n2 H6 v0 v1 hn2 hp6 k6 => ?_⟩
      refine ⟨_, k6 _ _ pD.symm hD5, by rw [List.length_map]; omega, n2, vs ++ [v], by rw [upd_same, List.map_append]; rfl, by rw [List.length_append, List.length_singleton, lv], fun y hy => ?_, by omega, hp6.put pD, keep_put (k5.trans k6) hD⟩
      rcases List.mem_append.mp hy with hy | hy
      · exact bv y hy
      · obtain rfl := List.mem_singleton.mp hy
        exact ⟨v0, v1⟩
    rintro H5 ⟨n2, vs, hD5, lv, bv, hn2, hp5, k5⟩
    have B5 : Band Z p q R x D ps En xs (vs.map V.int) n2 H5 := ⟨hp5, hT4.keep k5 hpo4, mel4.keep k5 hpo4, k5 _ _ xp hx4, EntsAt.keep k5 hpo4 hes4, hD5, fun v hv => by
      obtain ⟨i, hi, rfl⟩ := List.mem_map.mp hv
      exact note_int (bv i hi).1 (bv i hi).2, xp, pD.symm⟩
    have KN5 : KeepN p H H5 := KN4.then (KeepN.of k5)
    have lv' : ((vs.map V.int).length : Int) = aheadN ps ps.length := by rw [List.length_map, lv]; omega
    have hn2' : n2 ≤ n + 130 := by omega
    have xD : x ≠ D := ne_of_none hx4 hD
    have nD : ∀ b' o, b' ≠ p → H b' = some o → (∀ ps, o ≠ .tbl ps) → b' ≠ D := fun b' o np e nt z => by
      have := KN4 _ _ np e nt
      rw [z, hD] at this
      cases this
    clear m hp4 hT4 mel4 hx4 hes4 hpo4 k5 KN4 hD hp5
    -- one of them something odd
    refine name_via (fun σ H' => ∃ (n' : Nat) (ns : List V), σ = [some (.ref p), some (.ref R), some (.ref q), some (.ref x), some (.ref D), none, none, none, none, none, none, none] ∧ Band Z p q R x D ps En xs ns n' H' ∧ (ns.length : Int) = aheadN ps ps.length ∧ n' ≤ n + 140 ∧ KeepN p H H') (fun rest => ?_) ?_
    · have same : ∀ (n' : Nat) (H' : Hp), n' ≤ n + 140 → Band Z p q R x D ps En xs (vs.map V.int) n' H' → KeepN p H H' → _ := fun n' H' hn' B' KN' => rest [some (.ref p), some (.ref R), some (.ref q), some (.ref x), some (.ref D), none, none, none, none, none, none, none] H' ⟨n', _, rfl, B', lv', hn', KN'⟩
      cases vs with
      | nil =>
        refine ⟨_, rfl, Nat.zero_le _, fun e he => ?_⟩
        have s6 := Same.new (o := .lst []) (Same.refl H5) he
        refine ⟨dI [], dI [], .lst (SqL.of (s6 _ _ B5.hb)) .nil, .lst (SqL.of upd_same) .nil, by decide +kernel, by decide +kernel, false, by rw [eqv_ints] <;> rfl, iteF (iteF ?_)⟩
        exact same n2 _ (by omega) (B5.same s6) (KN5.then (KeepN.of (Keep.of s6)))
      | cons v0 vt =>
        refine ⟨_, rfl, Nat.zero_le _, fun e he => ?_⟩
        have s6 := Same.new (o := .lst []) (Same.refl H5) he
        refine ⟨dI (v0 :: vt), dI [], .lst (SqL.of (s6 _ _ B5.hb)) (dp_ints (v0 :: vt)), .lst (SqL.of upd_same) .nil, ints_shaped (v0 :: vt), by decide +kernel, true, by rw [eqv_none] <;> rfl, iteT ?_⟩
        have B6 := B5.same s6
        have KN6 := KN5.then (KeepN.of (Keep.of s6))
        generalize upd H5 e (.lst []) = H6 at B6 KN6 ⊢
        refine ⟨_, rfl, p, n2, 4, rfl, B6.hp, by omega, by decide, by decide, fun d n3 H7 d0 d1 hn3 hp7 k7 => ?_⟩
        have B7 := B6.keep k7 hp7
        have KN7 := KN6.then (KeepN.of k7)
        refine ⟨rfl, decide (V.int d = V.int 0), rfl, ?_⟩
        refine ite2 (fun _ => ?_) (fun _ => same n3 _ (by omega) B7 KN7)
        refine ⟨_, rfl, by show 1 ≤ sizeLine; decide, fun t1 h1 => ⟨by show 4 ≤ sizeLine; decide, fun a ha => ?_⟩⟩
        have s8 := (Same.new (o := .tup [.int 1]) (Same.refl H7) h1).trans (Same.new (o := .lst [.non, .bl true, .str "1", .ref t1]) (Same.refl (upd H7 t1 (.tup [.int 1]))) ha)
        have ht1 := Same.new (o := .lst [.non, .bl true, .str "1", .ref t1]) (Same.refl (upd H7 t1 (.tup [.int 1]))) ha _ _ (upd_same (H := H7) (a := t1) (o := .tup [.int 1]))
        have ha8 := upd_same (H := upd H7 t1 (.tup [.int 1])) (a := a) (o := .lst [.non, .bl true, .str "1", .ref t1])
        have t1p : t1 ≠ p := (B7.hp.ne h1).symm
        have B8 := B7.same s8
        have KN8 := KN7.then (KeepN.of (Keep.of s8))
        have ap : a ≠ p := ((B7.same (Same.new (o := .tup [.int 1]) (Same.refl H7) h1)).hp.ne ha).symm
        generalize upd (upd H7 t1 (.tup [.int 1])) a (.lst [.non, .bl true, .str "1", .ref t1]) = H8 at ht1 ha8 B8 KN8 ⊢
        clear s8 h1 ha B7 KN7
        refine ⟨p, a, n3, _, rfl, B8.hp, by omega, ha8, ap, Nat.zero_lt_succ _, by show 4 ≤ 1000; decide, fun v n4 H9 hv hn4 hp9 k9 => ?_⟩
        have B9 := B8.keep k9 hp9
        have KN9 := KN8.then (KeepN.of k9)
        have ht9 := k9 _ _ t1p ht1
        have lvt : ((v0 :: vt).map V.int).length = vt.length + 1 := by rw [List.length_map, List.length_cons]
        have big : (100 : Int) < 10 ^ 60 := by decide
        have lt60 : ((((v0 :: vt).map V.int).length : Nat) : Int) < 10 ^ 60 := by omega
        refine ⟨_, rfl, _, rfl, _, rfl, _, _, rfl, .inl ⟨_, SqL.of B9.hb, rfl⟩, p, n4, _, rfl, hp9, by omega, by rw [lvt]; omega, lt60, fun j n5 H10 j0 j1 hn5 hp10 k10 => ?_⟩
        have B10 := B9.keep k10 hp10
        have KN10 := KN9.then (KeepN.of k10)
        have ht10 := k10 _ _ t1p ht9
        refine ⟨D, (v0 :: vt).map V.int, j, j.toNat, rfl, rfl, B10.hb, ?_, ?_⟩
        · unfold ixN
          rw [if_pos j0, if_pos (by omega)]
        have off : ∀ {b : Addr} {u : HO}, (∀ xs, u ≠ HO.lst xs) → H10 b = some u → b ≠ D := fun nl e z => by
          rw [z, B10.hb] at e
          exact nl _ (Option.some.inj e).symm
        have offK : ∀ b o, b ≠ D → H10 b = some o → upd H10 D (.lst (((v0 :: vt).map V.int).set j.toNat v)) b = some o := fun b o n e => (upd_ne n).trans e
        obtain ⟨own, mix, hpo, rpo⟩ := hp10
        have ht11 := offK _ _ (ne_of ht10 B10.hb fun z => nomatch z) ht10
        have nv : NoteV p (upd H10 D (.lst (((v0 :: vt).map V.int).set j.toNat v))) v := by
          simp only [List.mem_cons, List.not_mem_nil, or_false] at hv
          rcases hv with rfl | rfl | rfl | rfl
          · exact ⟨_, .fl .non, shown_menu (by simp [menu]), fun i e => by cases e⟩
          · exact ⟨_, .fl (.bl _), shown_menu (by simp [menu]), fun i e => by cases e⟩
          · exact ⟨_, .fl (.str _), shown_os (x := "1") (by decide), fun i e => by cases e⟩
          · exact ⟨_, .t t1p ht11 (.cons (.int 1) .nil), shown_t1 (by decide +kernel) (by decide +kernel), fun i e => by cases e⟩
        refine rest _ _ ⟨n5, ((v0 :: vt).map V.int).set j.toNat v, rfl, ⟨⟨own, mix, offK _ _ pD hpo, rpo⟩, B10.hT.lst B10.hb, B10.mel.move fun b u nl _ e => offK _ _ (off nl e) e, offK _ _ xD B10.hx, EntsAt.put B10.hb B10.ents, upd_same, fun y hy => ?_, xp, pD.symm⟩, by rw [List.length_set]; exact lv', by omega, fun b' o np e nt => ?_⟩
        · rcases List.mem_or_eq_of_mem_set hy with hy | rfl
          · obtain ⟨i, hi, rfl⟩ := List.mem_map.mp hy
            exact note_int (bv i hi).1 (bv i hi).2
          · exact nv
        · exact offK _ _ (nD _ _ np e nt) (KN10 _ _ np e nt)
    rintro σ H6 ⟨n3, ns, rfl, B6, lns, hn3, KN6⟩
    clear hn2' hn2 B5 KN5 lv' lv bv hD5
    -- other notes
    obtain ⟨dx6, S6, A6, tr6, m6⟩ := id B6.mel
    obtain ⟨o6, hpo6⟩ := pot_lst B6.hp
    refine ⟨_, rfl, q, _, dx6, _, _, rfl, m6.ins, T.clB, T.nB_new, mfs_new _ _ _ _ _, _, rfl, by omega, by omega, fun G hG => ?_⟩
    have pG : p ≠ G := B6.hp.ne hG
    refine lc_range (n := (aheadN ps ps.length).toNat) (fun i H' => ∃ (n' : Nat) (vs : List Int), H' G = some (.lst (vs.map V.int)) ∧ vs.length = i ∧ (∀ v ∈ vs, -(10 ^ 12) ≤ v ∧ v ≤ 10 ^ 12) ∧ n' ≤ n3 + 2 * i ∧ Pot H' p n' ∧ Keep p H6 H') ⟨n3, [], upd_same, rfl, (fun _ z => absurd z List.not_mem_nil), by omega, B6.hp.new hG, Keep.new Keep.rfl' hG⟩ ?_ ?_
    · rintro i H7 hi ⟨n', vs, hG7, lv, bv, hn', hp7, k7⟩
      refine ⟨rfl, ?_⟩
      unfold tYes
      refine iteT ⟨_, rfl, p, n', rfl, hp7, by omega, fun v n4 H8 v0 v1 hn4 hp8 k8 => ?_⟩
      refine ⟨_, k8 _ _ pG.symm hG7, by rw [List.length_map]; omega, n4, vs ++ [v], by rw [upd_same, List.map_append]; rfl, by rw [List.length_append, List.length_singleton, lv], fun y hy => ?_, by omega, hp8.put pG, keep_put (k7.trans k8) hG⟩
      rcases List.mem_append.mp hy with hy | hy
      · exact bv y hy
      · obtain rfl := List.mem_singleton.mp hy
        exact ⟨v0, v1⟩
    rintro H7 ⟨n4, us, hG7, lu, bu, hn4, hp7, k7⟩
    have B7 := B6.keep k7 hp7
    have C7 : Band Z p q R x G ps En xs (us.map V.int) n4 H7 := ⟨hp7, B7.hT, B7.mel, B7.hx, B7.ents, hG7, fun v hv => by
      obtain ⟨i, hi, rfl⟩ := List.mem_map.mp hv
      exact note_int (bu i hi).1 (bu i hi).2, xp, pG.symm⟩
    have KN7 := KN6.then (KeepN.of k7)
    have lus : ((us.map V.int).length : Int) = aheadN ps ps.length := by rw [List.length_map, lu]; omega
    have hn4' : n4 ≤ n + 200 := by omega
    clear m6 hpo6 k7 hG hp7 hG7 B6 KN6 hn3 hn4 lu bu
    -- told, as is due
    refine ⟨_, rfl, _, rfl, _, rfl, _, rfl, _, rfl, by show 5 ≤ sizeLine; decide, fun t ht => ⟨t, rfl, ⟨_, SqT.of upd_same⟩, fun W hW => ?_⟩⟩
    have s8 := Same.new (o := .tup [.ref D, .ref D, .ref G, .ref D, .ref G]) (Same.refl H7) ht
    have ht8 := upd_same (H := H7) (a := t) (o := .tup [.ref D, .ref D, .ref G, .ref D, .ref G])
    have B8 := B7.same s8
    have C8 := C7.same s8
    have KN8 := KN7.then (KeepN.of (Keep.of s8))
    generalize upd H7 t (.tup [.ref D, .ref D, .ref G, .ref D, .ref G]) = H8 at ht8 B8 C8 KN8 hW ⊢
    clear s8 ht B7 C7 KN7
    have pW : p ≠ W := B8.hp.ne hW
    have sW := Same.new (o := .lst []) (Same.refl H8) hW
    have tp : t ≠ p := by
      obtain ⟨o, ho⟩ := pot_lst B8.hp
      exact ne_of ht8 ho fun z => nomatch z
    refine lc_tup (xs := [.ref D, .ref D, .ref G, .ref D, .ref G]) (fun i H' => ∃ n', H' W = some (.lst (List.replicate i (.bl true))) ∧ Pot H' p n' ∧ TabK Z H' ∧ KeepN p H8 H' ∧ n' ≤ n4 + 10 * i) ⟨n4, upd_same, B8.hp.same sW, B8.hT.ext sW, KeepN.of (Keep.of sW), by omega⟩ (fun i H' _ ⟨_, _, _, _, h, _⟩ => SqT.of (h _ _ tp ht8 fun _ z => nomatch z)) ?_ ?_
    · rintro i v H9 hi ⟨n5, hW9, hp9, T9, k9, hn5⟩
      refine ⟨rfl, ?_⟩
      unfold tYes
      have i5 : i < 5 := (List.getElem?_eq_some_iff.mp hi).1
      have fin : ∀ n6 H10, n6 ≤ n5 + 10 → Pot H10 p n6 → TabK Z H10 → KeepN p H9 H10 → ∃ acc, H10 W = some (.lst acc) ∧ acc.length < sizeLine ∧ ∃ n', (upd H10 W (.lst (acc ++ [.bl true]))) W = some (.lst (List.replicate (i + 1) (.bl true))) ∧ Pot (upd H10 W (.lst (acc ++ [.bl true]))) p n' ∧ TabK Z (upd H10 W (.lst (acc ++ [.bl true]))) ∧ KeepN p H8 (upd H10 W (.lst (acc ++ [.bl true]))) ∧ n' ≤ n4 + 10 * (i + 1) := fun n6 H10 hn6 hp10 T10 k10 => by
        have hW10 := k10 _ _ pW.symm hW9 fun _ z => nomatch z
        exact ⟨_, hW10, by rw [List.length_replicate]; omega, n6, by rw [upd_same, ← List.replicate_succ'], hp10.put pW, T10.lst hW10, fun b o np e nt => (upd_ne (ne_of_none e hW)).trans ((k9.then k10) b o np e nt), by omega⟩
      have pick : v = .ref D ∨ v = .ref G := by
        have := List.mem_of_getElem? hi
        simp only [List.mem_cons, List.not_mem_nil, or_false] at this
        rcases this with h | h | h | h | h
        · exact .inl h
        · exact .inl h
        · exact .inr h
        · exact .inl h
        · exact .inr h
      rcases pick with rfl | rfl
      · exact iteT ⟨_, rfl, _, rfl, _, rfl, _, rfl, p, q, R, x, D, n5, ps, En, xs, ns, rfl, B8.keepN k9 hp9 T9, by omega, ok, by omega, eq, lns, fin⟩
      · exact iteT ⟨_, rfl, _, rfl, _, rfl, _, rfl, p, q, R, x, G, n5, ps, En, xs, us.map V.int, rfl, C8.keepN k9 hp9 T9, by omega, ok, by omega, eq, lus, fin⟩
    rintro H9 ⟨n5, hW9, hp9, T9, k9, hn5⟩
    refine ⟨W, List.replicate 5 true, rfl, SqL.of hW9, true, rfl, iteF ?_⟩
    have hn5' : n5 ≤ n + 260 := by
      have : [V.ref D, .ref D, .ref G, .ref D, .ref G].length = 5 := rfl
      omega
    have B9 := B8.keepN k9 hp9 T9
    have KN9 := KN8.then k9
    clear hW9 hW sW pW tp ht8 B8 C8 KN8 hn5 hn4' hp9 T9 k9
    -- refused, as is due
    refine ⟨_, rfl, by decide, by decide, fun W hW => ?_⟩
    have pW : p ≠ W := B9.hp.ne hW
    have sW := Same.new (o := .lst []) (Same.refl H9) hW
    refine lc_range (n := (4 : Int).toNat) (fun i H' => ∃ n', H' W = some (.lst (List.replicate i (.bl true))) ∧ Pot H' p n' ∧ TabK Z H' ∧ KeepN p H9 H' ∧ n' ≤ n5 + 10 * i) ⟨n5, upd_same, B9.hp.same sW, B9.hT.ext sW, KeepN.of (Keep.of sW), by omega⟩ ?_ ?_
    · rintro i H10 hi ⟨n6, hW10, hp10, T10, k10, hn6⟩
      refine ⟨rfl, ?_⟩
      unfold tYes
      have i4 : i < 4 := hi
      have B10 := B9.keepN k10 hp10 T10
      refine iteT ⟨_, rfl, _, rfl, _, rfl, _, _, rfl, .inl ⟨_, SqL.of B10.hx, rfl⟩, p, q, R, n6, ps, _, En, rfl, B10.hp, B10.hT, B10.mel, by omega, ok, by omega, ?_, eq, fun n7 H11 hn7 hp11 T11 k11 => ?_⟩
      · have a := Paired.len B10.ents
        have b := eq.len
        rw [a]
        exact b
      · have hW11 := k11 _ _ pW.symm hW10 fun _ z => nomatch z
        exact ⟨_, hW11, by rw [List.length_replicate]; omega, n7, by rw [upd_same, ← List.replicate_succ'], hp11.put pW, T11.lst hW11, fun b o np e nt => (upd_ne (ne_of_none e hW)).trans ((k10.then k11) b o np e nt), by omega⟩
    rintro H10 ⟨n6, hW10, hp10, T10, k10, hn6⟩
    refine ⟨W, List.replicate 4 true, rfl, SqL.of hW10, true, rfl, iteF ?_⟩
    have hn6' : n6 ≤ n + 300 := by
      have : (4 : Int).toNat = 4 := rfl
      omega
    have KN10 := KN9.then k10
    clear hW10 hW sW pW hn6 B9 KN9 k10
    -- the melody of 120 places
    refine ⟨by show 2 ≤ sizeLine; decide, fun u hu => ⟨by show 1 ≤ sizeLine; decide, fun R2 hR2 => ?_⟩⟩
    have su := Same.new (o := .tup [.str "new", .int 120]) (Same.refl H10) hu
    have sR2 := Same.new (o := .tup [.ref u]) (Same.refl (upd H10 u (.tup [.str "new", .int 120]))) hR2
    have hu11 := sR2 _ _ (upd_same (H := H10) (a := u) (o := .tup [.str "new", .int 120]))
    have hR11 := upd_same (H := upd H10 u (.tup [.str "new", .int 120])) (a := R2) (o := .tup [.ref u])
    have s11 := su.trans sR2
    generalize upd (upd H10 u (.tup [.str "new", .int 120])) R2 (.tup [.ref u]) = H11 at hu11 hR11 s11 ⊢
    have hps11 : PcsAt H11 [.ref u] [Pc.new 120] := .cons ⟨u, rfl, hu11⟩ .nil
    clear su sR2 hu hR2
    refine fun q2 dx nq ndx ne => ⟨q2, dx, R2, [.ref u], [Pc.new 120], rfl, ?_⟩
    have s1 := Same.new (o := .own q2) (Same.refl H11) ndx
    have nq1 : upd H11 dx (.own q2) q2 = none := by rw [upd_ne ne.symm]; exact nq
    have s2 := Same.new (o := .ins Z.cB dx []) s1 nq1
    refine ⟨s2 _ _ hR11, hps11.same s2, wide_ok, upd_same, fun H12 mel2 kp2 => ⟨rfl, ?_⟩⟩
    have s1112 : Same H11 H12 := fun b o e => by
      have nb : b ≠ q2 := ne_of_none e nq
      exact kp2 _ _ nb (by rw [upd_ne nb]; exact s1 _ _ e)
    have s12 := s11.trans s1112
    have hp12 := hp10.same s12
    have T12 := T10.ext s12
    have KN12 := KN10.then (KeepN.of (Keep.of s12))
    clear s1 s2 nq1 kp2 nq ndx ne hps11 hR11 hu11 s11 s1112 s12 hp10 T10 KN10
    refine ⟨_, rfl, p, n6, 20, rfl, hp12, by omega, by decide, by decide, fun a n7 H13 a0 a1 hn7 hp13 k13 => ?_⟩
    obtain ⟨o12, hpo12⟩ := pot_lst hp12
    have mel13 := mel2.keep k13 hpo12
    have T13 := T12.keep k13 hpo12
    have KN13 := KN12.then (KeepN.of k13)
    refine ⟨by show 2 ≤ sizeLine; decide, fun y hy => ⟨y, _, rfl, SqT.of upd_same, rfl, _, _, rfl, _, _, rfl, rfl, ?_⟩⟩
    have s14 := Same.new (o := .tup [.ref q2, .int a]) (Same.refl H13) hy
    generalize upd H13 y (.tup [.ref q2, .int a]) = H14 at s14 ⊢
    have mel14 := mel13.same s14
    have hp14 := hp13.same s14
    have T14 := T13.ext s14
    have KN14 := KN13.then (KeepN.of (Keep.of s14))
    clear mel2 hp12 T12 KN12 k13 hpo12 mel13 T13 KN13 hp13 hy s14
    have e120 : pre [Pc.new 120] [Pc.new 120].length = 120 := by decide +kernel
    obtain ⟨dx2, S2, A2, tr2, m2⟩ := id mel14
    have nope : ∀ {P S A : Addr} {z n : Int}, (mfs P S A z n).lookup ("played" : Str) = none := by
      intro P S A z n
      rw [mfs_lookup, if_neg (by decide +kernel), if_neg (by decide +kernel), if_neg (by decide +kernel), if_neg (by decide +kernel), if_neg (by decide +kernel)]
    refine ⟨_, rfl, q2, dx2, _, rfl, m2.ins, nope, T14, fun lf H15 e15 T15 _ LP => ⟨_, rfl, ?_⟩⟩
    obtain ⟨o14, hpo14⟩ := pot_lst hp14
    have hp15 := e15 _ _ hpo14 fun _ z => nomatch z
    refine ⟨q2, R2, lf, [Pc.new 120], _, _, rfl, mel14.extN e15, wide_ok, .inr (.inr ⟨a, 99, wideE, p, fun _ => o14, runI a 99, fun d => .int (d * 2), fun d => some (d * 2), rfl, rfl, a0, by rw [e120]; omega, by decide, ?_, by rw [e120]; decide, wide_eqs, wide_due a0 a1, ⟨hp15, fun i d Hr Q1 hd ha1 kp1 kk => ?_⟩, .inl ⟨fun d => d * 2, fun _ _ => rfl, fun t H16 _ ha16 kp16 ht => ?_⟩⟩)⟩
    · rw [e120]
      unfold most
      split <;> omega
    · obtain ⟨i99, ed⟩ := runI_at hd
      refine LamAtP.tl (LP.by_ fun b u h nl nt => kp1 _ _ (fun y => by rw [y, hp15] at h; exact nl _ (Option.some.inj h).symm) h) rfl ?_
      exact ⟨_, rfl, d, 2, rfl, rfl, .inr ⟨by decide, by decide⟩, kk Hr ha1 Keep.rfl' (.int (d * 2))⟩
    · rw [wide_notes a0 a1] at ht
      have mel16 := (mel14.extN e15).keep kp16 hp15
      have T16 := T15.keep kp16 hp15
      have KN16 := (KN14.then (KeepN.ext e15)).then (KeepN.of kp16)
      have hp16 : Pot H16 p n7 := by
        obtain ⟨own, mix, h, r⟩ := hp14
        rw [h] at hpo14
        cases hpo14
        exact ⟨own, mix, ha16, r⟩
      clear mel14 hp14 T14 KN14 m2 hp15 hpo14 kp16 ha16 T15 e15 LP
      refine ⟨_, rfl, _, rfl, _, _, rfl, rfl, a, a + 99, rfl, ⟨by omega, by omega, by omega, by omega⟩, fun F hF => ?_⟩
      have sF := Same.new (o := .lst []) (Same.refl H16) hF
      refine lc_range (n := (a + 99 - a).toNat) (fun i H' => H' F = some (.lst (((runI a i).map fun d => 2 * d).map V.int)) ∧ Same H16 H') ⟨upd_same, sF⟩ ?_ ?_
      · rintro i H17 hi ⟨hF17, s17⟩
        refine ⟨rfl, ?_⟩
        unfold tYes
        have l99 : (((runI a i).map fun d => 2 * d).map V.int).length = i := by
          unfold runI
          rw [List.length_map, List.length_map, List.length_map, List.length_range]
        refine iteT ⟨_, rfl, _, _, rfl, rfl, .inl ⟨by decide, by decide⟩, _, hF17, by rw [l99]; omega, ?_, same_put s17 hF⟩
        rw [upd_same]
        unfold runI
        rw [List.range_succ, List.map_append, List.map_append, List.map_append]
        rfl
      rintro H17 ⟨hF17, s17⟩
      rw [show (a + 99 - a).toNat = 99 by omega] at hF17
      refine ⟨F, _, rfl, .inl ⟨SqL.of hF17, fun v hv => ?_⟩⟩
      have s18 := Same.new (o := .tup (((runI a 99).map fun d => 2 * d).map V.int)) (Same.refl H17) hv
      have hv18 := upd_same (H := H17) (a := v) (o := .tup (((runI a 99).map fun d => 2 * d).map V.int))
      generalize upd H17 v (.tup (((runI a 99).map fun d => 2 * d).map V.int)) = H18 at s18 hv18 ⊢
      have s68 := s17.trans s18
      refine ⟨_, _, .tup (SqT.of (s68 _ _ ht)) (dp_ints _), .tup (SqT.of hv18) (dp_ints _), shaped_tup _, shaped_tup _, false, by rw [eqv_tup] <;> rfl, iteF ?_⟩
      have mel18 := mel16.same s68
      have hp18 := hp16.same s68
      have T18 := T16.ext s68
      have KN18 := KN16.then (KeepN.of (Keep.of s68))
      clear mel16 hp16 T16 KN16 s68 hv18 s18 hv hF17 s17 sF hF ht
      -- too long a stretch
      have X2 := T.ex 2 (by decide)
      have Te := T.ex 4 (by decide)
      refine ⟨T18, fun lg H19 e19 T19 _ ⟨as, bd, sc, c2, good, at19, co19, ck⟩ => ?_⟩
      obtain ⟨o18, hpo18⟩ := pot_lst hp18
      have hp19 := e19 _ _ hpo18 fun _ z => nomatch z
      have mel19 := mel18.extN e19
      refine ⟨lg, rfl, Ref Z p H19 120 (.int a) (.int 100), fun c f Hb gw y hy => ?rest, fun Ha sa => ?look⟩
      case look =>
        have mela := mel19.same sa
        obtain ⟨dx, S', A', tr', m⟩ := id mela
        refine ⟨rfl, _, as, bd, sc, c2, good, sa _ _ at19, co19.imp (sa _ _) (fun ⟨P, e⟩ => ⟨P, sa _ _ e⟩), ?_⟩
        refine ⟨_, rfl, q2, dx, _, rfl, m.ins, nope, ?_⟩
        refine ⟨T19.ext sa, ck.by_ fun b o h _ => sa _ _ h, fun g' Hq eq' Tq _ LP => ⟨_, rfl, ?_⟩⟩
        have kq : KeepN p H19 Hq := fun b o _ h nt => eq' _ _ (sa _ _ h) nt
        have hpq := eq' _ _ (sa _ _ hp19) fun _ z => nomatch z
        have bad : ∀ i, isInt (.int 100) = some i → ¬ (1 ≤ i ∧ i ≤ most 120 a) := fun i e z => by
          cases e
          have := z.2
          unfold most at this
          split at this <;> omega
        refine ⟨q2, R2, g', [Pc.new 120], .int a, .int 100, rfl, mela.extN eq', wide_ok, .inr (.inl ⟨a, some 100, rfl, a0, by rw [e120]; omega, .int 100, by rw [e120]; exact bad, Out.met (G := fun c Hc => Ref Z p H19 120 (.int a) (.int 100) c .non Hc) X2 Te fun bb Hc sc mt => ⟨_, hp19, kq.then (KeepN.of (Keep.of sc)), sc _ _ hpq, Tq.ext sc, .inr (.inl ⟨bb, a, rfl, rfl, rfl, a0, by omega, bad, mt⟩)⟩⟩)⟩
      case rest =>
        obtain ⟨o', hp19', kb, hpb, Tb, res⟩ := gw
        have sby := Same.new (o := .tup [c, f]) (Same.refl Hb) hy
        have hy2 := upd_same (H := Hb) (a := y) (o := .tup [c, f])
        generalize upd Hb y (.tup [c, f]) = Hc at sby hy2 ⊢
        have fin : Q (.bl true) Hc := by
          obtain ⟨own, mix, h, r⟩ := hp18
          have h19 := e19 _ _ h fun _ z => nomatch z
          rw [h19] at hp19'
          cases hp19'
          exact k n7 Hc (by omega) ⟨own, mix, sby _ _ hpb, r⟩ (Tb.ext sby) fun b o np e nt => sby _ _ (kb b o np (e19 _ _ (KN18 b o np e nt) nt) nt)
        rcases res with ⟨bb, rfl, rfl, bad, mt⟩ | ⟨bb, j, rfl, rfl, _, j0, j1, bad, mt⟩ | ⟨j, l, t, xs, rfl, ej, j0, j1, el, l1, l2, rfl, ht, lx⟩
        · exact absurd ⟨a0, by omega⟩ (bad a rfl)
        · have mt := mt.same sby
          refine ⟨y, _, 0, .ref bb, rfl, rfl, SqT.of hy2, rfl, ?_⟩
          refine ⟨_, rfl, bb, Z.c 2, _, .ref (Z.c 2), .ref (Z.c 2), true, true, rfl, mt, X2.ec, X2.selfC, .own _, X2.self, true, rfl, iteT ?_⟩
          refine ⟨_, rfl, bb, Z.c 2, _, .int 100, rfl, mt, X2.xf, X2.nv, rfl, rfl, ?_⟩
          show Q (.bl (decide (V.int 100 = V.int 100))) Hc
          rw [decide_eq_true rfl]
          exact fin
        · cases el
          unfold most at l2
          split at l2 <;> omega
end
end TT

namespace TT
open PySem PySem.Spec PyProof.Rows L2 LamX
def sp_law (K : PySem.W.Frag) (Z : Zs) : Sp := fun vs H Q _ => ∃ (a : Addr) (ns : List Int), vs = [.ref a] ∧ SqL K H a (ns.map V.int) ∧ ns.length ≤ 63 ∧ TabK Z H ∧ ∀ H', Q (.bl true) H'
section
variable {P : Program} {w : World} {K : PySem.W.Frag} {mg : Str → Option Value} {base : Heap} {Z : Zs}
theorem ok_law (T : Txt K mg Z) (TB_l_played_right : TabB base mg Z.c_l_played_right Z.t_l_played_right) (TB_l_refusals_right : TabB base mg Z.c_l_refusals_right Z.t_l_refusals_right) (TB_l_right : TabB base mg Z.c_l_right Z.t_l_right) : GOk P w K mg base CX0 23 Z.f_law Z.d_law ["_law_script"] (sp_law K Z) := by
  refine okG T.F_law sc_law (fun vs H Q E h => ?_) (fun cdv A outer s H vs Q E g hr h => ?_)
  · obtain ⟨a, ns, rfl, _⟩ := h
    rfl
  · obtain ⟨a, ns, rfl, hS, hl, hT, k⟩ := h
    refine ⟨_, (pss_one (ps_ret (pe_callB  (cr_all rfl) (by rfl) T.b_all (by decide +kernel) (pa_cons (pe_lc (own := [("_law_pot_here", 1)]) rfl sc_law.nd (pi_list (pe_call (ok_l_pots T) (hr.mono (by decide)) rfl T.g_l_pots T.k_l_pots T.bn_l_pots .nil pass0 (pa_cons (pv 0) (pa_cons pe_int pa_nil)))) (blkOk_by (own := [("_law_pot_here", 1)]) (N := ["_law_script", "_law_pot_here"]) (sc := defScope s_law) (by decide +kernel)) (fun _ _ _ _ _ => (pg_name (i := 1) sc_law.nd rfl (Or.inl rfl))) (fun _ _ _ _ _ => pts_nil) (fun _ _ _ _ _ => (pe_callG (ok_l_right T TB_l_played_right TB_l_refusals_right TB_l_right) (by exact g) (hr.mono (by decide)) rfl T.g_l_right T.k_l_right T.bn_l_right .nil pass0 (pa_cons (pv 1) pa_nil)))) pa_nil)))), ?_⟩
    refine ⟨_, rfl, a, ns, rfl, hS, hl, fun x qs H2 nx s2 hx l6 hq nd => ?_⟩
    have sl : sizeLine = 16777216 := sizeLine_eq
    have xq : x ∉ qs := fun h => by
      obtain ⟨o, m, e, _⟩ := (hq x h).2
      rw [hx] at e
      cases qs with
      | nil => cases h
      | cons q t =>
        injection e with e
        injection e with e
        rw [List.map_cons] at e
        injection e with e _
        cases e
    refine ⟨x, rfl, ⟨_, SqL.of hx⟩, fun D hD => ?_⟩
    have xD : x ≠ D := ne_of_none hx hD
    have qD : ∀ q ∈ qs, q ≠ D := fun q h => (hq q h).2.ne hD
    have sD := Same.new (o := .lst []) (Same.refl H2) hD
    refine lc_list (xs := qs.map V.ref) (fun i H' => H' D = some (.lst (List.replicate i (.bl true))) ∧ H' x = some (.lst (qs.map V.ref)) ∧ (∀ j q, i ≤ j → qs[j]? = some q → Pot H' q 0) ∧ TabK Z H') ⟨upd_same, sD _ _ hx, fun j q _ h => (hq q (List.mem_of_getElem? h)).2.same sD, (hT.ext s2).ext sD⟩ (fun i H' _ ⟨_, h, _, _⟩ => SqL.of h) ?_ ?_
    · rintro i y H3 hi ⟨hD3, hx3, hp3, hT3⟩
      refine ⟨rfl, ?_⟩
      unfold tYes
      rw [List.getElem?_map] at hi
      obtain ⟨q, hqi, rfl⟩ := Option.map_eq_some_iff.mp hi
      have qm := List.mem_of_getElem? hqi
      have il := (List.getElem?_eq_some_iff.mp hqi).1
      refine iteT ⟨_, rfl, q, 0, rfl, hp3 i q (Nat.le_refl _) hqi, by decide, hT3, fun n' H4 hn hp4 hT4 k4 => ?_⟩
      have hD4 := k4 _ _ (qD q qm).symm hD3 (fun _ z => nomatch z)
      have hx4 := k4 _ _ (fun z => xq (by rw [z]; exact qm)) hx3 (fun _ z => nomatch z)
      refine ⟨_, hD4, by rw [List.length_replicate]; omega, ?_, ?_, fun j r hj hr' => ?_, TabX.lst hD4 hT4⟩
      · rw [← List.replicate_succ']
        exact upd_same
      · rw [upd_ne xD]
        exact hx4
      · have rm := List.mem_of_getElem? hr'
        have rq : r ≠ q := fun z => by
          subst z
          obtain ⟨jl, je⟩ := List.getElem?_eq_some_iff.mp hr'
          obtain ⟨il', ie⟩ := List.getElem?_eq_some_iff.mp hqi
          exact List.pairwise_iff_getElem.mp nd i j il' jl (by omega) (by rw [ie, je])
        obtain ⟨o, m, e, z⟩ := hp3 j r (by omega) hr'
        exact Pot.put ⟨o, m, k4 _ _ rq e (fun _ z => nomatch z), z⟩ (qD r rm)
    · rintro H3 ⟨hD3, _⟩
      refine ⟨D, List.replicate (qs.map V.ref).length true, rfl, SqL.of (by rw [List.map_replicate]; exact hD3), ?_⟩
      show Q (.bl ((List.replicate (qs.map V.ref).length true).all id)) H3
      rw [all_rep]
      exact k H3
end
end TT

set_option Elab.async false
set_option linter.all false
set_option maxRecDepth 100000
set_option maxHeartbeats 8000000
namespace TT
open PySem PySem.Spec PyProof.Rows L2 LamX
theorem kit_self {K : PySem.W.Frag} {a : Addr} : PySem.W.kitOne K (.ref a) (.ref a) = some true := by
  unfold PySem.W.kitOne
  rw [if_pos (beq_iff_eq.mpr rfl)]
theorem kit_not {K : PySem.W.Frag} {T : String} {C : Addr} (h1 : PySem.W.mroIn K C (.type "object") = some true) (h2 : PySem.W.typeIn K (.ref C) = some (.type "type")) (h3 : PySem.W.subIn K (.type T) (.ref C) = some false) : PySem.W.kitOne K (.type T) (.ref C) = some false := by
  have h0 : (PySem.W.clsIn K C).isSome = true := by
    unfold PySem.W.mroIn at h1
    obtain ⟨cd, a, _⟩ := Option.bind_eq_some_iff.mp h1
    rw [a]; rfl
  have hc : PySem.W.kitCls K (.type T) (.ref C) = some false := by
    unfold PySem.W.kitCls
    simp only
    rw [if_pos (by rw [h0, h2]; rfl)]
    exact h3
  unfold PySem.W.kitOne
  have ne : ¬ ((Value.type T == Value.ref C) = true) := fun e => by
    have e2 := beq_iff_eq.mp e
    cases e2
  rw [if_neg ne]
  exact hc
theorem all_mk {l : PySem.W.OpenLaw} {q : Program} {w : World} {K : PySem.W.Frag} {h : Heap} {mg : Str → Option Value} {fa CB c0 c1 c2 c3 c4 f0 f1 f2 f3 f4 f5 f6 f7 f8 f9 f10 f11 f12 f13 f14 f15 f16 f17 f18 f19 f20 f21 f22 f23 f24 f25 f26 f27 f28 f29 f30 f31 f32 f33 f34 f35 f36 f37 f38  : Addr} (X : K.In h) (G : h.Ns mainGlobals mg) (hfa : mg "law" = some (.ref fa))
    (tab : ∀ d ∈ recsOf q, ∃ a o fd c P, mg d.name = some (.ref a) ∧ h.get? a = some o ∧ o.data = .func fd ∧ fd.code = .ref c ∧ h.IsCode c P #[] ∧ h.TableAt c P #[])
    {aS : Addr} {odS : Option Addr} {tS0 : Tok} {nS : Nat} {slS : Array (Option Value)} {od0 an0 od1 an1 od2 an2 od3 an3 od4 an4 od5 an5 od6 an6 od7 an7 od8 an8 od9 an9 od10 an10 od11 an11 od12 an12 od13 an13 od14 an14 od15 an15 od16 an16 od17 an17 od18 an18 od19 an19 od20 an20 od21 an21 od22 an22 od23 an23 od24 an24 od25 an25 od26 an26 od27 an27 od28 an28 od29 an29 od30 an30 od31 an31 od32 an32 od33 an33 od34 an34 od35 an35 od36 an36 od37 an37 od38 an38 : Option Addr} {sl0 sl1 sl2 sl3 sl4 sl5 sl6 sl7 sl8 sl9 sl10 sl11 sl12 sl13 sl14 sl15 sl16 sl17 sl18 sl19 sl20 sl21 sl22 sl23 sl24 sl25 sl26 sl27 sl28 sl29 sl30 sl31 sl32 sl33 sl34 sl35 sl36 sl37 sl38 : Array (Option Value)} {oc0 kV0 dc0 pm0 cd0 ct0 oc1 kV1 dc1 pm1 cd1 ct1 oc2 kV2 dc2 pm2 cd2 ct2 oc3 kV3 dc3 pm3 cd3 ct3 oc4 kV4 dc4 pm4 cd4 ct4 oc5 kV5 dc5 pm5 cd5 ct5 oc6 kV6 dc6 pm6 cd6 ct6 oc7 kV7 dc7 pm7 cd7 ct7 oc8 kV8 dc8 pm8 cd8 ct8 oc9 kV9 dc9 pm9 cd9 ct9 oc10 kV10 dc10 pm10 cd10 ct10 oc11 kV11 dc11 pm11 cd11 ct11 oc12 kV12 dc12 pm12 cd12 ct12 oc13 kV13 dc13 pm13 cd13 ct13 oc14 kV14 dc14 pm14 cd14 ct14 oc15 kV15 dc15 pm15 cd15 ct15 oc16 kV16 dc16 pm16 cd16 ct16 oc17 kV17 dc17 pm17 cd17 ct17 oc18 kV18 dc18 pm18 cd18 ct18 oc19 kV19 dc19 pm19 cd19 ct19 oc20 kV20 dc20 pm20 cd20 ct20 oc21 kV21 dc21 pm21 cd21 ct21 oc22 kV22 dc22 pm22 cd22 ct22 oc23 kV23 dc23 pm23 cd23 ct23 oc24 kV24 dc24 pm24 cd24 ct24 oc25 kV25 dc25 pm25 cd25 ct25 oc26 kV26 dc26 pm26 cd26 ct26 oc27 kV27 dc27 pm27 cd27 ct27 oc28 kV28 dc28 pm28 cd28 ct28 oc29 kV29 dc29 pm29 cd29 ct29 oc30 kV30 dc30 pm30 cd30 ct30 oc31 kV31 dc31 pm31 cd31 ct31 oc32 kV32 dc32 pm32 cd32 ct32 oc33 kV33 dc33 pm33 cd33 ct33 oc34 kV34 dc34 pm34 cd34 ct34 oc35 kV35 dc35 pm35 cd35 ct35 oc36 kV36 dc36 pm36 cd36 ct36 oc37 kV37 dc37 pm37 cd37 ct37 oc38 kV38 dc38 pm38 cd38 ct38 : Value} {t_GREATEST t__LONGEST : Tok}
    (aB : PySem.W.nsIn K mainGlobals "Melody" = some (some (.ref CB)))
    (m_sp : PySem.W.nsIn K mainGlobals "source_pieces" = some (some (.ref f13)))
    (m_st : PySem.W.nsIn K mainGlobals "STILL" = some (some (.ref aS)))
    (m_sl : K.lookup aS = some ⟨.type "tuple", odS, .seq ([Value.int 0 tS0, Value.bool false] : List Value).toArray nS, slS⟩)
    (m_set : PySem.W.nsIn K mainGlobals "set" = some none)
    (ge0 : PySem.W.nsIn K mainGlobals "NoPlace" = some (some (.ref c0)))
    (ge1 : PySem.W.nsIn K mainGlobals "BadPieces" = some (some (.ref c1)))
    (ge2 : PySem.W.nsIn K mainGlobals "BadLength" = some (some (.ref c2)))
    (ge3 : PySem.W.nsIn K mainGlobals "BadNote" = some (some (.ref c3)))
    (ge4 : PySem.W.nsIn K mainGlobals "TuneError" = some (some (.ref c4)))
    (hin : PySem.W.findIn K (.ref c4) "__init__" = some (some (.ref f0)))
    (i0 : PySem.W.isFn K (.ref f0) = true)
    (l0 : K.lookup f0 = some ⟨oc0, od0, .func (PySem.W.fnOf "__init__" "TuneError.__init__" (defArgs s_E_init) (defBody s_E_init) (defScope s_E_init) .none kV0 dc0 pm0 an0 cd0 ct0), sl0⟩)
    (d0 : PySem.W.codeIn K cd0 "TuneError.__init__" = true)
    (k0 : PySem.W.keepIn K (.ref f0) = true)
    (a1 : PySem.W.nsIn K mainGlobals "is_whole" = some (some (.ref f1)))
    (l1 : K.lookup f1 = some ⟨oc1, od1, .func (PySem.W.fnOf "is_whole" "is_whole" (defArgs s_is_whole) (defBody s_is_whole) (defScope s_is_whole) .none kV1 dc1 pm1 an1 cd1 ct1), sl1⟩)
    (d1 : PySem.W.codeIn K cd1 "is_whole" = true)
    (k1 : PySem.W.keepIn K (.ref f1) = true)
    (a2 : PySem.W.nsIn K mainGlobals "is_from" = some (some (.ref f2)))
    (l2 : K.lookup f2 = some ⟨oc2, od2, .func (PySem.W.fnOf "is_from" "is_from" (defArgs s_is_from) (defBody s_is_from) (defScope s_is_from) .none kV2 dc2 pm2 an2 cd2 ct2), sl2⟩)
    (d2 : PySem.W.codeIn K cd2 "is_from" = true)
    (k2 : PySem.W.keepIn K (.ref f2) = true)
    (a3 : PySem.W.nsIn K mainGlobals "is_between" = some (some (.ref f3)))
    (l3 : K.lookup f3 = some ⟨oc3, od3, .func (PySem.W.fnOf "is_between" "is_between" (defArgs s_is_between) (defBody s_is_between) (defScope s_is_between) .none kV3 dc3 pm3 an3 cd3 ct3), sl3⟩)
    (d3 : PySem.W.codeIn K cd3 "is_between" = true)
    (k3 : PySem.W.keepIn K (.ref f3) = true)
    (a4 : PySem.W.nsIn K mainGlobals "led_by" = some (some (.ref f4)))
    (l4 : K.lookup f4 = some ⟨oc4, od4, .func (PySem.W.fnOf "led_by" "led_by" (defArgs s_led_by) (defBody s_led_by) (defScope s_led_by) .none kV4 dc4 pm4 an4 cd4 ct4), sl4⟩)
    (d4 : PySem.W.codeIn K cd4 "led_by" = true)
    (k4 : PySem.W.keepIn K (.ref f4) = true)
    (a5 : PySem.W.nsIn K mainGlobals "led_on" = some (some (.ref f5)))
    (l5 : K.lookup f5 = some ⟨oc5, od5, .func (PySem.W.fnOf "led_on" "led_on" (defArgs s_led_on) (defBody s_led_on) (defScope s_led_on) .none kV5 dc5 pm5 an5 cd5 ct5), sl5⟩)
    (d5 : PySem.W.codeIn K cd5 "led_on" = true)
    (k5 : PySem.W.keepIn K (.ref f5) = true)
    (a6 : PySem.W.nsIn K mainGlobals "led_often" = some (some (.ref f6)))
    (l6 : K.lookup f6 = some ⟨oc6, od6, .func (PySem.W.fnOf "led_often" "led_often" (defArgs s_led_often) (defBody s_led_often) (defScope s_led_often) .none kV6 dc6 pm6 an6 cd6 ct6), sl6⟩)
    (d6 : PySem.W.codeIn K cd6 "led_often" = true)
    (k6 : PySem.W.keepIn K (.ref f6) = true)
    (a7 : PySem.W.nsIn K mainGlobals "word_of" = some (some (.ref f7)))
    (l7 : K.lookup f7 = some ⟨oc7, od7, .func (PySem.W.fnOf "word_of" "word_of" (defArgs s_word_of) (defBody s_word_of) (defScope s_word_of) .none kV7 dc7 pm7 an7 cd7 ct7), sl7⟩)
    (d7 : PySem.W.codeIn K cd7 "word_of" = true)
    (k7 : PySem.W.keepIn K (.ref f7) = true)
    (a8 : PySem.W.nsIn K mainGlobals "length_of" = some (some (.ref f8)))
    (l8 : K.lookup f8 = some ⟨oc8, od8, .func (PySem.W.fnOf "length_of" "length_of" (defArgs s_length_of) (defBody s_length_of) (defScope s_length_of) .none kV8 dc8 pm8 an8 cd8 ct8), sl8⟩)
    (d8 : PySem.W.codeIn K cd8 "length_of" = true)
    (k8 : PySem.W.keepIn K (.ref f8) = true)
    (a9 : PySem.W.nsIn K mainGlobals "starts_of" = some (some (.ref f9)))
    (l9 : K.lookup f9 = some ⟨oc9, od9, .func (PySem.W.fnOf "starts_of" "starts_of" (defArgs s_starts_of) (defBody s_starts_of) (defScope s_starts_of) .none kV9 dc9 pm9 an9 cd9 ct9), sl9⟩)
    (d9 : PySem.W.codeIn K cd9 "starts_of" = true)
    (k9 : PySem.W.keepIn K (.ref f9) = true)
    (a10 : PySem.W.nsIn K mainGlobals "new_ahead" = some (some (.ref f10)))
    (l10 : K.lookup f10 = some ⟨oc10, od10, .func (PySem.W.fnOf "new_ahead" "new_ahead" (defArgs s_new_ahead) (defBody s_new_ahead) (defScope s_new_ahead) .none kV10 dc10 pm10 an10 cd10 ct10), sl10⟩)
    (d10 : PySem.W.codeIn K cd10 "new_ahead" = true)
    (k10 : PySem.W.keepIn K (.ref f10) = true)
    (a11 : PySem.W.nsIn K mainGlobals "index_at" = some (some (.ref f11)))
    (l11 : K.lookup f11 = some ⟨oc11, od11, .func (PySem.W.fnOf "index_at" "index_at" (defArgs s_index_at) (defBody s_index_at) (defScope s_index_at) .none kV11 dc11 pm11 an11 cd11 ct11), sl11⟩)
    (d11 : PySem.W.codeIn K cd11 "index_at" = true)
    (k11 : PySem.W.keepIn K (.ref f11) = true)
    (a12 : PySem.W.nsIn K mainGlobals "read" = some (some (.ref f12)))
    (l12 : K.lookup f12 = some ⟨oc12, od12, .func (PySem.W.fnOf "read" "read" (defArgs s_read) (defBody s_read) (defScope s_read) .none kV12 dc12 pm12 an12 cd12 ct12), sl12⟩)
    (d12 : PySem.W.codeIn K cd12 "read" = true)
    (k12 : PySem.W.keepIn K (.ref f12) = true)
    (a13 : PySem.W.nsIn K mainGlobals "_source" = some (some (.ref f13)))
    (l13 : K.lookup f13 = some ⟨oc13, od13, .func (PySem.W.fnOf "_source" "_source" (defArgs s_source) (defBody s_source) (defScope s_source) .none kV13 dc13 pm13 an13 cd13 ct13), sl13⟩)
    (d13 : PySem.W.codeIn K cd13 "_source" = true)
    (k13 : PySem.W.keepIn K (.ref f13) = true)
    (a14 : PySem.W.nsIn K mainGlobals "check_place" = some (some (.ref f14)))
    (l14 : K.lookup f14 = some ⟨oc14, od14, .func (PySem.W.fnOf "check_place" "check_place" (defArgs s_check_place) (defBody s_check_place) (defScope s_check_place) .none kV14 dc14 pm14 an14 cd14 ct14), sl14⟩)
    (d14 : PySem.W.codeIn K cd14 "check_place" = true)
    (k14 : PySem.W.keepIn K (.ref f14) = true)
    (a15 : PySem.W.nsIn K mainGlobals "check_stretch" = some (some (.ref f15)))
    (l15 : K.lookup f15 = some ⟨oc15, od15, .func (PySem.W.fnOf "check_stretch" "check_stretch" (defArgs s_check_stretch) (defBody s_check_stretch) (defScope s_check_stretch) .none kV15 dc15 pm15 an15 cd15 ct15), sl15⟩)
    (d15 : PySem.W.codeIn K cd15 "check_stretch" = true)
    (k15 : PySem.W.keepIn K (.ref f15) = true)
    (a16 : PySem.W.findIn K (.ref CB) "__init__" = some (some (.ref f16)))
    (i16 : PySem.W.isFn K (.ref f16) = true)
    (l16 : K.lookup f16 = some ⟨oc16, od16, .func (PySem.W.fnOf "__init__" "Melody.__init__" (defArgs s_M_init) (defBody s_M_init) (defScope s_M_init) .none kV16 dc16 pm16 an16 cd16 ct16), sl16⟩)
    (d16 : PySem.W.codeIn K cd16 "Melody.__init__" = true)
    (k16 : PySem.W.keepIn K (.ref f16) = true)
    (a17 : PySem.W.findIn K (.ref CB) "__getitem__" = some (some (.ref f17)))
    (i17 : PySem.W.isFn K (.ref f17) = true)
    (l17 : K.lookup f17 = some ⟨oc17, od17, .func (PySem.W.fnOf "__getitem__" "Melody.__getitem__" (defArgs s_M_getitem) (defBody s_M_getitem) (defScope s_M_getitem) .none kV17 dc17 pm17 an17 cd17 ct17), sl17⟩)
    (d17 : PySem.W.codeIn K cd17 "Melody.__getitem__" = true)
    (k17 : PySem.W.keepIn K (.ref f17) = true)
    (a18 : PySem.W.findIn K (.ref CB) "played" = some (some (.ref f18)))
    (i18 : PySem.W.isFn K (.ref f18) = true)
    (l18 : K.lookup f18 = some ⟨oc18, od18, .func (PySem.W.fnOf "played" "Melody.played" (defArgs s_M_played) (defBody s_M_played) (defScope s_M_played) .none kV18 dc18 pm18 an18 cd18 ct18), sl18⟩)
    (d18 : PySem.W.codeIn K cd18 "Melody.played" = true)
    (k18 : PySem.W.keepIn K (.ref f18) = true)
    (a19 : PySem.W.nsIn K mainGlobals "_note_of" = some (some (.ref f19)))
    (l19 : K.lookup f19 = some ⟨oc19, od19, .func (PySem.W.fnOf "_note_of" "_note_of" (defArgs s_note_of) (defBody s_note_of) (defScope s_note_of) .none kV19 dc19 pm19 an19 cd19 ct19), sl19⟩)
    (d19 : PySem.W.codeIn K cd19 "_note_of" = true)
    (k19 : PySem.W.keepIn K (.ref f19) = true)
    (a20 : PySem.W.nsIn K mainGlobals "_are_pieces" = some (some (.ref f20)))
    (l20 : K.lookup f20 = some ⟨oc20, od20, .func (PySem.W.fnOf "_are_pieces" "_are_pieces" (defArgs s_are_pieces) (defBody s_are_pieces) (defScope s_are_pieces) .none kV20 dc20 pm20 an20 cd20 ct20), sl20⟩)
    (d20 : PySem.W.codeIn K cd20 "_are_pieces" = true)
    (k20 : PySem.W.keepIn K (.ref f20) = true)
    (a21 : PySem.W.nsIn K mainGlobals "_is_piece" = some (some (.ref f21)))
    (l21 : K.lookup f21 = some ⟨oc21, od21, .func (PySem.W.fnOf "_is_piece" "_is_piece" (defArgs s_is_piece) (defBody s_is_piece) (defScope s_is_piece) .none kV21 dc21 pm21 an21 cd21 ct21), sl21⟩)
    (d21 : PySem.W.codeIn K cd21 "_is_piece" = true)
    (k21 : PySem.W.keepIn K (.ref f21) = true)
    (a22 : PySem.W.nsIn K mainGlobals "_is_copy" = some (some (.ref f22)))
    (l22 : K.lookup f22 = some ⟨oc22, od22, .func (PySem.W.fnOf "_is_copy" "_is_copy" (defArgs s_is_copy) (defBody s_is_copy) (defScope s_is_copy) .none kV22 dc22 pm22 an22 cd22 ct22), sl22⟩)
    (d22 : PySem.W.codeIn K cd22 "_is_copy" = true)
    (k22 : PySem.W.keepIn K (.ref f22) = true)
    (a23 : PySem.W.nsIn K mainGlobals "_law_pot" = some (some (.ref f23)))
    (l23 : K.lookup f23 = some ⟨oc23, od23, .func (PySem.W.fnOf "_law_pot" "_law_pot" (defArgs s_l_pot) (defBody s_l_pot) (defScope s_l_pot) .none kV23 dc23 pm23 an23 cd23 ct23), sl23⟩)
    (d23 : PySem.W.codeIn K cd23 "_law_pot" = true)
    (k23 : PySem.W.keepIn K (.ref f23) = true)
    (a24 : PySem.W.nsIn K mainGlobals "_law_take" = some (some (.ref f24)))
    (l24 : K.lookup f24 = some ⟨oc24, od24, .func (PySem.W.fnOf "_law_take" "_law_take" (defArgs s_l_take) (defBody s_l_take) (defScope s_l_take) .none kV24 dc24 pm24 an24 cd24 ct24), sl24⟩)
    (d24 : PySem.W.codeIn K cd24 "_law_take" = true)
    (k24 : PySem.W.keepIn K (.ref f24) = true)
    (a25 : PySem.W.nsIn K mainGlobals "_law_of" = some (some (.ref f25)))
    (l25 : K.lookup f25 = some ⟨oc25, od25, .func (PySem.W.fnOf "_law_of" "_law_of" (defArgs s_l_of) (defBody s_l_of) (defScope s_l_of) .none kV25 dc25 pm25 an25 cd25 ct25), sl25⟩)
    (d25 : PySem.W.codeIn K cd25 "_law_of" = true)
    (k25 : PySem.W.keepIn K (.ref f25) = true)
    (a26 : PySem.W.nsIn K mainGlobals "_law_pots" = some (some (.ref f26)))
    (l26 : K.lookup f26 = some ⟨oc26, od26, .func (PySem.W.fnOf "_law_pots" "_law_pots" (defArgs s_l_pots) (defBody s_l_pots) (defScope s_l_pots) .none kV26 dc26 pm26 an26 cd26 ct26), sl26⟩)
    (d26 : PySem.W.codeIn K cd26 "_law_pots" = true)
    (k26 : PySem.W.keepIn K (.ref f26) = true)
    (a27 : PySem.W.nsIn K mainGlobals "_law_told" = some (some (.ref f27)))
    (l27 : K.lookup f27 = some ⟨oc27, od27, .func (PySem.W.fnOf "_law_told" "_law_told" (defArgs s_l_told) (defBody s_l_told) (defScope s_l_told) .none kV27 dc27 pm27 an27 cd27 ct27), sl27⟩)
    (d27 : PySem.W.codeIn K cd27 "_law_told" = true)
    (k27 : PySem.W.keepIn K (.ref f27) = true)
    (a28 : PySem.W.nsIn K mainGlobals "_law_is_int" = some (some (.ref f28)))
    (l28 : K.lookup f28 = some ⟨oc28, od28, .func (PySem.W.fnOf "_law_is_int" "_law_is_int" (defArgs s_l_is_int) (defBody s_l_is_int) (defScope s_l_is_int) .none kV28 dc28 pm28 an28 cd28 ct28), sl28⟩)
    (d28 : PySem.W.codeIn K cd28 "_law_is_int" = true)
    (k28 : PySem.W.keepIn K (.ref f28) = true)
    (a29 : PySem.W.nsIn K mainGlobals "_law_amount" = some (some (.ref f29)))
    (l29 : K.lookup f29 = some ⟨oc29, od29, .func (PySem.W.fnOf "_law_amount" "_law_amount" (defArgs s_l_amount) (defBody s_l_amount) (defScope s_l_amount) .none kV29 dc29 pm29 an29 cd29 ct29), sl29⟩)
    (d29 : PySem.W.codeIn K cd29 "_law_amount" = true)
    (k29 : PySem.W.keepIn K (.ref f29) = true)
    (a30 : PySem.W.nsIn K mainGlobals "_law_lead" = some (some (.ref f30)))
    (l30 : K.lookup f30 = some ⟨oc30, od30, .func (PySem.W.fnOf "_law_lead" "_law_lead" (defArgs s_l_lead) (defBody s_l_lead) (defScope s_l_lead) .none kV30 dc30 pm30 an30 cd30 ct30), sl30⟩)
    (d30 : PySem.W.codeIn K cd30 "_law_lead" = true)
    (k30 : PySem.W.keepIn K (.ref f30) = true)
    (a31 : PySem.W.nsIn K mainGlobals "_law_shown" = some (some (.ref f31)))
    (l31 : K.lookup f31 = some ⟨oc31, od31, .func (PySem.W.fnOf "_law_shown" "_law_shown" (defArgs s_l_shown) (defBody s_l_shown) (defScope s_l_shown) .none kV31 dc31 pm31 an31 cd31 ct31), sl31⟩)
    (d31 : PySem.W.codeIn K cd31 "_law_shown" = true)
    (k31 : PySem.W.keepIn K (.ref f31) = true)
    (a32 : PySem.W.nsIn K mainGlobals "_law_piece" = some (some (.ref f32)))
    (l32 : K.lookup f32 = some ⟨oc32, od32, .func (PySem.W.fnOf "_law_piece" "_law_piece" (defArgs s_l_piece) (defBody s_l_piece) (defScope s_l_piece) .none kV32 dc32 pm32 an32 cd32 ct32), sl32⟩)
    (d32 : PySem.W.codeIn K cd32 "_law_piece" = true)
    (k32 : PySem.W.keepIn K (.ref f32) = true)
    (a33 : PySem.W.nsIn K mainGlobals "_law_pieces" = some (some (.ref f33)))
    (l33 : K.lookup f33 = some ⟨oc33, od33, .func (PySem.W.fnOf "_law_pieces" "_law_pieces" (defArgs s_l_pieces) (defBody s_l_pieces) (defScope s_l_pieces) .none kV33 dc33 pm33 an33 cd33 ct33), sl33⟩)
    (d33 : PySem.W.codeIn K cd33 "_law_pieces" = true)
    (k33 : PySem.W.keepIn K (.ref f33) = true)
    (a34 : PySem.W.nsIn K mainGlobals "_law_note_of" = some (some (.ref f34)))
    (l34 : K.lookup f34 = some ⟨oc34, od34, .func (PySem.W.fnOf "_law_note_of" "_law_note_of" (defArgs s_l_note_of) (defBody s_l_note_of) (defScope s_l_note_of) .none kV34 dc34 pm34 an34 cd34 ct34), sl34⟩)
    (d34 : PySem.W.codeIn K cd34 "_law_note_of" = true)
    (k34 : PySem.W.keepIn K (.ref f34) = true)
    (a35 : PySem.W.nsIn K mainGlobals "_law_played_right" = some (some (.ref f35)))
    (l35 : K.lookup f35 = some ⟨oc35, od35, .func (PySem.W.fnOf "_law_played_right" "_law_played_right" (defArgs s_l_played_right) (defBody s_l_played_right) (defScope s_l_played_right) .none kV35 dc35 pm35 an35 cd35 ct35), sl35⟩)
    (d35 : PySem.W.codeIn K cd35 "_law_played_right" = true)
    (k35 : PySem.W.keepIn K (.ref f35) = true)
    (a36 : PySem.W.nsIn K mainGlobals "_law_refusals_right" = some (some (.ref f36)))
    (l36 : K.lookup f36 = some ⟨oc36, od36, .func (PySem.W.fnOf "_law_refusals_right" "_law_refusals_right" (defArgs s_l_refusals_right) (defBody s_l_refusals_right) (defScope s_l_refusals_right) .none kV36 dc36 pm36 an36 cd36 ct36), sl36⟩)
    (d36 : PySem.W.codeIn K cd36 "_law_refusals_right" = true)
    (k36 : PySem.W.keepIn K (.ref f36) = true)
    (a37 : PySem.W.nsIn K mainGlobals "_law_right" = some (some (.ref f37)))
    (l37 : K.lookup f37 = some ⟨oc37, od37, .func (PySem.W.fnOf "_law_right" "_law_right" (defArgs s_l_right) (defBody s_l_right) (defScope s_l_right) .none kV37 dc37 pm37 an37 cd37 ct37), sl37⟩)
    (d37 : PySem.W.codeIn K cd37 "_law_right" = true)
    (k37 : PySem.W.keepIn K (.ref f37) = true)
    (a38 : PySem.W.nsIn K mainGlobals "law" = some (some (.ref f38)))
    (l38 : K.lookup f38 = some ⟨oc38, od38, .func (PySem.W.fnOf "law" "law" (defArgs s_law) (defBody s_law) (defScope s_law) .none kV38 dc38 pm38 an38 cd38 ct38), sl38⟩)
    (d38 : PySem.W.codeIn K cd38 "law" = true)
    (k38 : PySem.W.keepIn K (.ref f38) = true)
    (b_isinstance : PySem.W.nsIn K mainGlobals "isinstance" = some none)
    (b_int : PySem.W.nsIn K mainGlobals "int" = some none)
    (b_bool : PySem.W.nsIn K mainGlobals "bool" = some none)
    (b_tuple : PySem.W.nsIn K mainGlobals "tuple" = some none)
    (b_len : PySem.W.nsIn K mainGlobals "len" = some none)
    (b_min : PySem.W.nsIn K mainGlobals "min" = some none)
    (b_sorted : PySem.W.nsIn K mainGlobals "sorted" = some none)
    (b_range : PySem.W.nsIn K mainGlobals "range" = some none)
    (b_abs : PySem.W.nsIn K mainGlobals "abs" = some none)
    (b_max : PySem.W.nsIn K mainGlobals "max" = some none)
    (b_repr : PySem.W.nsIn K mainGlobals "repr" = some none)
    (b_all : PySem.W.nsIn K mainGlobals "all" = some none)
    (y_GREATEST : PySem.W.nsIn K mainGlobals "GREATEST" = some (some (.int 1000000000000000000000000000000 t_GREATEST)))
    (y__LONGEST : PySem.W.nsIn K mainGlobals "_LONGEST" = some (some (.int 99 t__LONGEST)))
    (pgB : PySem.W.plainGet K CB Str.empty = true)
    (hdB : PySem.W.hasDictIn K CB = true)
    (poB : PySem.W.plainOver K CB = true)
    (saB : PySem.W.findIn K (.ref CB) "__setattr__" = some (some (.builtin "object.__setattr__")))
    (mkcB : PySem.W.makesIn K CB = true)
    (kccB : PySem.W.keepIn K (.ref CB) = true)
    (nB_pieces : PySem.W.findIn K (.ref CB) "pieces" = some none)
    (nB_starts : PySem.W.findIn K (.ref CB) "starts" = some none)
    (nB_ahead : PySem.W.findIn K (.ref CB) "ahead" = some none)
    (nB_size : PySem.W.findIn K (.ref CB) "size" = some none)
    (nB_new : PySem.W.findIn K (.ref CB) "new" = some none)
    (m_z_clsB : PySem.W.findIn K (.ref CB) "__class__" = some (some (.builtin "object.__class__")))
    (m_z_mroB : PySem.W.mroIn K CB (.type "object") = some true)
    (m_z_tyB : PySem.W.typeIn K (.ref CB) = some (.type "type"))
    (m_z_get : PySem.W.specialIn K (.builtin "object.__class__") "__get__" = some (some (.builtin "getset_descriptor.__get__")))
    (m_z_tk : PySem.W.takesIn K (.builtin "object.__class__") = some true)
    (m_z_fn : PySem.W.fnIn K f17 = true)
    (b_ValueErrorX : PySem.W.nsIn K mainGlobals "ValueError" = some none)
    (zve : PySem.W.findCls K (.type "ValueError") (.type "type") "__init__" = some (.val (.builtin "ValueError.__init__")))
    (tin : PySem.W.typeIn K (.ref f0) = some (.type "function"))
    (zget : PySem.W.specialIn K (.builtin "object.__class__") "__get__" = some (some (.builtin "getset_descriptor.__get__")))
    (ztk : PySem.W.takesIn K (.builtin "object.__class__") = some true)
    (e0 : ExcF K c4 f0 c0)
    (e1 : ExcF K c4 f0 c1)
    (e2 : ExcF K c4 f0 c2)
    (e3 : ExcF K c4 f0 c3)
    (e4 : ExcF K c4 f0 c4)
    (nd : ([c0, c1, c2, c3, c4] : List Addr).Nodup)
    (hx35 : ((recsOf q).any fun d => d.name == "_law_played_right") = true)
    (hx36 : ((recsOf q).any fun d => d.name == "_law_refusals_right") = true)
    (hx37 : ((recsOf q).any fun d => d.name == "_law_right") = true) :
    ∃ (fd : FuncData) (cs : List (Addr × Addr)) (sp : Sp), (∀ p ∈ cs, PySem.W.CodeHd h p.1 p.2 ∧ h.get? p.2 = some tab0) ∧ (∀ (s : Shared) (u : Value), BindsTo s fd ⟨[u], []⟩ [("_law_script", u)]) ∧
        (∀ (H : Hp) (a : Addr) (ns : List Int), ns.length ≤ 63 → (∀ p ∈ cs, H p.2 = some (.tbl #[])) → SqL K H a (ns.map V.int) → sp [.ref a] H (fun v _ => v = .bl true) fun _ _ _ => False) ∧
        ∀ base : Heap, K.In base → base.Ns mainGlobals mg → (∀ p ∈ cs, TabB base mg p.1 p.2) → GOk l.prog w K mg base CX0 23 fa fd ["_law_script"] sp := by
  have e := hfa.symm.trans (PySem.W.mg_of X G a38)
  cases e
  have F0 := fun_mk (st := s_E_init) l0 d0 k0
  have F1 := fun_mk (st := s_is_whole) l1 d1 k1
  have F2 := fun_mk (st := s_is_from) l2 d2 k2
  have F3 := fun_mk (st := s_is_between) l3 d3 k3
  have F4 := fun_mk (st := s_led_by) l4 d4 k4
  have F5 := fun_mk (st := s_led_on) l5 d5 k5
  have F6 := fun_mk (st := s_led_often) l6 d6 k6
  have F7 := fun_mk (st := s_word_of) l7 d7 k7
  have F8 := fun_mk (st := s_length_of) l8 d8 k8
  have F9 := fun_mk (st := s_starts_of) l9 d9 k9
  have F10 := fun_mk (st := s_new_ahead) l10 d10 k10
  have F11 := fun_mk (st := s_index_at) l11 d11 k11
  have F12 := fun_mk (st := s_read) l12 d12 k12
  have F13 := fun_mk (st := s_source) l13 d13 k13
  have F14 := fun_mk (st := s_check_place) l14 d14 k14
  have F15 := fun_mk (st := s_check_stretch) l15 d15 k15
  have F16 := fun_mk (st := s_M_init) l16 d16 k16
  have F17 := fun_mk (st := s_M_getitem) l17 d17 k17
  have F18 := fun_mk (st := s_M_played) l18 d18 k18
  have F19 := fun_mk (st := s_note_of) l19 d19 k19
  have F20 := fun_mk (st := s_are_pieces) l20 d20 k20
  have F21 := fun_mk (st := s_is_piece) l21 d21 k21
  have F22 := fun_mk (st := s_is_copy) l22 d22 k22
  have F23 := fun_mk (st := s_l_pot) l23 d23 k23
  have F24 := fun_mk (st := s_l_take) l24 d24 k24
  have F25 := fun_mk (st := s_l_of) l25 d25 k25
  have F26 := fun_mk (st := s_l_pots) l26 d26 k26
  have F27 := fun_mk (st := s_l_told) l27 d27 k27
  have F28 := fun_mk (st := s_l_is_int) l28 d28 k28
  have F29 := fun_mk (st := s_l_amount) l29 d29 k29
  have F30 := fun_mk (st := s_l_lead) l30 d30 k30
  have F31 := fun_mk (st := s_l_shown) l31 d31 k31
  have F32 := fun_mk (st := s_l_piece) l32 d32 k32
  have F33 := fun_mk (st := s_l_pieces) l33 d33 k33
  have F34 := fun_mk (st := s_l_note_of) l34 d34 k34
  obtain ⟨cc35, PT35, ecd35, hcd35, htb35⟩ := tab_at tab X hx35 (PySem.W.mg_of X G a35) l35
  have ecd35' : cd35 = .ref cc35 := ecd35
  subst ecd35'
  have F35 : FunC K "_law_played_right" "_law_played_right" s_l_played_right f35 (PySem.W.fnOf "_law_played_right" "_law_played_right" (defArgs s_l_played_right) (defBody s_l_played_right) (defScope s_l_played_right) .none kV35 dc35 pm35 an35 (.ref cc35) ct35) cc35 := ⟨⟨_, _, _, _, _, _, _, _, rfl, l35, d35⟩, k35⟩
  obtain ⟨cc36, PT36, ecd36, hcd36, htb36⟩ := tab_at tab X hx36 (PySem.W.mg_of X G a36) l36
  have ecd36' : cd36 = .ref cc36 := ecd36
  subst ecd36'
  have F36 : FunC K "_law_refusals_right" "_law_refusals_right" s_l_refusals_right f36 (PySem.W.fnOf "_law_refusals_right" "_law_refusals_right" (defArgs s_l_refusals_right) (defBody s_l_refusals_right) (defScope s_l_refusals_right) .none kV36 dc36 pm36 an36 (.ref cc36) ct36) cc36 := ⟨⟨_, _, _, _, _, _, _, _, rfl, l36, d36⟩, k36⟩
  obtain ⟨cc37, PT37, ecd37, hcd37, htb37⟩ := tab_at tab X hx37 (PySem.W.mg_of X G a37) l37
  have ecd37' : cd37 = .ref cc37 := ecd37
  subst ecd37'
  have F37 : FunC K "_law_right" "_law_right" s_l_right f37 (PySem.W.fnOf "_law_right" "_law_right" (defArgs s_l_right) (defBody s_l_right) (defScope s_l_right) .none kV37 dc37 pm37 an37 (.ref cc37) ct37) cc37 := ⟨⟨_, _, _, _, _, _, _, _, rfl, l37, d37⟩, k37⟩
  have F38 := fun_mk (st := s_law) l38 d38 k38
  have cs_all : ∀ i, i < 5 → ExcT K c4 f0 (([c0, c1, c2, c3, c4] : List Addr).getD i 0) := fun i hi => match i, hi with
    | 0, _ => e0.all zget ztk
    | 1, _ => e1.all zget ztk
    | 2, _ => e2.all zget ztk
    | 3, _ => e3.all zget ztk
    | 4, _ => e4.all zget ztk
    | i + 5, h => absurd h (by omega)
  have T : Txt K mg { aS := aS, f_E_init := f0, d_E_init := PySem.W.fnOf "__init__" "TuneError.__init__" (defArgs s_E_init) (defBody s_E_init) (defScope s_E_init) .none kV0 dc0 pm0 an0 cd0 ct0, f_is_whole := f1, d_is_whole := PySem.W.fnOf "is_whole" "is_whole" (defArgs s_is_whole) (defBody s_is_whole) (defScope s_is_whole) .none kV1 dc1 pm1 an1 cd1 ct1, f_is_from := f2, d_is_from := PySem.W.fnOf "is_from" "is_from" (defArgs s_is_from) (defBody s_is_from) (defScope s_is_from) .none kV2 dc2 pm2 an2 cd2 ct2, f_is_between := f3, d_is_between := PySem.W.fnOf "is_between" "is_between" (defArgs s_is_between) (defBody s_is_between) (defScope s_is_between) .none kV3 dc3 pm3 an3 cd3 ct3, f_led_by := f4, d_led_by := PySem.W.fnOf "led_by" "led_by" (defArgs s_led_by) (defBody s_led_by) (defScope s_led_by) .none kV4 dc4 pm4 an4 cd4 ct4, f_led_on := f5, d_led_on := PySem.W.fnOf "led_on" "led_on" (defArgs s_led_on) (defBody s_led_on) (defScope s_led_on) .none kV5 dc5 pm5 an5 cd5 ct5, f_led_often := f6, d_led_often := PySem.W.fnOf "led_often" "led_often" (defArgs s_led_often) (defBody s_led_often) (defScope s_led_often) .none kV6 dc6 pm6 an6 cd6 ct6, f_word_of := f7, d_word_of := PySem.W.fnOf "word_of" "word_of" (defArgs s_word_of) (defBody s_word_of) (defScope s_word_of) .none kV7 dc7 pm7 an7 cd7 ct7, f_length_of := f8, d_length_of := PySem.W.fnOf "length_of" "length_of" (defArgs s_length_of) (defBody s_length_of) (defScope s_length_of) .none kV8 dc8 pm8 an8 cd8 ct8, f_starts_of := f9, d_starts_of := PySem.W.fnOf "starts_of" "starts_of" (defArgs s_starts_of) (defBody s_starts_of) (defScope s_starts_of) .none kV9 dc9 pm9 an9 cd9 ct9, f_new_ahead := f10, d_new_ahead := PySem.W.fnOf "new_ahead" "new_ahead" (defArgs s_new_ahead) (defBody s_new_ahead) (defScope s_new_ahead) .none kV10 dc10 pm10 an10 cd10 ct10, f_index_at := f11, d_index_at := PySem.W.fnOf "index_at" "index_at" (defArgs s_index_at) (defBody s_index_at) (defScope s_index_at) .none kV11 dc11 pm11 an11 cd11 ct11, f_read := f12, d_read := PySem.W.fnOf "read" "read" (defArgs s_read) (defBody s_read) (defScope s_read) .none kV12 dc12 pm12 an12 cd12 ct12, f_source := f13, d_source := PySem.W.fnOf "_source" "_source" (defArgs s_source) (defBody s_source) (defScope s_source) .none kV13 dc13 pm13 an13 cd13 ct13, f_check_place := f14, d_check_place := PySem.W.fnOf "check_place" "check_place" (defArgs s_check_place) (defBody s_check_place) (defScope s_check_place) .none kV14 dc14 pm14 an14 cd14 ct14, f_check_stretch := f15, d_check_stretch := PySem.W.fnOf "check_stretch" "check_stretch" (defArgs s_check_stretch) (defBody s_check_stretch) (defScope s_check_stretch) .none kV15 dc15 pm15 an15 cd15 ct15, f_M_init := f16, d_M_init := PySem.W.fnOf "__init__" "Melody.__init__" (defArgs s_M_init) (defBody s_M_init) (defScope s_M_init) .none kV16 dc16 pm16 an16 cd16 ct16, f_M_getitem := f17, d_M_getitem := PySem.W.fnOf "__getitem__" "Melody.__getitem__" (defArgs s_M_getitem) (defBody s_M_getitem) (defScope s_M_getitem) .none kV17 dc17 pm17 an17 cd17 ct17, f_M_played := f18, d_M_played := PySem.W.fnOf "played" "Melody.played" (defArgs s_M_played) (defBody s_M_played) (defScope s_M_played) .none kV18 dc18 pm18 an18 cd18 ct18, f_note_of := f19, d_note_of := PySem.W.fnOf "_note_of" "_note_of" (defArgs s_note_of) (defBody s_note_of) (defScope s_note_of) .none kV19 dc19 pm19 an19 cd19 ct19, f_are_pieces := f20, d_are_pieces := PySem.W.fnOf "_are_pieces" "_are_pieces" (defArgs s_are_pieces) (defBody s_are_pieces) (defScope s_are_pieces) .none kV20 dc20 pm20 an20 cd20 ct20, f_is_piece := f21, d_is_piece := PySem.W.fnOf "_is_piece" "_is_piece" (defArgs s_is_piece) (defBody s_is_piece) (defScope s_is_piece) .none kV21 dc21 pm21 an21 cd21 ct21, f_is_copy := f22, d_is_copy := PySem.W.fnOf "_is_copy" "_is_copy" (defArgs s_is_copy) (defBody s_is_copy) (defScope s_is_copy) .none kV22 dc22 pm22 an22 cd22 ct22, f_l_pot := f23, d_l_pot := PySem.W.fnOf "_law_pot" "_law_pot" (defArgs s_l_pot) (defBody s_l_pot) (defScope s_l_pot) .none kV23 dc23 pm23 an23 cd23 ct23, f_l_take := f24, d_l_take := PySem.W.fnOf "_law_take" "_law_take" (defArgs s_l_take) (defBody s_l_take) (defScope s_l_take) .none kV24 dc24 pm24 an24 cd24 ct24, f_l_of := f25, d_l_of := PySem.W.fnOf "_law_of" "_law_of" (defArgs s_l_of) (defBody s_l_of) (defScope s_l_of) .none kV25 dc25 pm25 an25 cd25 ct25, f_l_pots := f26, d_l_pots := PySem.W.fnOf "_law_pots" "_law_pots" (defArgs s_l_pots) (defBody s_l_pots) (defScope s_l_pots) .none kV26 dc26 pm26 an26 cd26 ct26, f_l_told := f27, d_l_told := PySem.W.fnOf "_law_told" "_law_told" (defArgs s_l_told) (defBody s_l_told) (defScope s_l_told) .none kV27 dc27 pm27 an27 cd27 ct27, f_l_is_int := f28, d_l_is_int := PySem.W.fnOf "_law_is_int" "_law_is_int" (defArgs s_l_is_int) (defBody s_l_is_int) (defScope s_l_is_int) .none kV28 dc28 pm28 an28 cd28 ct28, f_l_amount := f29, d_l_amount := PySem.W.fnOf "_law_amount" "_law_amount" (defArgs s_l_amount) (defBody s_l_amount) (defScope s_l_amount) .none kV29 dc29 pm29 an29 cd29 ct29, f_l_lead := f30, d_l_lead := PySem.W.fnOf "_law_lead" "_law_lead" (defArgs s_l_lead) (defBody s_l_lead) (defScope s_l_lead) .none kV30 dc30 pm30 an30 cd30 ct30, f_l_shown := f31, d_l_shown := PySem.W.fnOf "_law_shown" "_law_shown" (defArgs s_l_shown) (defBody s_l_shown) (defScope s_l_shown) .none kV31 dc31 pm31 an31 cd31 ct31, f_l_piece := f32, d_l_piece := PySem.W.fnOf "_law_piece" "_law_piece" (defArgs s_l_piece) (defBody s_l_piece) (defScope s_l_piece) .none kV32 dc32 pm32 an32 cd32 ct32, f_l_pieces := f33, d_l_pieces := PySem.W.fnOf "_law_pieces" "_law_pieces" (defArgs s_l_pieces) (defBody s_l_pieces) (defScope s_l_pieces) .none kV33 dc33 pm33 an33 cd33 ct33, f_l_note_of := f34, d_l_note_of := PySem.W.fnOf "_law_note_of" "_law_note_of" (defArgs s_l_note_of) (defBody s_l_note_of) (defScope s_l_note_of) .none kV34 dc34 pm34 an34 cd34 ct34, f_l_played_right := f35, d_l_played_right := PySem.W.fnOf "_law_played_right" "_law_played_right" (defArgs s_l_played_right) (defBody s_l_played_right) (defScope s_l_played_right) .none kV35 dc35 pm35 an35 (.ref cc35) ct35, c_l_played_right := cc35, t_l_played_right := PT35, f_l_refusals_right := f36, d_l_refusals_right := PySem.W.fnOf "_law_refusals_right" "_law_refusals_right" (defArgs s_l_refusals_right) (defBody s_l_refusals_right) (defScope s_l_refusals_right) .none kV36 dc36 pm36 an36 (.ref cc36) ct36, c_l_refusals_right := cc36, t_l_refusals_right := PT36, f_l_right := f37, d_l_right := PySem.W.fnOf "_law_right" "_law_right" (defArgs s_l_right) (defBody s_l_right) (defScope s_l_right) .none kV37 dc37 pm37 an37 (.ref cc37) ct37, c_l_right := cc37, t_l_right := PT37, f_law := fa, d_law := PySem.W.fnOf "law" "law" (defArgs s_law) (defBody s_law) (defScope s_law) .none kV38 dc38 pm38 an38 cd38 ct38, t_GREATEST := t_GREATEST, t__LONGEST := t__LONGEST, cB := CB, c := fun i => ([c0, c1, c2, c3, c4] : List Addr).getD i 0 } := { g_NoPlace := PySem.W.mg_of X G ge0, g_BadPieces := PySem.W.mg_of X G ge1, g_BadLength := PySem.W.mg_of X G ge2, g_BadNote := PySem.W.mg_of X G ge3, g_TuneError := PySem.W.mg_of X G ge4, F_E_init := F0, bn_E_init := F0.binds (ps := ["self", "value"]) fun _ _ _ _ _ _ us hl => match us, hl with | [_, _], _ => rfl, k_E_init := k0, i_E_init := i0, F_is_whole := F1, bn_is_whole := F1.binds (ps := ["value"]) fun _ _ _ _ _ _ us hl => match us, hl with | [_], _ => rfl, k_is_whole := k1, g_is_whole := PySem.W.mg_of X G a1, F_is_from := F2, bn_is_from := F2.binds (ps := ["value", "least"]) fun _ _ _ _ _ _ us hl => match us, hl with | [_, _], _ => rfl, k_is_from := k2, g_is_from := PySem.W.mg_of X G a2, F_is_between := F3, bn_is_between := F3.binds (ps := ["value", "least", "greatest"]) fun _ _ _ _ _ _ us hl => match us, hl with | [_, _, _], _ => rfl, k_is_between := k3, g_is_between := PySem.W.mg_of X G a3, F_led_by := F4, bn_led_by := F4.binds (ps := ["lead", "note"]) fun _ _ _ _ _ _ us hl => match us, hl with | [_, _], _ => rfl, k_led_by := k4, g_led_by := PySem.W.mg_of X G a4, F_led_on := F5, bn_led_on := F5.binds (ps := ["lead", "other"]) fun _ _ _ _ _ _ us hl => match us, hl with | [_, _], _ => rfl, k_led_on := k5, g_led_on := PySem.W.mg_of X G a5, F_led_often := F6, bn_led_often := F6.binds (ps := ["lead", "many"]) fun _ _ _ _ _ _ us hl => match us, hl with | [_, _], _ => rfl, k_led_often := k6, g_led_often := PySem.W.mg_of X G a6, F_word_of := F7, bn_word_of := F7.binds (ps := ["lead"]) fun _ _ _ _ _ _ us hl => match us, hl with | [_], _ => rfl, k_word_of := k7, g_word_of := PySem.W.mg_of X G a7, F_length_of := F8, bn_length_of := F8.binds (ps := ["piece"]) fun _ _ _ _ _ _ us hl => match us, hl with | [_], _ => rfl, k_length_of := k8, g_length_of := PySem.W.mg_of X G a8, F_starts_of := F9, bn_starts_of := F9.binds (ps := ["pieces"]) fun _ _ _ _ _ _ us hl => match us, hl with | [_], _ => rfl, k_starts_of := k9, g_starts_of := PySem.W.mg_of X G a9, F_new_ahead := F10, bn_new_ahead := F10.binds (ps := ["pieces"]) fun _ _ _ _ _ _ us hl => match us, hl with | [_], _ => rfl, k_new_ahead := k10, g_new_ahead := PySem.W.mg_of X G a10, F_index_at := F11, bn_index_at := F11.binds (ps := ["starts", "place"]) fun _ _ _ _ _ _ us hl => match us, hl with | [_, _], _ => rfl, k_index_at := k11, g_index_at := PySem.W.mg_of X G a11, F_read := F12, bn_read := F12.binds (ps := ["pieces", "starts", "place"]) fun _ _ _ _ _ _ us hl => match us, hl with | [_, _, _], _ => rfl, k_read := k12, g_read := PySem.W.mg_of X G a12, F_source := F13, bn_source := F13.binds (ps := ["piece", "here", "place"]) fun _ _ _ _ _ _ us hl => match us, hl with | [_, _, _], _ => rfl, k_source := k13, g_source := PySem.W.mg_of X G a13, F_check_place := F14, bn_check_place := F14.binds (ps := ["place", "size"]) fun _ _ _ _ _ _ us hl => match us, hl with | [_, _], _ => rfl, k_check_place := k14, g_check_place := PySem.W.mg_of X G a14, F_check_stretch := F15, bn_check_stretch := F15.binds (ps := ["first", "length", "size"]) fun _ _ _ _ _ _ us hl => match us, hl with | [_, _, _], _ => rfl, k_check_stretch := k15, g_check_stretch := PySem.W.mg_of X G a15, F_M_init := F16, bn_M_init := F16.binds (ps := ["self", "pieces"]) fun _ _ _ _ _ _ us hl => match us, hl with | [_, _], _ => rfl, k_M_init := k16, i_M_init := i16, a_M_init := a16, F_M_getitem := F17, bn_M_getitem := F17.binds (ps := ["self", "at"]) fun _ _ _ _ _ _ us hl => match us, hl with | [_, _], _ => rfl, k_M_getitem := k17, i_M_getitem := i17, a_M_getitem := a17, F_M_played := F18, bn_M_played := F18.binds (ps := ["self", "look", "first", "length"]) fun _ _ _ _ _ _ us hl => match us, hl with | [_, _, _, _], _ => rfl, k_M_played := k18, i_M_played := i18, a_M_played := a18, F_note_of := F19, bn_note_of := F19.binds (ps := ["what", "chosen"]) fun _ _ _ _ _ _ us hl => match us, hl with | [_, _], _ => rfl, k_note_of := k19, g_note_of := PySem.W.mg_of X G a19, F_are_pieces := F20, bn_are_pieces := F20.binds (ps := ["value"]) fun _ _ _ _ _ _ us hl => match us, hl with | [_], _ => rfl, k_are_pieces := k20, g_are_pieces := PySem.W.mg_of X G a20, F_is_piece := F21, bn_is_piece := F21.binds (ps := ["value", "here"]) fun _ _ _ _ _ _ us hl => match us, hl with | [_, _], _ => rfl, k_is_piece := k21, g_is_piece := PySem.W.mg_of X G a21, F_is_copy := F22, bn_is_copy := F22.binds (ps := ["piece", "here"]) fun _ _ _ _ _ _ us hl => match us, hl with | [_, _], _ => rfl, k_is_copy := k22, g_is_copy := PySem.W.mg_of X G a22, F_l_pot := F23, bn_l_pot := F23.binds (ps := ["_law_script", "_law_k"]) fun _ _ _ _ _ _ us hl => match us, hl with | [_, _], _ => rfl, k_l_pot := k23, g_l_pot := PySem.W.mg_of X G a23, F_l_take := F24, bn_l_take := F24.binds (ps := ["_law_pot_here", "_law_upto"]) fun _ _ _ _ _ _ us hl => match us, hl with | [_, _], _ => rfl, k_l_take := k24, g_l_take := PySem.W.mg_of X G a24, F_l_of := F25, bn_l_of := F25.binds (ps := ["_law_pot_here", "_law_some"]) fun _ _ _ _ _ _ us hl => match us, hl with | [_, _], _ => rfl, k_l_of := k25, g_l_of := PySem.W.mg_of X G a25, F_l_pots := F26, bn_l_pots := F26.binds (ps := ["_law_script", "_law_most"]) fun _ _ _ _ _ _ us hl => match us, hl with | [_, _], _ => rfl, k_l_pots := k26, g_l_pots := PySem.W.mg_of X G a26, F_l_told := F27, bn_l_told := F27.binds (ps := ["_law_look_here"]) fun _ _ _ _ _ _ us hl => match us, hl with | [_], _ => rfl, k_l_told := k27, g_l_told := PySem.W.mg_of X G a27, F_l_is_int := F28, bn_l_is_int := F28.binds (ps := ["_law_value", "_law_low", "_law_high"]) fun _ _ _ _ _ _ us hl => match us, hl with | [_, _, _], _ => rfl, k_l_is_int := k28, g_l_is_int := PySem.W.mg_of X G a28, F_l_amount := F29, bn_l_amount := F29.binds (ps := ["_law_pot_here"]) fun _ _ _ _ _ _ us hl => match us, hl with | [_], _ => rfl, k_l_amount := k29, g_l_amount := PySem.W.mg_of X G a29, F_l_lead := F30, bn_l_lead := F30.binds (ps := ["_law_entry", "_law_is_down", "_law_amount_here"]) fun _ _ _ _ _ _ us hl => match us, hl with | [_, _, _], _ => rfl, k_l_lead := k30, g_l_lead := PySem.W.mg_of X G a30, F_l_shown := F31, bn_l_shown := F31.binds (ps := ["_law_pieces_here"]) fun _ _ _ _ _ _ us hl => match us, hl with | [_], _ => rfl, k_l_shown := k31, g_l_shown := PySem.W.mg_of X G a31, F_l_piece := F32, bn_l_piece := F32.binds (ps := ["_law_pot_here", "_law_here", "_law_room_left"]) fun _ _ _ _ _ _ us hl => match us, hl with | [_, _, _], _ => rfl, k_l_piece := k32, g_l_piece := PySem.W.mg_of X G a32, F_l_pieces := F33, bn_l_pieces := F33.binds (ps := ["_law_pot_here", "_law_size"]) fun _ _ _ _ _ _ us hl => match us, hl with | [_, _], _ => rfl, k_l_pieces := k33, g_l_pieces := PySem.W.mg_of X G a33, F_l_note_of := F34, bn_l_note_of := F34.binds (ps := ["_law_entry", "_law_notes"]) fun _ _ _ _ _ _ us hl => match us, hl with | [_, _], _ => rfl, k_l_note_of := k34, g_l_note_of := PySem.W.mg_of X G a34, F_l_played_right := F35, bn_l_played_right := F35.fn.binds (ps := ["_law_pot_here", "_law_tune", "_law_shown_here", "_law_notes"]) fun _ _ _ _ _ _ us hl => match us, hl with | [_, _, _, _], _ => rfl, k_l_played_right := k35, g_l_played_right := PySem.W.mg_of X G a35, F_l_refusals_right := F36, bn_l_refusals_right := F36.fn.binds (ps := ["_law_pot_here", "_law_tune", "_law_size"]) fun _ _ _ _ _ _ us hl => match us, hl with | [_, _, _], _ => rfl, k_l_refusals_right := k36, g_l_refusals_right := PySem.W.mg_of X G a36, F_l_right := F37, bn_l_right := F37.fn.binds (ps := ["_law_pot_here"]) fun _ _ _ _ _ _ us hl => match us, hl with | [_], _ => rfl, k_l_right := k37, g_l_right := PySem.W.mg_of X G a37, F_law := F38, bn_law := F38.binds (ps := ["_law_script"]) fun _ _ _ _ _ _ us hl => match us, hl with | [_], _ => rfl, k_law := k38, g_law := PySem.W.mg_of X G a38, b_isinstance := PySem.W.mg_none_of X G b_isinstance, b_int := PySem.W.mg_none_of X G b_int, b_bool := PySem.W.mg_none_of X G b_bool, b_tuple := PySem.W.mg_none_of X G b_tuple, b_len := PySem.W.mg_none_of X G b_len, b_min := PySem.W.mg_none_of X G b_min, b_sorted := PySem.W.mg_none_of X G b_sorted, b_range := PySem.W.mg_none_of X G b_range, b_abs := PySem.W.mg_none_of X G b_abs, b_max := PySem.W.mg_none_of X G b_max, b_repr := PySem.W.mg_none_of X G b_repr, b_all := PySem.W.mg_none_of X G b_all, c_GREATEST := PySem.W.mg_of X G y_GREATEST, c__LONGEST := PySem.W.mg_of X G y__LONGEST, clB := ⟨pgB, hdB, poB, saB⟩, g_Bk := PySem.W.mg_of X G aB, mkBc := mkcB, kB := kccB, nB_pieces := nB_pieces, nB_starts := nB_starts, nB_ahead := nB_ahead, nB_size := nB_size, nB_new := nB_new, z_clsB := m_z_clsB, z_mroB := m_z_mroB, z_kitB := kit_self, z_tyB := m_z_tyB, z_get := m_z_get, z_tk := m_z_tk, z_fn := m_z_fn, b_set := PySem.W.mg_none_of X G m_set, g_source_pieces := PySem.W.mg_of X G m_sp, g_STILL := PySem.W.mg_of X G m_st, z_still := fun H => .inr ⟨_, _, _, m_sl, rfl, rfl, by show 2 ≤ sizeLine; decide, .cons ⟨_, rfl⟩ (.cons rfl .nil)⟩, b_ValueError := PySem.W.mg_none_of X G b_ValueErrorX, z_ve := zve, t_E_init := tin, ex := fun i hi => cs_all i hi, nd := fun i j hi hj e => nd_at nd (by simpa using hi) (by simpa using hj) e }
  refine ⟨_, [(cc35, PT35), (cc36, PT36), (cc37, PT37)], sp_law K { aS := aS, f_E_init := f0, d_E_init := PySem.W.fnOf "__init__" "TuneError.__init__" (defArgs s_E_init) (defBody s_E_init) (defScope s_E_init) .none kV0 dc0 pm0 an0 cd0 ct0, f_is_whole := f1, d_is_whole := PySem.W.fnOf "is_whole" "is_whole" (defArgs s_is_whole) (defBody s_is_whole) (defScope s_is_whole) .none kV1 dc1 pm1 an1 cd1 ct1, f_is_from := f2, d_is_from := PySem.W.fnOf "is_from" "is_from" (defArgs s_is_from) (defBody s_is_from) (defScope s_is_from) .none kV2 dc2 pm2 an2 cd2 ct2, f_is_between := f3, d_is_between := PySem.W.fnOf "is_between" "is_between" (defArgs s_is_between) (defBody s_is_between) (defScope s_is_between) .none kV3 dc3 pm3 an3 cd3 ct3, f_led_by := f4, d_led_by := PySem.W.fnOf "led_by" "led_by" (defArgs s_led_by) (defBody s_led_by) (defScope s_led_by) .none kV4 dc4 pm4 an4 cd4 ct4, f_led_on := f5, d_led_on := PySem.W.fnOf "led_on" "led_on" (defArgs s_led_on) (defBody s_led_on) (defScope s_led_on) .none kV5 dc5 pm5 an5 cd5 ct5, f_led_often := f6, d_led_often := PySem.W.fnOf "led_often" "led_often" (defArgs s_led_often) (defBody s_led_often) (defScope s_led_often) .none kV6 dc6 pm6 an6 cd6 ct6, f_word_of := f7, d_word_of := PySem.W.fnOf "word_of" "word_of" (defArgs s_word_of) (defBody s_word_of) (defScope s_word_of) .none kV7 dc7 pm7 an7 cd7 ct7, f_length_of := f8, d_length_of := PySem.W.fnOf "length_of" "length_of" (defArgs s_length_of) (defBody s_length_of) (defScope s_length_of) .none kV8 dc8 pm8 an8 cd8 ct8, f_starts_of := f9, d_starts_of := PySem.W.fnOf "starts_of" "starts_of" (defArgs s_starts_of) (defBody s_starts_of) (defScope s_starts_of) .none kV9 dc9 pm9 an9 cd9 ct9, f_new_ahead := f10, d_new_ahead := PySem.W.fnOf "new_ahead" "new_ahead" (defArgs s_new_ahead) (defBody s_new_ahead) (defScope s_new_ahead) .none kV10 dc10 pm10 an10 cd10 ct10, f_index_at := f11, d_index_at := PySem.W.fnOf "index_at" "index_at" (defArgs s_index_at) (defBody s_index_at) (defScope s_index_at) .none kV11 dc11 pm11 an11 cd11 ct11, f_read := f12, d_read := PySem.W.fnOf "read" "read" (defArgs s_read) (defBody s_read) (defScope s_read) .none kV12 dc12 pm12 an12 cd12 ct12, f_source := f13, d_source := PySem.W.fnOf "_source" "_source" (defArgs s_source) (defBody s_source) (defScope s_source) .none kV13 dc13 pm13 an13 cd13 ct13, f_check_place := f14, d_check_place := PySem.W.fnOf "check_place" "check_place" (defArgs s_check_place) (defBody s_check_place) (defScope s_check_place) .none kV14 dc14 pm14 an14 cd14 ct14, f_check_stretch := f15, d_check_stretch := PySem.W.fnOf "check_stretch" "check_stretch" (defArgs s_check_stretch) (defBody s_check_stretch) (defScope s_check_stretch) .none kV15 dc15 pm15 an15 cd15 ct15, f_M_init := f16, d_M_init := PySem.W.fnOf "__init__" "Melody.__init__" (defArgs s_M_init) (defBody s_M_init) (defScope s_M_init) .none kV16 dc16 pm16 an16 cd16 ct16, f_M_getitem := f17, d_M_getitem := PySem.W.fnOf "__getitem__" "Melody.__getitem__" (defArgs s_M_getitem) (defBody s_M_getitem) (defScope s_M_getitem) .none kV17 dc17 pm17 an17 cd17 ct17, f_M_played := f18, d_M_played := PySem.W.fnOf "played" "Melody.played" (defArgs s_M_played) (defBody s_M_played) (defScope s_M_played) .none kV18 dc18 pm18 an18 cd18 ct18, f_note_of := f19, d_note_of := PySem.W.fnOf "_note_of" "_note_of" (defArgs s_note_of) (defBody s_note_of) (defScope s_note_of) .none kV19 dc19 pm19 an19 cd19 ct19, f_are_pieces := f20, d_are_pieces := PySem.W.fnOf "_are_pieces" "_are_pieces" (defArgs s_are_pieces) (defBody s_are_pieces) (defScope s_are_pieces) .none kV20 dc20 pm20 an20 cd20 ct20, f_is_piece := f21, d_is_piece := PySem.W.fnOf "_is_piece" "_is_piece" (defArgs s_is_piece) (defBody s_is_piece) (defScope s_is_piece) .none kV21 dc21 pm21 an21 cd21 ct21, f_is_copy := f22, d_is_copy := PySem.W.fnOf "_is_copy" "_is_copy" (defArgs s_is_copy) (defBody s_is_copy) (defScope s_is_copy) .none kV22 dc22 pm22 an22 cd22 ct22, f_l_pot := f23, d_l_pot := PySem.W.fnOf "_law_pot" "_law_pot" (defArgs s_l_pot) (defBody s_l_pot) (defScope s_l_pot) .none kV23 dc23 pm23 an23 cd23 ct23, f_l_take := f24, d_l_take := PySem.W.fnOf "_law_take" "_law_take" (defArgs s_l_take) (defBody s_l_take) (defScope s_l_take) .none kV24 dc24 pm24 an24 cd24 ct24, f_l_of := f25, d_l_of := PySem.W.fnOf "_law_of" "_law_of" (defArgs s_l_of) (defBody s_l_of) (defScope s_l_of) .none kV25 dc25 pm25 an25 cd25 ct25, f_l_pots := f26, d_l_pots := PySem.W.fnOf "_law_pots" "_law_pots" (defArgs s_l_pots) (defBody s_l_pots) (defScope s_l_pots) .none kV26 dc26 pm26 an26 cd26 ct26, f_l_told := f27, d_l_told := PySem.W.fnOf "_law_told" "_law_told" (defArgs s_l_told) (defBody s_l_told) (defScope s_l_told) .none kV27 dc27 pm27 an27 cd27 ct27, f_l_is_int := f28, d_l_is_int := PySem.W.fnOf "_law_is_int" "_law_is_int" (defArgs s_l_is_int) (defBody s_l_is_int) (defScope s_l_is_int) .none kV28 dc28 pm28 an28 cd28 ct28, f_l_amount := f29, d_l_amount := PySem.W.fnOf "_law_amount" "_law_amount" (defArgs s_l_amount) (defBody s_l_amount) (defScope s_l_amount) .none kV29 dc29 pm29 an29 cd29 ct29, f_l_lead := f30, d_l_lead := PySem.W.fnOf "_law_lead" "_law_lead" (defArgs s_l_lead) (defBody s_l_lead) (defScope s_l_lead) .none kV30 dc30 pm30 an30 cd30 ct30, f_l_shown := f31, d_l_shown := PySem.W.fnOf "_law_shown" "_law_shown" (defArgs s_l_shown) (defBody s_l_shown) (defScope s_l_shown) .none kV31 dc31 pm31 an31 cd31 ct31, f_l_piece := f32, d_l_piece := PySem.W.fnOf "_law_piece" "_law_piece" (defArgs s_l_piece) (defBody s_l_piece) (defScope s_l_piece) .none kV32 dc32 pm32 an32 cd32 ct32, f_l_pieces := f33, d_l_pieces := PySem.W.fnOf "_law_pieces" "_law_pieces" (defArgs s_l_pieces) (defBody s_l_pieces) (defScope s_l_pieces) .none kV33 dc33 pm33 an33 cd33 ct33, f_l_note_of := f34, d_l_note_of := PySem.W.fnOf "_law_note_of" "_law_note_of" (defArgs s_l_note_of) (defBody s_l_note_of) (defScope s_l_note_of) .none kV34 dc34 pm34 an34 cd34 ct34, f_l_played_right := f35, d_l_played_right := PySem.W.fnOf "_law_played_right" "_law_played_right" (defArgs s_l_played_right) (defBody s_l_played_right) (defScope s_l_played_right) .none kV35 dc35 pm35 an35 (.ref cc35) ct35, c_l_played_right := cc35, t_l_played_right := PT35, f_l_refusals_right := f36, d_l_refusals_right := PySem.W.fnOf "_law_refusals_right" "_law_refusals_right" (defArgs s_l_refusals_right) (defBody s_l_refusals_right) (defScope s_l_refusals_right) .none kV36 dc36 pm36 an36 (.ref cc36) ct36, c_l_refusals_right := cc36, t_l_refusals_right := PT36, f_l_right := f37, d_l_right := PySem.W.fnOf "_law_right" "_law_right" (defArgs s_l_right) (defBody s_l_right) (defScope s_l_right) .none kV37 dc37 pm37 an37 (.ref cc37) ct37, c_l_right := cc37, t_l_right := PT37, f_law := fa, d_law := PySem.W.fnOf "law" "law" (defArgs s_law) (defBody s_law) (defScope s_law) .none kV38 dc38 pm38 an38 cd38 ct38, t_GREATEST := t_GREATEST, t__LONGEST := t__LONGEST, cB := CB, c := fun i => ([c0, c1, c2, c3, c4] : List Addr).getD i 0 }, fun p hp => ?_, fun s v => .of_eq rfl, fun H a ns hl hT hS => ⟨a, ns, rfl, hS, hl, fun p hp => ?_, fun _ => rfl⟩, fun base _ _ hTB => ok_law T (hTB (cc35, PT35) (by simp)) (hTB (cc36, PT36) (by simp)) (hTB (cc37, PT37) (by simp))⟩
  · simp only [List.mem_cons, List.not_mem_nil, or_false] at hp
    rcases hp with rfl | rfl | rfl
    · exact ⟨hcd35, htb35⟩
    · exact ⟨hcd36, htb36⟩
    · exact ⟨hcd37, htb37⟩
  · simp only [tabs, List.mem_cons, List.not_mem_nil, or_false] at hp
    rcases hp with rfl | rfl | rfl
    · exact tabK_nil (hT (cc35, PT35) (by simp))
    · exact tabK_nil (hT (cc36, PT36) (by simp))
    · exact tabK_nil (hT (cc37, PT37) (by simp))
end TT

set_option Elab.async false
set_option linter.all false
open PySem PySem.W PyProof.Rows
set_option maxRecDepth 100000 in
set_option maxHeartbeats 0 in
theorem PySem.Challenge.cw_turnedtunes_k40_melodies_played_holds : PySem.Challenge.rw_turnedtunes_k40_melodies_played.Holds := by
  w_on; o_law; k_head; (case hw => w_witness2)
  k_fill
  refine TT.walk_gT (n := 63) (k := 23) (x := "_law_script") (l := PySem.Challenge.rw_turnedtunes_k40_melodies_played) rfl (by decide) rfl ⟨rfl, by decide, by decide⟩ (fun w h Y => by first | exact PySem.W.km_in_of Y | exact PySem.W.kIn_of Y) (fun w => by kernel_rfl) ?F
  case F =>
    intro w mg fa h KX G hmg tab
    refine' TT.all_mk KX G hmg tab ?zz_aB ?zz_m_sp ?zz_m_st ?zz_m_sl ?zz_m_set ?zz_ge0 ?zz_ge1 ?zz_ge2 ?zz_ge3 ?zz_ge4 ?zz_hin ?zz_i0 ?zz_l0 ?zz_d0 ?zz_k0 ?zz_a1 ?zz_l1 ?zz_d1 ?zz_k1 ?zz_a2 ?zz_l2 ?zz_d2 ?zz_k2 ?zz_a3 ?zz_l3 ?zz_d3 ?zz_k3 ?zz_a4 ?zz_l4 ?zz_d4 ?zz_k4 ?zz_a5 ?zz_l5 ?zz_d5 ?zz_k5 ?zz_a6 ?zz_l6 ?zz_d6 ?zz_k6 ?zz_a7 ?zz_l7 ?zz_d7 ?zz_k7 ?zz_a8 ?zz_l8 ?zz_d8 ?zz_k8 ?zz_a9 ?zz_l9 ?zz_d9 ?zz_k9 ?zz_a10 ?zz_l10 ?zz_d10 ?zz_k10 ?zz_a11 ?zz_l11 ?zz_d11 ?zz_k11 ?zz_a12 ?zz_l12 ?zz_d12 ?zz_k12 ?zz_a13 ?zz_l13 ?zz_d13 ?zz_k13 ?zz_a14 ?zz_l14 ?zz_d14 ?zz_k14 ?zz_a15 ?zz_l15 ?zz_d15 ?zz_k15 ?zz_a16 ?zz_i16 ?zz_l16 ?zz_d16 ?zz_k16 ?zz_a17 ?zz_i17 ?zz_l17 ?zz_d17 ?zz_k17 ?zz_a18 ?zz_i18 ?zz_l18 ?zz_d18 ?zz_k18 ?zz_a19 ?zz_l19 ?zz_d19 ?zz_k19 ?zz_a20 ?zz_l20 ?zz_d20 ?zz_k20 ?zz_a21 ?zz_l21 ?zz_d21 ?zz_k21 ?zz_a22 ?zz_l22 ?zz_d22 ?zz_k22 ?zz_a23 ?zz_l23 ?zz_d23 ?zz_k23 ?zz_a24 ?zz_l24 ?zz_d24 ?zz_k24 ?zz_a25 ?zz_l25 ?zz_d25 ?zz_k25 ?zz_a26 ?zz_l26 ?zz_d26 ?zz_k26 ?zz_a27 ?zz_l27 ?zz_d27 ?zz_k27 ?zz_a28 ?zz_l28 ?zz_d28 ?zz_k28 ?zz_a29 ?zz_l29 ?zz_d29 ?zz_k29 ?zz_a30 ?zz_l30 ?zz_d30 ?zz_k30 ?zz_a31 ?zz_l31 ?zz_d31 ?zz_k31 ?zz_a32 ?zz_l32 ?zz_d32 ?zz_k32 ?zz_a33 ?zz_l33 ?zz_d33 ?zz_k33 ?zz_a34 ?zz_l34 ?zz_d34 ?zz_k34 ?zz_a35 ?zz_l35 ?zz_d35 ?zz_k35 ?zz_a36 ?zz_l36 ?zz_d36 ?zz_k36 ?zz_a37 ?zz_l37 ?zz_d37 ?zz_k37 ?zz_a38 ?zz_l38 ?zz_d38 ?zz_k38 ?zz_b_isinstance ?zz_b_int ?zz_b_bool ?zz_b_tuple ?zz_b_len ?zz_b_min ?zz_b_sorted ?zz_b_range ?zz_b_abs ?zz_b_max ?zz_b_repr ?zz_b_all ?zz_y_GREATEST ?zz_y__LONGEST ?zz_pgB ?zz_hdB ?zz_poB ?zz_saB ?zz_mkcB ?zz_kccB ?zz_nB_pieces ?zz_nB_starts ?zz_nB_ahead ?zz_nB_size ?zz_nB_new ?zz_m_z_clsB ?zz_m_z_mroB ?zz_m_z_tyB ?zz_m_z_get ?zz_m_z_tk ?zz_m_z_fn ?zz_b_ValueErrorX ?zz_zve ?zz_tin ?zz_zget ?zz_ztk ?zz_e0 ?zz_e1 ?zz_e2 ?zz_e3 ?zz_e4 ?zz_nd ?zz_hx35 ?zz_hx36 ?zz_hx37
    (case zz_aB => k_is)
    (case zz_m_sp => k_is)
    (case zz_m_st => k_is)
    (case zz_m_sl => k_is)
    (case zz_m_set => k_is)
    (case zz_ge0 => k_is)
    (case zz_ge1 => k_is)
    (case zz_ge2 => k_is)
    (case zz_ge3 => k_is)
    (case zz_ge4 => k_is)
    (case zz_hin => k_is)
    (case zz_i0 => k_is)
    (case zz_l0 => k_is)
    (case zz_d0 => k_is)
    (case zz_k0 => k_is)
    (case zz_a1 => k_is)
    (case zz_l1 => k_is)
    (case zz_d1 => k_is)
    (case zz_k1 => k_is)
    (case zz_a2 => k_is)
    (case zz_l2 => k_is)
    (case zz_d2 => k_is)
    (case zz_k2 => k_is)
    (case zz_a3 => k_is)
    (case zz_l3 => k_is)
    (case zz_d3 => k_is)
    (case zz_k3 => k_is)
    (case zz_a4 => k_is)
    (case zz_l4 => k_is)
    (case zz_d4 => k_is)
    (case zz_k4 => k_is)
    (case zz_a5 => k_is)
    (case zz_l5 => k_is)
    (case zz_d5 => k_is)
    (case zz_k5 => k_is)
    (case zz_a6 => k_is)
    (case zz_l6 => k_is)
    (case zz_d6 => k_is)
    (case zz_k6 => k_is)
    (case zz_a7 => k_is)
    (case zz_l7 => k_is)
    (case zz_d7 => k_is)
    (case zz_k7 => k_is)
    (case zz_a8 => k_is)
    (case zz_l8 => k_is)
    (case zz_d8 => k_is)
    (case zz_k8 => k_is)
    (case zz_a9 => k_is)
    (case zz_l9 => k_is)
    (case zz_d9 => k_is)
    (case zz_k9 => k_is)
    (case zz_a10 => k_is)
    (case zz_l10 => k_is)
    (case zz_d10 => k_is)
    (case zz_k10 => k_is)
    (case zz_a11 => k_is)
    (case zz_l11 => k_is)
    (case zz_d11 => k_is)
    (case zz_k11 => k_is)
    (case zz_a12 => k_is)
    (case zz_l12 => k_is)
    (case zz_d12 => k_is)
    (case zz_k12 => k_is)
    (case zz_a13 => k_is)
    (case zz_l13 => k_is)
    (case zz_d13 => k_is)
    (case zz_k13 => k_is)
    (case zz_a14 => k_is)
    (case zz_l14 => k_is)
    (case zz_d14 => k_is)
    (case zz_k14 => k_is)
    (case zz_a15 => k_is)
    (case zz_l15 => k_is)
    (case zz_d15 => k_is)
    (case zz_k15 => k_is)
    (case zz_a16 => k_is)
    (case zz_i16 => k_is)
    (case zz_l16 => k_is)
    (case zz_d16 => k_is)
    (case zz_k16 => k_is)
    (case zz_a17 => k_is)
    (case zz_i17 => k_is)
    (case zz_l17 => k_is)
    (case zz_d17 => k_is)
    (case zz_k17 => k_is)
    (case zz_a18 => k_is)
    (case zz_i18 => k_is)
    (case zz_l18 => k_is)
    (case zz_d18 => k_is)
    (case zz_k18 => k_is)
    (case zz_a19 => k_is)
    (case zz_l19 => k_is)
    (case zz_d19 => k_is)
    (case zz_k19 => k_is)
    (case zz_a20 => k_is)
    (case zz_l20 => k_is)
    (case zz_d20 => k_is)
    (case zz_k20 => k_is)
    (case zz_a21 => k_is)
    (case zz_l21 => k_is)
    (case zz_d21 => k_is)
    (case zz_k21 => k_is)
    (case zz_a22 => k_is)
    (case zz_l22 => k_is)
    (case zz_d22 => k_is)
    (case zz_k22 => k_is)
    (case zz_a23 => k_is)
    (case zz_l23 => k_is)
    (case zz_d23 => k_is)
    (case zz_k23 => k_is)
    (case zz_a24 => k_is)
    (case zz_l24 => k_is)
    (case zz_d24 => k_is)
    (case zz_k24 => k_is)
    (case zz_a25 => k_is)
    (case zz_l25 => k_is)
    (case zz_d25 => k_is)
    (case zz_k25 => k_is)
    (case zz_a26 => k_is)
    (case zz_l26 => k_is)
    (case zz_d26 => k_is)
    (case zz_k26 => k_is)
    (case zz_a27 => k_is)
    (case zz_l27 => k_is)
    (case zz_d27 => k_is)
    (case zz_k27 => k_is)
    (case zz_a28 => k_is)
    (case zz_l28 => k_is)
    (case zz_d28 => k_is)
    (case zz_k28 => k_is)
    (case zz_a29 => k_is)
    (case zz_l29 => k_is)
    (case zz_d29 => k_is)
    (case zz_k29 => k_is)
    (case zz_a30 => k_is)
    (case zz_l30 => k_is)
    (case zz_d30 => k_is)
    (case zz_k30 => k_is)
    (case zz_a31 => k_is)
    (case zz_l31 => k_is)
    (case zz_d31 => k_is)
    (case zz_k31 => k_is)
    (case zz_a32 => k_is)
    (case zz_l32 => k_is)
    (case zz_d32 => k_is)
    (case zz_k32 => k_is)
    (case zz_a33 => k_is)
    (case zz_l33 => k_is)
    (case zz_d33 => k_is)
    (case zz_k33 => k_is)
    (case zz_a34 => k_is)
    (case zz_l34 => k_is)
    (case zz_d34 => k_is)
    (case zz_k34 => k_is)
    (case zz_a35 => k_is)
    (case zz_l35 => k_is)
    (case zz_d35 => k_is)
    (case zz_k35 => k_is)
    (case zz_a36 => k_is)
    (case zz_l36 => k_is)
    (case zz_d36 => k_is)
    (case zz_k36 => k_is)
    (case zz_a37 => k_is)
    (case zz_l37 => k_is)
    (case zz_d37 => k_is)
    (case zz_k37 => k_is)
    (case zz_a38 => k_is)
    (case zz_l38 => k_is)
    (case zz_d38 => k_is)
    (case zz_k38 => k_is)
    (case zz_b_isinstance => k_is)
    (case zz_b_int => k_is)
    (case zz_b_bool => k_is)
    (case zz_b_tuple => k_is)
    (case zz_b_len => k_is)
    (case zz_b_min => k_is)
    (case zz_b_sorted => k_is)
    (case zz_b_range => k_is)
    (case zz_b_abs => k_is)
    (case zz_b_max => k_is)
    (case zz_b_repr => k_is)
    (case zz_b_all => k_is)
    (case zz_y_GREATEST => k_is)
    (case zz_y__LONGEST => k_is)
    (case zz_pgB => k_is)
    (case zz_hdB => k_is)
    (case zz_poB => k_is)
    (case zz_saB => k_is)
    (case zz_mkcB => k_is)
    (case zz_kccB => k_is)
    (case zz_nB_pieces => k_is)
    (case zz_nB_starts => k_is)
    (case zz_nB_ahead => k_is)
    (case zz_nB_size => k_is)
    (case zz_nB_new => k_is)
    (case zz_m_z_clsB => k_is)
    (case zz_m_z_mroB => k_is)
    (case zz_m_z_tyB => k_is)
    (case zz_m_z_get => k_is)
    (case zz_m_z_tk => k_is)
    (case zz_m_z_fn => k_is)
    (case zz_b_ValueErrorX => k_is)
    (case zz_zve => k_is)
    (case zz_tin => k_is)
    (case zz_zget => k_is)
    (case zz_ztk => k_is)
    (case zz_e0 => (refine' TT.excF_mk ?zx0_xL rfl ?zx0_sa ?zx0_tyC ?zx0_kC ?zx0_ga ?zx0_gg ?zx0_ha ?zx0_ini ?zx0_nv; (case zx0_xL => k_is); (case zx0_sa => k_is); (case zx0_tyC => k_is); (case zx0_kC => k_is); (case zx0_ga => k_is); (case zx0_gg => k_is); (case zx0_ha => k_is); (case zx0_ini => k_is); (case zx0_nv => k_is)))
    (case zz_e1 => (refine' TT.excF_mk ?zx1_xL rfl ?zx1_sa ?zx1_tyC ?zx1_kC ?zx1_ga ?zx1_gg ?zx1_ha ?zx1_ini ?zx1_nv; (case zx1_xL => k_is); (case zx1_sa => k_is); (case zx1_tyC => k_is); (case zx1_kC => k_is); (case zx1_ga => k_is); (case zx1_gg => k_is); (case zx1_ha => k_is); (case zx1_ini => k_is); (case zx1_nv => k_is)))
    (case zz_e2 => (refine' TT.excF_mk ?zx2_xL rfl ?zx2_sa ?zx2_tyC ?zx2_kC ?zx2_ga ?zx2_gg ?zx2_ha ?zx2_ini ?zx2_nv; (case zx2_xL => k_is); (case zx2_sa => k_is); (case zx2_tyC => k_is); (case zx2_kC => k_is); (case zx2_ga => k_is); (case zx2_gg => k_is); (case zx2_ha => k_is); (case zx2_ini => k_is); (case zx2_nv => k_is)))
    (case zz_e3 => (refine' TT.excF_mk ?zx3_xL rfl ?zx3_sa ?zx3_tyC ?zx3_kC ?zx3_ga ?zx3_gg ?zx3_ha ?zx3_ini ?zx3_nv; (case zx3_xL => k_is); (case zx3_sa => k_is); (case zx3_tyC => k_is); (case zx3_kC => k_is); (case zx3_ga => k_is); (case zx3_gg => k_is); (case zx3_ha => k_is); (case zx3_ini => k_is); (case zx3_nv => k_is)))
    (case zz_e4 => (refine' TT.excF_mk ?zx4_xL rfl ?zx4_sa ?zx4_tyC ?zx4_kC ?zx4_ga ?zx4_gg ?zx4_ha ?zx4_ini ?zx4_nv; (case zx4_xL => k_is); (case zx4_sa => k_is); (case zx4_tyC => k_is); (case zx4_kC => k_is); (case zx4_ga => k_is); (case zx4_gg => k_is); (case zx4_ha => k_is); (case zx4_ini => k_is); (case zx4_nv => k_is)))
    (case zz_nd => decide +kernel)
    (case zz_hx35 => kernel_rfl)
    (case zz_hx36 => kernel_rfl)
    (case zz_hx37 => kernel_rfl)
#print axioms PySem.Challenge.cw_turnedtunes_k40_melodies_played_holds
