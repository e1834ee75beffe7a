import PyProof.Rows.All
import Wide.All
import OpenK.AllK
import Wide.FinOn
import HandS.Base
import HandS.Call
import HandS.List
import HandS.Comp
import HandS.Iter
import HandS.Text
import HandS.Ends
import HandS.Words
import HandS.WordsExc
import HandS.Wide
import HandS.FStr
import HandS.IsInst
import HandS.Defaults
import HandS.MakeKwOnly
import HandS.OwnEq
import HandS.TupAny
import HandS.Style
import HandS.Conv
import HandS.Star
import HandS.Dict
import HandS.More
import HandS.Exc
import HandS.ExcInit
import HandS.ExcIs
import HandS.ExcField
import HandS.DeepEq
import HandS.Deep
import HandS.Lambda
import HandS.EndTab
import PyProof.EqAt
import PyProof.EqKinds
import PyProof.TupleCall
import PyProof.ReprRoads
import PyProof.LongRange
import PyProof.ListRange
import PyProof.NeKinds
import KE.DataMinMax
import HandS.StrMore
import HandS.Codes
import KE.IntTextLaws
import HandS.ClsMeth
import PyProof.P3In
import KE.KDictPairs
import PyProof.EnumMake
import PyProof.TupleIter
import KE.GoesMore
import HandS.Walk
import HandS.TryOnly
import PySem.Challenge.RW_turnedtunes_k70_books_written_otherwise
set_option Elab.async false
set_option linter.all false
set_option maxRecDepth 100000
set_option maxHeartbeats 4000000
/-! Rules of our own over the hand layer: powers of great ints, repr of data, own unary operators, promises that know that no repr is under way. -/
namespace TT
open PySem PySem.Spec PyProof.Rows L2
section
variable {X : Cx}
/-- a ** b of any size that fits -/
theorem op_powW : OpR X (binaryOp .Pow) (rI (fun i j => 0 ≤ j ∧ (Builtin.Int.intBits i : Int) * j ≤ 2 ^ 27) fun i j => .int (i ^ j.toNat)) :=
  opI fun _ _ _ _ _ _ _ hc q => pow_int hc.1 hc.2 q

/-- repr(x), x data without dicts -/
def rRepr (K : PySem.W.Frag) : List V → Hp → VK → Prop := fun xs H Q => ∃ (x : V) (d : PyData), xs = [x] ∧ Dp K H x d ∧ d.showable = true ∧ d.hasDict = false ∧ d.depth ≤ 60 ∧ d.shown.length ≤ sizeLine ∧ Q (.str d.shown) H
theorem call_repr (hg : X.A.guards = some []) (hu : X.A.units + 64 < cLine) : CallR X (.builtin "repr") (rRepr X.K) := by
  intro pins s σ H xs us Q I r h
  obtain ⟨x, d, rfl, hd, hs, hn, hdep, hz, q⟩ := h
  obtain ⟨u, rfl, rx⟩ : ∃ u, us = [u] ∧ RelV x u := by
    cases r with
    | cons a b => cases b; exact ⟨_, rfl, a⟩
  obtain ⟨as, rd⟩ := Dp.reads I d x u hd rx
  have fin : ∀ h' tk u', (∀ b o, s.heap.get? b = some o → h'.get? b = some o) → EP X pins σ Q (.str d.shown u') { s with heap := h', toks := tk } :=
    fun h' tk u' hk => ⟨.str d.shown, H, I.kept hk, ⟨_, rfl⟩, q⟩
  cases hd with
  | non => obtain rfl := rx; exact PySem.P.repr_of_none (fin s.heap _ _ fun _ _ e => e)
  | bl b => obtain rfl := rx; exact PySem.P.repr_of_bool (fin s.heap _ _ fun _ _ e => e)
  | int i => obtain ⟨t, rfl⟩ := rx; exact PySem.P.repr_of_int (by simpa [PyData.showable] using hs) (fin s.heap _ _ fun _ _ e => e)
  | str y => obtain ⟨t, rfl⟩ := rx; exact PySem.P.repr_of_str (fin s.heap _ _ fun _ _ e => e) hz
  | lst h1 h2 =>
    obtain rfl := rx
    exact repr_of_reads' rd hs (PyData.noDict_hsm hn) hg (by omega) (fun _ _ e => e) (fun h' u tk hk => fin h' tk u hk) hz
  | tup h1 h2 =>
    obtain rfl := rx
    exact repr_of_reads' rd hs (PyData.noDict_hsm hn) hg (by omega) (fun _ _ e => e) (fun h' u tk hk => fin h' tk u hk) hz
end

/-! ### promises that know that no repr is under way -/
/-- the def at f keeps sp wherever it is called while no repr runs -/
structure GOk (P : Program) (w : World) (K : PySem.W.Frag) (mg : Str → Option Value) (base : Heap) (CX : CXT) (k : Nat) (f : Addr) (fd : FuncData) (ps : List Str) (sp : Sp) : Prop where
  size : ∀ vs H Q E, sp vs H Q E → vs.length = ps.length
  go : ∀ (A : Around) (outer : List Env) (s : Shared) (H : Hp) (args : Args) (us : List Value) (vs : List V) (Q : VK) (E : XK), A.guards = some [] → Room k A →
    Env0 P w K mg base A outer s H → BindsTo s fd args (ps.zip us) → Vals vs us → sp vs H Q E → codeAny (model P w) A (.call (.ref f) args) (CR CX outer P w H s Q E) s

section
variable {P : Program} {w : World} {K : PySem.W.Frag} {mg : Str → Option Value} {base : Heap} {CX : CXT} {k : Nat} {f : Addr} {ps : List Str} {sp : Sp}
theorem GOk.mono {j : Nat} {fd : FuncData} (F : GOk P w K mg base CX j f fd ps sp) (h : j ≤ k) : GOk P w K mg base CX k f fd ps sp :=
  { size := F.size, go := fun A outer s H args us vs Q E g r => F.go A outer s H args us vs Q E g (r.mono h) }
theorem GOk.weak {sp' : Sp} {fd : FuncData} (F : GOk P w K mg base CX k f fd ps sp) (h : ∀ vs H Q E, sp' vs H Q E → sp vs H Q E) : GOk P w K mg base CX k f fd ps sp' :=
  { size := fun vs H Q E q => F.size vs H Q E (h vs H Q E q), go := fun A outer s H args us vs Q E g r e b v q => F.go A outer s H args us vs Q E g r e b v (h vs H Q E q) }
/-- any promise of the layer is one -/
theorem GOk.of {fd : FuncData} (F : FnOk P w K mg base CX k f fd ps sp) : GOk P w K mg base CX k f fd ps sp :=
  { size := F.len, go := fun A outer s H args us vs Q E _ => F.run A outer s H args us vs Q E }
/-- such a def by its body -/
theorem g_of {name qual : Str} {params : Arguments} {body : List Stmt} {scope : Scope} {dV kV doc pm cdv ct oc : Value} {an od : Option Addr} {osl : Array (Option Value)} {N : List Str}
    (lk : K.lookup f = some ⟨oc, od, .func (PySem.W.fnOf name qual params body scope dV kV doc pm an cdv ct), osl⟩) (hcd : PySem.W.codeIn K cdv qual = true) (S : FnScope N ps scope)
    (size : ∀ vs H Q E, sp vs H Q E → vs.length = ps.length)
    (hb : ∀ (A : Around) (outer : List Env) (s : Shared) (H : Hp) (vs : List V) (Q : VK) (E : XK), A.guards = some [] → Room k (A.deeper (envOfC qual scope s.heap.objs.size f cdv)) → sp vs H Q E →
      ∃ t, PSs (cxOf CX P w K mg base N qual scope f cdv A outer s H E) body t ∧ t { nx := fun _ H1 => Q .non H1, rt := Q } (start N vs) H) :
    GOk P w K mg base CX (k + 1) f (PySem.W.fnOf name qual params body scope dV kV doc pm an cdv ct) ps sp := by
  refine { size := size, go := fun A outer s H args us vs Q E g hr e0 bnd rv hsp => ?_ }
  have old : ∀ b o, base.get? b = some o → s.heap.get? b = some o := fun b o e => (e0.bs b o e).1
  have kinds : ∀ y ∈ ps.zip us, scope.names.lookup y.1 = some .local ∨ (scope.names.lookup y.1 = some .cell ∧ ((cellsFrom (s.heap.objs.size + 1) scope.names []).lookup y.1).isSome = true) := by
    intro y hy
    obtain ⟨n, v⟩ := y
    refine (S.par n (List.of_mem_zip hy).1).imp id fun q => ⟨q, ?_⟩
    exact PySem.W.cellsFrom_some _ _ _ (.inl q)
  refine codeAny_call_function hr.depth (e0.mod.kin.keeps old _ _ lk) rfl S.co S.gen rfl (PySem.W.codeRec_of (e0.mod.kin.keeps old) hcd) (bnd _ _ _ _ (wpAny_newFunctionEnv_cells S.kind kinds fun env he s1 x => ?_))
  subst he
  refine ⟨(e0.mod.nolimit.keeps old).keeps x.toInCall.keep, codeAny_func ?_⟩
  obtain ⟨t, ht, hq⟩ := hb A outer s H vs Q E g (hr.deeper _) hsp
  have J : Inv (cxOf CX P w K mg base N qual scope f cdv A outer s H E) [] (start N vs) H s1 := inv_start S hr.hd e0 (size _ _ _ _ hsp) rv x
  refine wpAny_mono (ht.run [] s1 (start N vs) H _ J hq) (fun fl s2 hs => ?_) fun _ _ z => z
  cases fl with
  | ret u => obtain ⟨v, σ1, H1, I1, r1, q1⟩ := hs; exact ⟨v, H1, I1.os, I1.bare, I1.base, I1.hok, r1, q1⟩
  | next => obtain ⟨σ1, H1, I1, q1⟩ := hs; exact ⟨V.non, H1, I1.os, I1.bare, I1.base, I1.hok, rfl, q1⟩
  | brk => obtain ⟨_, _, _, z⟩ := hs; exact z.elim
  | cont => obtain ⟨_, _, _, z⟩ := hs; exact z.elim
end

/-- a def of the text that nothing leaves but by return -/
theorem okG {P : Program} {w : World} {K : PySem.W.Frag} {mg : Str → Option Value} {base : Heap} {x qual : Str} {st : Stmt} {f : Addr} {fd : FuncData} {N ps : List Str} {k : Nat} {sp : Sp} (F : Fun K x qual st f fd) (S : FnScope N ps (defScope st))
    (size : ∀ vs H Q E, sp vs H Q E → vs.length = ps.length)
    (hb : ∀ (cdv : Value) (A : Around) (outer : List Env) (s : Shared) (H : Hp) (vs : List V) (Q : VK) (E : XK), A.guards = some [] → Room k (A.deeper (envOfC qual (defScope st) s.heap.objs.size f cdv)) → sp vs H Q E →
      ∃ t, PSs (cxOf CX0 P w K mg base N qual (defScope st) f cdv A outer s H E).nox (defBody st) t ∧ t { nx := fun _ H1 => Q .non H1, rt := Q } (start N vs) H) : GOk P w K mg base CX0 (k + 1) f fd ps sp := by
  obtain ⟨oc, od, kV, doc, pm, an, cdv, ct, osl, rfl, lk, hcd⟩ := F.ex
  refine g_of lk hcd S size fun A outer s H vs Q E g hr hsp => ?_
  obtain ⟨t, h, q⟩ := hb cdv A outer s H vs Q E g hr hsp
  exact ⟨t, h.nox, q⟩
section
variable {X : Cx} {CX : CXT} {k : Nat} {f : Addr} {fd : FuncData} {ps : List Str} {sp : Sp} {dvs : List V} {ds : List Value} {E : XK} {x : Str} {p pos : Pos} {e : Expr} {es : List Expr} {t : TA}
theorem run_g {pins : List (Addr × Obj)} {σ : L2.St} {H : Hp} {s : Shared} {Q : VK} {us : List Value} {vs : List V} (F : GOk X.prog X.w X.K X.mg X.base CX k f fd ps sp) (g : X.A.guards = some []) (hr : Room k X.A)
    (hb : Binds X.K fd ps ds) (hd : Vals dvs ds) (hx : Passes CX X E) (I : Inv X pins σ H s) (r : Vals vs us) (h : sp (vs ++ dvs) H Q E) : wpAny (model X.prog X.w) X.A (call (.ref f) us) (EP X pins σ Q) X.xe s := by
  have r2 := r.append hd
  have n : (us ++ ds).length = ps.length := r2.length ▸ F.size _ _ _ _ h
  refine wpAny_call (codeAny_mono (F.go X.A X.stack s H ⟨us, []⟩ _ _ Q E g hr I.env0 (hb s us I.kIn n) r2 h) fun res s1 z => ?_)
  match res, z with
  | .error e, z => exact hx pins σ H s e s1 I z
  | .ok (.ret u), z => exact I.after z
  | .ok .next, z => exact z.elim
  | .ok .brk, z => exact z.elim
  | .ok .cont, z => exact z.elim
/-- f(e, ..) of such a def -/
theorem pe_callG (F : GOk X.prog X.w X.K X.mg X.base CX k f fd ps sp) (g : X.A.guards = some []) (hr : Room k X.A) (hg : Gl X x) (hm : X.mg x = some (.ref f)) (hk : PySem.W.keepIn X.K (.ref f) = true)
    (hb : Binds X.K fd ps ds) (hd : Vals dvs ds) (hx : Passes CX X E) (ha : PA X (e :: es) t) (hdb : (x == ("__debug__" : Str)) = false := by decide)
    (he : starEach (e :: es) X.env = (false, eval e X.env) :: starEach es X.env := by rfl) (hpl : (backTo pos (starEach es X.env)).any (·.1) = false := by rfl) : PE X (.Call (.Name x p) (e :: es) [] pos) (tCall sp dvs E t) := by
  constructor
  intro pins s σ H Q I h
  exact wpAny_Call_Name_kw (ld_glob I hg hm (PySem.W.callWith_K (h₀ := X.base) I.ok.mod.kin hk (thn (ha.run pos pins s σ H _ I h) fun us s1 ⟨vs, H1, I1, r, q⟩ => ⟨I1.kIn, run_g F g hr hb hd hx I1 r q⟩) he hpl) hdb)

/-- ~x of an instance of an own class -/
theorem un_own {C : Addr} (F : FnOk X.prog X.w X.K X.mg X.base CX k f fd ps sp) (hr : Room k X.A) (hb : Binds X.K fd ps []) (hx : Passes CX X E)
    (hs : PySem.W.findIn X.K (.ref C) "__invert__" = some (some (.ref f))) (hf : PySem.W.isFn X.K (.ref f) = true) :
    UnR X (unaryOp .Invert) (fun x H Q => ∃ a dx fs, x = .ref a ∧ H a = some (.ins C dx fs) ∧ sp [.ref a] H Q E) := by
  intro pins s σ H x v Q I rx h
  obtain ⟨a, dx, fs, rfl, ha, hq⟩ := h
  obtain rfl : v = Value.ref a := rx
  obtain ⟨mA, O, _⟩ := ins_get I.hok ha
  obtain ⟨od, J, _⟩ := O.look
  obtain ⟨m, hF⟩ := I.fr
  exact PySem.W.ksp_inv hF I.ok.mod.kin J hs hf (run_fn (us := [.ref a]) (vs := [.ref a]) (dvs := []) (ds := []) F hr hb .nil hx I (.cons rfl .nil) hq)
end

/-! ### the end of a law's row for such a promise -/
/-- the script alone is tracked: as a known list, or not at all where it is an object of the module -/
def seen (a : Addr) (ob : Obj) (ns : List Int) (own : Bool) : Hp := fun b => if own = false ∧ b = a then some (.frz ob (.lst (ns.map V.int))) else none
theorem seen_own {a : Addr} {ob : Obj} {ns : List Int} (b : Addr) : seen a ob ns true b = none := if_neg fun z => nomatch z.1
theorem seen_at {a : Addr} {ob : Obj} {ns : List Int} : seen a ob ns false a = some (.frz ob (.lst (ns.map V.int))) := if_pos ⟨rfl, rfl⟩
theorem seen_ne {a b : Addr} {ob : Obj} {ns : List Int} {o : Bool} (h : b ≠ a) : seen a ob ns o b = none := if_neg fun z => h z.2
theorem run_law {P : Program} {w : World} {K : PySem.W.Frag} {mg mb : Str → Option Value} {CX : CXT} {k : Nat} {fa a : Addr} {fd : FuncData} {x : Str} {sp : Sp} {s : Shared} {vs : List Value} {ns : List Int}
    (KX : K.In s.heap) (hns : s.heap.Ns mainGlobals mg) (hb : s.heap.Ns builtinsNs mb) (hbb : ∀ x : Str, x ≠ "__name__" → mb x = bootBuiltins x) (lim : s.heap.NoLimit) (hg : s.gens = #[])
    (ha : s.heap.get? a = some { cls := .type "list", data := .seq vs.toArray }) (hi : IntsAre vs ns) (hl : ns.length ≤ sizeLine) (hr : Room k callerA)
    (F : ∀ base : Heap, K.In base → base.Ns mainGlobals mg → GOk P w K mg base CX k fa fd [x] sp) (bnd : ∀ (s : Shared) (u : Value), BindsTo s fd ⟨[u], []⟩ [(x, u)])
    (hsp : ∀ H : Hp, SqL K H a (ns.map V.int) → sp [.ref a] H (fun v _ => v = .bl true) fun _ _ _ => False) (noX : ∀ H e s1, CX [] H s (fun _ _ _ => False) e s1 → False) :
    codeAny (model P w) callerA (.call (.ref fa) ⟨[.ref a], []⟩) (fun r s1 => r = .ok (.ret (.bool true)) ∧ OldK s.heap s1.heap ∧ s1.os = s.os ∧ AllBare s1.gens) s := by
  have rv := vals_ints hi
  obtain ⟨own, hS, hT, hK⟩ : ∃ own, SqL K (seen a { cls := .type "list", data := .seq vs.toArray } ns own) a (ns.map V.int) ∧ HOk P w (seen a { cls := .type "list", data := .seq vs.toArray } ns own) s.heap ∧
      (∀ b o, K.lookup b = some o → seen a { cls := .type "list", data := .seq vs.toArray } ns own b = none) := by
    cases hk : K.lookup a with
    | some o =>
      have e := (KX a o hk).symm.trans ha
      cases e
      refine ⟨true, .inr ⟨_, vs.toArray, _, hk, rfl, rfl, rfl, ?_, by simpa using rv⟩, fun b u z => ?_, fun b _ _ => seen_own b⟩
      · rw [List.size_toArray, hi.length]; exact hl
      · rw [seen_own] at z; cases z
    | none =>
      refine ⟨false, .inl (.inr ⟨_, seen_at⟩), fun b u z => ?_, fun b o hb => seen_ne fun e => ?_⟩
      · by_cases h : b = a
        · subst h
          rw [seen_at] at z; cases z
          exact ⟨ha, by rw [List.length_map]; exact hl, vs, _, rv, ha⟩
        · rw [seen_ne h] at z; cases z
      · subst e; rw [hk] at hb; cases hb
  generalize hH : seen a { cls := .type "list", data := .seq vs.toArray } ns own = H at hS hT hK
  have only : ∀ b u, H b = some u → b = a ∧ u = .frz { cls := .type "list", data := .seq vs.toArray } (.lst (ns.map V.int)) := fun b u z => by
    subst hH
    by_cases h : b = a
    · subst h
      cases own with
      | true => rw [seen_own] at z; cases z
      | false => rw [seen_at] at z; exact ⟨rfl, (Option.some.inj z).symm⟩
    · rw [seen_ne h] at z; cases z
  have free : ∀ {b : Addr} {o : Obj} {es : Array DictEntry} {ep : Nat}, s.heap.get? b = some o → o.data = .dict es ep → H b = none := fun {b o es ep} e d => by
    cases q : H b with
    | none => rfl
    | some u =>
      obtain ⟨rfl, _⟩ := only b u q
      have e' := e.symm.trans ha
      cases e'
      have d' : Data.seq vs.toArray _ = Data.dict es ep := d
      cases d'
  have ns' : ∀ {b : Addr} {m : Str → Option Value}, s.heap.Ns b m → (hidT s.heap H).Ns b m := fun {b m} n => by
    obtain ⟨o, es, ep, e, d, r⟩ := n
    exact ⟨o, es, ep, hidT_get e (free e d), d, r⟩
  have inK : K.In (hidT s.heap H) := fun b o e => hidT_get (KX b o e) (hK b o e)
  obtain ⟨mc, l1, l2⟩ := lim
  have e0 : Env0 P w K mg (hidT s.heap H) callerA [] s H :=
    { frames := rfl, mod := ⟨inK, ns' hns, ⟨mb, ns' hb, hbb⟩, ⟨mc, ns' l1, l2⟩⟩, bs := fun b o e => of_hidT e, bsz := Nat.le_of_eq (hidT_size _ _), funs := trivial, frf := fun b z => absurd (show b ∈ ([] : List Addr) from z) List.not_mem_nil, hok := hT, bare := .of_eq hg }
  refine codeAny_mono ((F _ inK (ns' hns)).go callerA [] s H ⟨[.ref a], []⟩ [.ref a] [.ref a] _ _ rfl hr e0 (bnd s (.ref a)) (.cons rfl .nil) (hsp H hS)) fun r s1 z => ?_
  match r, z with
  | .error e, z => exact (noX H e s1 z).elim
  | .ok .next, z => exact z.elim
  | .ok .brk, z => exact z.elim
  | .ok .cont, z => exact z.elim
  | .ok (.ret u), z =>
    obtain ⟨v, H1, os, bare, un, hok, r1, q⟩ := z
    subst q
    obtain rfl : u = Value.bool true := r1
    refine ⟨rfl, OldK.of_keep fun b o e => ?_, os, bare⟩
    cases q : H b with
    | none => exact un.keep b o e q (fun z => absurd (show b ∈ ([] : List Addr) from z) List.not_mem_nil) List.not_mem_nil
    | some u =>
      obtain ⟨rfl, rfl⟩ := only b u q
      obtain ⟨e1, _⟩ := hT _ _ q
      obtain ⟨e2, _⟩ := hok _ _ (un.frzs _ _ _ q)
      rw [e] at e1; cases e1
      exact e2
theorem walk_g {l : PySem.W.OpenLaw} {n k : Nat} {q : Program} {loose : List Str} {XP : (Str → Option Value) → Heap → Prop} {YP : World → Heap → Prop} {d : DefRec} {K : Params → PySem.W.Frag} {CX : CXT} {sp : PySem.W.Frag → Sp} {x : Str}
    (hn : l.most = some n) (hn2 : n ≤ sizeLine) (hdf : d.params.defaults = []) (hr : Room k callerA) (hY : ∀ (w : World) (h : Heap), YP w h → (K w.params).In h)
    (F : ∀ (w : World) (mg : Str → Option Value) (fa : Addr) (h : Heap), (K w.params).In h → h.Ns mainGlobals mg → mg d.name = some (.ref fa) → ∃ fd : FuncData, (∀ (s : Shared) (u : Value), BindsTo s fd ⟨[u], []⟩ [(x, u)]) ∧
        ∀ base : Heap, (K w.params).In base → base.Ns mainGlobals mg → GOk l.prog w (K w.params) mg base CX k fa fd [x] (sp (K w.params)))
    (hsp : ∀ (K : PySem.W.Frag) (H : Hp) (a : Addr) (ns : List Int), ns.length ≤ n → SqL K H a (ns.map V.int) → sp K [.ref a] H (fun v _ => v = .bl true) fun _ _ _ => False)
    (noX : ∀ (H : Hp) (s : Shared) (e : Value) (s1 : Shared), CX [] H s (fun _ _ _ => False) e s1 → False) : PySem.W.WalkO q loose XP YP l.row.toRowW d [] (fun f vs => PySem.call f vs) :=
  Att.attach_call hn hdf fun w s₀ s₁ mg mb fa o pm cd doc a vs ns G Y ho hd hcd hmg hobj hints hlen hg => by
    obtain ⟨fd, hb, hF⟩ := F w mg fa _ (hY w _ Y) G.T.g hmg
    exact run_law (hY w _ Y) G.T.g G.T.b G.T.builtins G.T.nolimit hg hobj hints (Nat.le_trans hlen hn2) hr hF hb (fun H hS => hsp _ H a ns hlen hS) fun H e s1 => noX H s₁ e s1
end TT

set_option Elab.async false
set_option linter.all false
set_option maxRecDepth 100000
set_option maxHeartbeats 4000000
/-! Errors of own classes as values: made, kept, asked (isinstance, their fields). -/
namespace TT
open PySem PySem.Spec PyProof.Rows L2
/-- at a stands an error of the class at C whose own dict holds fs -/
def Err (H : Hp) (a C : Addr) (fs : List (Str × V)) : Prop := ∃ d, H a = some (exo a C (some d)) ∧ H d = some (exd d fs)
section
variable {X : Cx}
/-- C(e, ..): the error stays with us -/
def tMkX (C : Addr) (sp : Sp) (dvs : List V) (ta : TA) : TE := fun σ H Q => ta σ H fun vs H1 => vs.length ≤ 1000 ∧ ∀ a, H1 a = none → sp (.ref a :: (vs ++ dvs)) (upd H1 a (exo a C none)) (fun v H2 => v = .non ∧ Q (.ref a) H2) fun _ _ _ => False
theorem pe_mkX {CX : CXT} {x : Str} {C fI : Addr} {k : Nat} {fd : FuncData} {ps : List Str} {sp : Sp} {ds : List Value} {dvs : List V} {e : Expr} {es : List Expr} {ta : TA} {p pos : Pos}
    (T : OexC X.K C) (iC : PySem.W.findIn X.K (.ref C) "__init__" = some (some (.ref fI))) (tI : PySem.W.typeIn X.K (.ref fI) = some (.type "function")) (F1 : FnOk X.prog X.w X.K X.mg X.base CX k fI fd ps sp) (hr : Room (k + 1) X.A)
    (hb : Binds X.K fd ps ds) (hd : Vals dvs ds) (hx : Passes CX X fun _ _ _ => False) (hg : Gl X x) (hm : X.mg x = some (.ref C)) (ha : PA X (e :: es) ta) (hdb : (x == ("__debug__" : Str)) = false := by decide)
    (he : starEach (e :: es) X.env = (false, eval e X.env) :: starEach es X.env := by rfl) (hpl : (backTo pos (starEach es X.env)).any (·.1) = false := by rfl) : PE X (.Call (.Name x p) (e :: es) [] pos) (tMkX C sp dvs ta) := by
  constructor
  intro pins s σ H Q I h
  obtain ⟨_, _, _, _, bm, _, _, _, _, _, _, _, _, _, _, hC, hbm⟩ := T.cls
  refine wpAny_Call_Name_kw (ld_glob I hg hm (PySem.W.callWith_K (h₀ := X.base) I.ok.mod.kin T.kC (thn (ha.run pos pins s σ H _ I h) fun us s1 w => ?_) he hpl) hdb)
  obtain ⟨vs, H1, I1, r1, hz, q1⟩ := w
  refine ⟨I1.kIn, ?_⟩
  obtain ⟨hp, g, dr, tk, os⟩ := s1
  have nn : hp.objs.size ≤ hp.objs.size + 1 := Nat.le_succ _
  have fr : H1 (hp.objs.size + 1) = none := I1.hok.fresh nn
  have q2 := q1 _ fr
  have keep : ∀ b o, hp.get? b = some o → ((hp.push (PySem.W.kdv_tup us)).push (PySem.HandSPX.excO C hp.objs.size)).get? b = some o := fun b o z => Heap.get?_push_of_some _ (Heap.get?_push_of_some _ z)
  have here : ((hp.push (PySem.W.kdv_tup us)).push (PySem.HandSPX.excO C hp.objs.size)).get? (hp.objs.size + 1) = some (PySem.HandSPX.excO C hp.objs.size) := by heap_get
  have I2 := I1.laid (t' := tk) (a := hp.objs.size + 1) (o := exo (hp.objs.size + 1) C none) keep nn (exo_ok here)
  have r2 : Vals (V.ref (hp.objs.size + 1) :: (vs ++ dvs)) (Value.ref (hp.objs.size + 1) :: us ++ ds) := .cons rfl (r1.append hd)
  have n1 : (Value.ref (hp.objs.size + 1) :: us ++ ds).length = ps.length := r2.length ▸ F1.len _ _ _ _ q2
  have n2 : us.length ≤ sizeLine := by
    have sl : sizeLine = 16777216 := sizeLine_eq
    have := Paired.length r1
    omega
  have run := F1.run _ X.stack _ _ ⟨Value.ref (hp.objs.size + 1) :: us, []⟩ _ _ _ (fun _ _ _ => False) (hr.make C us []) (I2.env0.make C us []) (hb _ (Value.ref (hp.objs.size + 1) :: us) I2.kIn n1) r2 q2
  refine wpAny_call (PySem.HandSPX.call_own F.excBase_ValueError (fun Y => PySem.HandSPX.refsVE_contains Y bm hbm) (I1.kIn _ _ hC) (PySem.W.looks_findIn I1.kIn iC) (fun self => PySem.W.bind_fn I1.kIn self tI) n2 (codeAny_mono run fun r s' z => ?_))
  match r, z with
  | .error er, z => exact hx pins σ _ _ er s' I2 z
  | .ok .next, z => exact z.elim
  | .ok .brk, z => exact z.elim
  | .ok .cont, z => exact z.elim
  | .ok (.ret u), z =>
    obtain ⟨v, H2, o2, b2, u2, k2, rv, ev, q3⟩ := z
    subst ev
    have un : Un (frs X.stack) [] H1 H2 hp s'.heap := (Un.laid keep nn fr).trans u2
    exact ⟨rv, .ref (hp.objs.size + 1), H2, I1.call' (ch := []) o2 un k2 b2 (fun b z => absurd z (by simp)), rfl, q3⟩
/-- the object of an error and its dict -/
theorem err_at {pins : List (Addr × Obj)} {σ : L2.St} {H : Hp} {s : Shared} {a C : Addr} {fs : List (Str × V)} (I : Inv X pins σ H s) (h : Err H a C fs) :
    ∃ ox od, PySem.W.InstAt s.heap a ox C (some od) ∧ ∃ mA : Str → Option Value, (∀ name, PySem.W.lookIn name od = some (mA name)) ∧ ∀ f, RelO (fs.lookup f) (mA f) := by
  obtain ⟨d, h1, h2⟩ := h
  obtain ⟨t1, e1⟩ := exo_at I.hok h1
  obtain ⟨mA, hn, hr⟩ := exd_at I.hok h2
  obtain ⟨od, ho, hl⟩ := lookIn_ns hn
  exact ⟨_, od, ⟨e1, rfl, rfl, ho⟩, mA, hl, hr⟩
/-- e.n of an error -/
def tXv (K : PySem.W.Frag) (n : Str) (te : TE) : TE := fun σ H Q => te σ H fun x H1 => ∃ a C fs v, x = .ref a ∧ Err H1 a C fs ∧ XfC K C ∧ PySem.W.findIn K (.ref C) n = some none ∧ fs.lookup n = some v ∧ Q v H1
theorem pe_xv {e : Expr} {te : TE} {pos : Pos} {n : Str} (he : PE X e te) (hb : attributeBase e n X.env (eval e X.env) = eval e X.env := by rfl) : PE X (.Attribute e n pos) (tXv X.K n te) := by
  constructor
  intro pins s σ H Q I h
  refine attr_of hb (thn (he.run pins s σ H _ I h) fun u s1 w => ?_)
  obtain ⟨x, H1, I1, rx, a, C, fs, v, rfl, hE, T, hno, l, q⟩ := w
  obtain rfl : u = Value.ref a := rx
  obtain ⟨ox, od, J, mA, hl, hr⟩ := err_at I1 hE
  obtain ⟨u, hu, ru⟩ := RelO.some_of (v := v) (o := mA n) (l ▸ hr n)
  exact HandSPX.exc_get I1.kIn J T.ga T.gg T.exC (PySem.W.findObj_own T.hdC hno rfl (by rw [hl, hu])) (handed_of ru) ⟨v, H1, I1.tok _, ru, q⟩
/-- x.__class__ of an error with a dict of its own, as isinstance asks it -/
theorem x_class {prog : Program} {w : World} {A : Around} {E : Value → Shared → Prop} {s : Shared} {K : PySem.W.Frag} {x D : Addr} {ox od : Obj} {Q : Option Value → Shared → Prop} (T : ExcC K D) (KX : K.In s.heap) (J : PySem.W.InstAt s.heap x ox D (some od))
    (h : Q (some (.ref D)) { s with toks := s.toks + 1 }) : wpAny (model prog w) A (getAttr? (.ref x) "__class__") Q E s := by
  have found : PySem.W.findObj K D (some od) "__class__" = some (.bind (.builtin "getset_descriptor.__get__") (.builtin "object.__class__")) := by
    obtain ⟨cd, e, _⟩ := PySem.W.any_some T.hd
    exact PySem.W.findObj_data (by rw [e] <;> rfl) T.ha T.hn T.ht
  have no2 : (Value.builtin "BaseException.__getattribute__" == Value.builtin "object.__getattribute__") = false := by decide +kernel
  have no1 : (onTheHeap (.ref D) && Value.builtin "BaseException.__getattribute__" == Value.builtin "object.__getattribute__") = false := by rw [no2] <;> rfl
  obtain ⟨hp, g, d, t, os⟩ := s
  have isB : PySem.W.Looks (model prog w) hp (isInstance (.ref x) (.type "BaseException")) true := (J.type (M := model prog w)).andThen (PySem.W.looks_subIn KX T.hs)
  have tail : ∀ R : Fin → Shared → Prop, ∀ E' : Value → Shared → Prop, R (.done (.ret (.ref D))) ⟨hp, g, d, t + 1, os⟩ → wpAny (model prog w) (Around.in1 A) (Builtin.«object.__getattribute__» ⟨[.ref x, .str "__class__" t], []⟩) R E' ⟨hp, g, d, t + 1, os⟩ := fun R E' hR => by
    unfold Builtin.«object.__getattribute__»
    refine wpAny_bind (wpAny_of_eq (a := (Value.ref x, [Value.str "__class__" t])) (by first | rfl | (simp only [slotArgs]; rfl)) (wpAny_bind (wpAny_pure (wpAny_bind (J.type.at (wpAny_bind ((PySem.W.looks_find KX J found).at ?_)))))))
    refine wpAny_bind (wpAny_holding (wpAny_call (PySem.W.class_get (s := ⟨hp, g, d, t + 1, os⟩) KX J T.hm ?_)))
    exact wpAny_pure hR
  unfold getAttr? getAttrBy? getAttrBy
  refine wpAny_bind (wpAny_mkText (wpAny_bind (wpAny_attempt (wpAny_holding (wpAny_bind (J.type.at (wpAny_bind ((PySem.W.looks_findIn KX T.hg).at ?_))))))))
  dsimp only
  rw [no1, if_neg Bool.false_ne_true]
  unfold getAttrByItsOwn hookBefore callGetattribute boundAndCalled
  refine wpAny_bind ?_
  have oh : onTheHeap (Value.ref D) = true := rfl
  rw [if_pos oh]
  refine (PySem.W.looks_findIn KX T.hk).at (wpAny_bind (wpAny_attempt (wpAny_holding ?_)))
  have nh : (false && onTheHeap (Value.builtin "BaseException.__getattribute__")) = false := rfl
  rw [nh, if_neg Bool.false_ne_true, PySem.F.excAttr_ValueError.ga.bind (.ref x)]
  refine wpAny_bind (wpAny_pure ?_)
  dsimp only
  refine wpAny_call (codeAny_call_builtin PySem.F.excAttr_ValueError.ga.plain PySem.F.entry_bexc_ga ?_)
  refine @PySem.W.check_slot (model prog w) _ _ ⟨hp, g, d, t + 1, os⟩ "BaseException.__getattribute__" "BaseException" "__getattribute__" (.ref x) [.str "__class__" t] [] _ (by decide +kernel) (by decide +kernel) isB (PySem.F.args_bexc_ga (.ref x) (.str "__class__" t)) ?_
  refine tail _ _ ?_
  refine (show wpAny (model prog w) A (handedOut (Value.ref D)) (fun a s' => wpAny (model prog w) A (pure (some a)) Q E s') _ ⟨hp, g, d, t + 1, os⟩ from ?_)
  rw [PySem.W.handedOut_of (v := Value.ref D) rfl]
  exact wpAny_pure (wpAny_pure h)
theorem kit_err {K : PySem.W.Frag} {x D : Addr} {b : Bool} (T : ExcC K D) (self : PySem.W.kitCls K (.ref D) (.ref D) = some b) : PySem.W.KitX K (.ref x) (.ref D) (fun h => ∃ ox od, PySem.W.InstAt h x ox D (some od)) where
  ty := fun _ _ _ ⟨_, _, J⟩ => J.type
  it := fun _ _ KX _ => (PySem.W.kit_cls KX self).2.1
  ne := fun h tp dd its n sl KX e => by
    obtain ⟨cd, hc, _⟩ := PySem.W.any_some T.hd
    cases q : (Value.ref D == Value.ref tp) with
    | false => rfl
    | true =>
      obtain rfl : D = tp := Value.ref.inj (beq_iff_eq.mp q)
      unfold PySem.W.clsIn at hc
      cases k : K.lookup D with
      | none => rw [k] at hc; cases hc
      | some o =>
        have z := (KX _ _ k).symm.trans e
        cases z
        rw [k] at hc
        cases hc
  ca := fun KX ⟨_, _, J⟩ q => x_class T KX J q
/-- isinstance(x, c) of an error -/
def rIsX (K : PySem.W.Frag) : List V → Hp → VK → Prop := fun xs H Q => ∃ (a C : Addr) (fs : List (Str × V)) (c : V) (cv : Value) (b b' : Bool), xs = [.ref a, c] ∧ Err H a C fs ∧ ExcC K C ∧ PySem.W.kitCls K (.ref C) (.ref C) = some b' ∧ ClsV c cv ∧ PySem.W.kitOne K (.ref C) cv = some b ∧ Q (.bl b) H
theorem call_isX {X : Cx} : CallR X (.builtin "isinstance") (rIsX X.K) := by
  intro pins s σ H xs us Q I r h
  obtain ⟨a, C, fs, c, cv, b, b', rfl, hE, T, self, hc, e, q⟩ := h
  obtain ⟨u1, u2, rfl, r1, r2⟩ : ∃ u1 u2, us = [u1, u2] ∧ RelV (.ref a) u1 ∧ RelV c u2 := by
    cases r with
    | cons x1 y1 =>
      cases y1 with
      | cons x2 y2 => cases y2; exact ⟨_, _, rfl, x1, x2⟩
  obtain rfl : u1 = Value.ref a := r1
  obtain rfl : u2 = cv := hc.eq r2
  obtain ⟨ox, od, J, _⟩ := err_at I hE
  exact PySem.W.kia_one (kit_err T self) I.kIn ⟨ox, od, J⟩ e (fun z => nomatch z) fun tk => ⟨.bl b, H, I.tok tk, rfl, q⟩
end
end TT

set_option Elab.async false
set_option linter.all false
set_option maxRecDepth 100000
set_option maxHeartbeats 4000000
/-! == of a thing with itself, repr of what holds small dicts. -/
namespace TT
open PySem PySem.Spec PyProof.Rows L2
section
variable {X : Cx}
/-- the same thing, or the same plain value -/
def D0 : Eqv := fun x y _ => y = x ∧ (flatB x = true ∨ ∃ a, x = .ref a)
theorem D0.mon : Mon D0 := fun _ _ _ _ _ h => h
theorem D0.eqV {K : PySem.W.Frag} {H : Hp} {x : V} (h : flatB x = true ∨ ∃ a, x = .ref a) : EqV K H 1 x x := by
  unfold EqV
  exact h.elim (fun f => .inl ⟨rfl, f⟩) fun ⟨a, e⟩ => .inr (.inl ⟨a, e, e⟩)
theorem D0.eqG : EqG X 1 D0 := by
  intro A pins s σ H x y u v S I rx ry h
  obtain ⟨rfl, h⟩ := h
  have un : A.units + 1 < cLine := by have := S.room.un; omega
  refine eqV_run I 1 A un y y u v (D0.eqV h) rx ry _ _ ⟨rfl, H, I, Ext.rfl'⟩
/-- x is equal to itself, whatever it holds -/
def SelfEq (K : PySem.W.Frag) (H : Hp) (x : V) : Prop := scal x x = true ∨ (∃ n, n ≤ 60 ∧ EqR K H (EqV K H n) x x) ∨ DTup K D0 x x H
def rSame (K : PySem.W.Frag) : R2 := fun x y H Q => y = x ∧ SelfEq K H x ∧ ∀ H', Ext H H' → Q (.bl true) H'
theorem op_same (hu : X.A.units + 64 < cLine) (hr : Room 2 X.A) : OpR X (compareOp .Eq) (rSame X.K) := by
  intro pins s σ H x y v u Q I rx ry h
  obtain ⟨rfl, h, q⟩ := h
  rcases h with h | ⟨n, hn, h⟩ | h
  · exact op_eq pins s σ H y y v u Q I rx ry ⟨h, by rw [decide_eq_true rfl]; exact q H Ext.rfl'⟩
  · exact op_eqV hu pins s σ H y y v u Q I rx ry ⟨n, hn, h, q H Ext.rfl'⟩
  · exact op_eqG (rcG_tup D0.mon D0.eqG) hr pins s σ H y y v u Q I rx ry ⟨h, q⟩
/-! ### repr -/
inductive DpD (K : PySem.W.Frag) (H : Hp) : V → PyData → Prop
  | dp {v : V} {d : PyData} (h : Dp K H v d) (n : d.hasDict = false) : DpD K H v d
  | tt {a b : Addr} (h : H a = some (.tup [.ref b])) (h2 : H b = some (.tup [])) : DpD K H (.ref a) (.tuple [.tuple []])
  | d0 {a : Addr} (h : H a = some (.dK [])) : DpD K H (.ref a) (.dict [])
  | d1 {a : Addr} {k : Str} {i : Int} (h : H a = some (.dK [(.inr k, .int i)])) : DpD K H (.ref a) (.dict [(.str k, .int i)])
theorem dp_tt {K : PySem.W.Frag} {H : Hp} {a b : Addr} (h : H a = some (.tup [.ref b])) (h2 : H b = some (.tup [])) : Dp K H (.ref a) (.tuple [.tuple []]) :=
  .tup (SqT.of h) (.cons (.tup (SqT.of h2) .nil) .nil)
/-- no tracked thing is sys.modules -/
theorem not_sys {pins : List (Addr × Obj)} {σ : L2.St} {H : Hp} {s : Shared} (I : Inv X pins σ H s) {o : Obj} (hs : X.K.lookup sysModules = some o) {l : Addr} {x : HO} (h : H l = some x) : l ≠ sysModules := by
  rintro rfl
  have hb : X.base.get? sysModules = some o := I.ok.mod.kin _ _ hs
  obtain ⟨h0, h1⟩ := I.ok.bs _ _ hb
  have := I.base.free _ _ h0 h1 (I.ok.noex _ _ hb)
  rw [this] at h
  cases h
theorem DpD.reads {pins : List (Addr × Obj)} {σ : L2.St} {H : Hp} {s : Shared} (I : Inv X pins σ H s) {v : V} {d : PyData} {u : Value} (h : DpD X.K H v d) (r : RelV v u) : ∃ as, Reads s.heap u d as ∧ (d.hasDict = true → ¬ sysModules ∈ as) := by
  cases h with
  | dp h n => exact (Dp.reads I d v u h r).imp fun as z => ⟨z, PyData.noDict_hsm n⟩
  | tt h h2 => exact (Dp.reads I _ _ u (dp_tt h h2) r).imp fun as z => ⟨z, PyData.noDict_hsm rfl⟩
  | @d0 a h =>
    obtain rfl : u = Value.ref a := r
    have z := I.hok _ _ h
    unfold ObjOk at z
    obtain ⟨_, ns, vs, kv, o, es, ep, g, ex, da, _, pr, _⟩ := z
    cases kv
    generalize e : es.toList = L at pr
    cases pr
    refine ⟨_, Reads.dict g ex.1 da (as := []) (bs := []) (by rw [e]; exact .nil) (by rw [e]; exact .nil), fun _ m => ?_⟩
    have : sysModules = a := by simpa using m
    rw [← this] at ns
    cases ns
  | @d1 a k i h =>
    obtain rfl : u = Value.ref a := r
    have z := I.hok _ _ h
    unfold ObjOk at z
    obtain ⟨_, ns, vs, kv, o, es, ep, g, ex, da, _, pr, nd⟩ := z
    clear nd
    cases kv with
    | @cons _ q _ _ p1 p2 =>
      cases p2
      obtain ⟨e0, t, e1⟩ : Sum.inr k = q.1 ∧ ∃ t, q.2 = Value.int i t := p1
      generalize hl : es.toList = L at pr
      cases pr with
      | cons c1 c2 c3 =>
        cases c3
        rename_i e
        have c4 : Value.isStrOf k e.key = true := by
          have c5 : keyIs q.1 e.key = true := c1
          rw [← e0] at c5
          exact c5
        obtain ⟨tk, ek⟩ : ∃ tk, e.key = .str k tk := by
          cases hk : e.key <;> rw [hk] at c4 <;> simp [Value.isStrOf] at c4
          exact ⟨_, by rw [c4]⟩
        have ev : e.val = .int i t := c2.trans e1
        refine ⟨_, Reads.dict g ex.1 da (kvs := [(.str k, .int i)]) (as := [] ++ []) (bs := [] ++ []) (by rw [hl]; exact .cons (by show Reads _ e.key (.str k) []; rw [ek]; exact .str _ _) .nil) (by rw [hl]; exact .cons (by show Reads _ e.val (.int i) []; rw [ev]; exact .int _ _) .nil), fun _ m => ?_⟩
        have : sysModules = a := by simpa using m
        rw [← this] at ns
        cases ns
theorem readsAll_rep {h : Heap} {d : PyData} {v : V} (one : ∀ u, RelV v u → ∃ as, Reads h u d as ∧ (d.hasDict = true → ¬ sysModules ∈ as)) :
    ∀ (n : Nat) (its : List Value), Vals (List.replicate n v) its → ∃ as, ReadsAll h its (List.replicate n d) as ∧ (d.hasDict = true → ¬ sysModules ∈ as)
  | 0, its, r => by
    cases r
    exact ⟨[], .nil, fun _ m => by cases m⟩
  | n + 1, its, r => by
    rw [List.replicate_succ] at r
    cases r with
    | cons r1 r2 =>
      obtain ⟨as, h1, h2⟩ := one _ r1
      obtain ⟨bs, h3, h4⟩ := readsAll_rep one n _ r2
      exact ⟨as ++ bs, .cons h1 h3, fun e m => (List.mem_append.mp m).elim (h2 e) (h4 e)⟩
theorem hasDictAll_rep {d : PyData} : ∀ n, PyData.hasDictAll (List.replicate n d) = true → d.hasDict = true
  | 0, h => by simp [PyData.hasDictAll] at h
  | n + 1, h => by
    rw [List.replicate_succ] at h
    simp only [PyData.hasDictAll, Bool.or_eq_true] at h
    exact h.elim id (hasDictAll_rep n)
/-- what repr is asked of here: such a thing, or a list of it many times -/
inductive RpD (K : PySem.W.Frag) (H : Hp) : V → PyData → Prop
  | one {v : V} {d : PyData} (h : DpD K H v d) : RpD K H v d
  | rep {l : Addr} {n : Nat} {v : V} {d : PyData} (hl : H l = some (.lst (List.replicate n v))) (h : DpD K H v d) : RpD K H (.ref l) (.list (List.replicate n d))
theorem RpD.reads {pins : List (Addr × Obj)} {σ : L2.St} {H : Hp} {s : Shared} (I : Inv X pins σ H s) {o : Obj} (hs : X.K.lookup sysModules = some o) {v : V} {d : PyData} {u : Value} (h : RpD X.K H v d) (r : RelV v u) : ∃ as, Reads s.heap u d as ∧ (d.hasDict = true → ¬ sysModules ∈ as) := by
  cases h with
  | one h => exact DpD.reads I h r
  | @rep l n v d hl h =>
    obtain rfl : u = Value.ref l := r
    have z := I.hok _ _ hl
    unfold ObjOk at z
    obtain ⟨_, its, k, vs, g⟩ := z
    obtain ⟨as, h1, h2⟩ := readsAll_rep (fun u r => DpD.reads I h r) n its vs
    refine ⟨l :: as, Reads.list g rfl rfl (by rw [List.toList_toArray]; exact h1), fun e m => ?_⟩
    have e2 : d.hasDict = true := by
      simp only [PyData.hasDict] at e
      exact hasDictAll_rep n e
    rcases List.mem_cons.mp m with m | m
    · exact not_sys I hs hl m.symm
    · exact h2 e2 m
def rReprD (K : PySem.W.Frag) : List V → Hp → VK → Prop := fun xs H Q => ∃ (x : V) (d : PyData), xs = [x] ∧ RpD K H x d ∧ d.showable = true ∧ d.depth ≤ 60 ∧ d.shown.length ≤ sizeLine ∧ Q (.str d.shown) H
theorem call_reprD {o : Obj} (hs : X.K.lookup sysModules = some o) (hg : X.A.guards = some []) (hu : X.A.units + 64 < cLine) : CallR X (.builtin "repr") (rReprD X.K) := by
  intro pins s σ H xs us Q I r h
  obtain ⟨x, d, rfl, hd, sh, hdep, hz, q⟩ := h
  obtain ⟨u, rfl, rx⟩ : ∃ u, us = [u] ∧ RelV x u := by
    cases r with
    | cons a b => cases b; exact ⟨_, rfl, a⟩
  by_cases c : ∃ a, x = .ref a
  · obtain ⟨a, rfl⟩ := c
    obtain rfl : u = Value.ref a := rx
    obtain ⟨as, rd, ns⟩ := RpD.reads (u := Value.ref a) I hs hd rfl
    exact repr_of_reads' rd sh ns hg (by omega) (fun _ _ e => e) (fun h' u tk hk => ⟨.str d.shown, H, I.kept hk, ⟨_, rfl⟩, q⟩) hz
  · cases hd with
    | rep => exact absurd ⟨_, rfl⟩ c
    | one h =>
      cases h with
      | dp h n => exact call_repr hg hu pins s σ H _ _ Q I (.cons rx .nil) ⟨x, d, rfl, h, sh, n, hdep, hz, q⟩
      | tt => exact absurd ⟨_, rfl⟩ c
      | d0 => exact absurd ⟨_, rfl⟩ c
      | d1 => exact absurd ⟨_, rfl⟩ c
end
end TT

set_option Elab.async false
set_option linter.all false
set_option maxRecDepth 100000
set_option maxHeartbeats 4000000
/-! repr of a list whose own address may be any (only what it holds must not be sys.modules) -/
namespace TT
open PySem PySem.Spec PyProof.Rows L2
theorem repr_lst {prog : Program} {w : World} {h₀ : Heap} {a : Addr} {o : Obj} {vs : Array Value} {n : Nat} {xs : List PyData} {as : List Addr} {A : Around} {E : Value → Shared → Prop} {s : Shared} {Q : Value → Shared → Prop}
    (at_a : h₀.get? a = some o) (is_l : o.cls = .type "list") (dat : o.data = .seq vs n) (its : ReadsAll h₀ vs.toList xs as)
    (sh : PyData.showableAll xs = true) (out : PyData.hasDictAll xs = true → ¬ sysModules ∈ as) (gd : A.guards = some []) (un : A.units + ((PyData.list xs).depth + 1) < cLine)
    (low : ∀ b u, h₀.get? b = some u → s.heap.get? b = some u)
    (k : ∀ h' u tk, (∀ b o, s.heap.get? b = some o → h'.get? b = some o) → Q (.str (PyData.list xs).shown u) { s with heap := h', toks := tk })
    (len : (PyData.list xs).shown.length ≤ sizeLine) : wpAny (model prog w) A (call (.builtin "repr") [.ref a]) Q E s := by
  have short : (listText (PyData.shownAll xs)).length ≤ sizeLine := by
    have := len
    rwa [PyData.shown] at this
  obtain ⟨bs, below, each⟩ := ReprAllK.of_readsAll (prog := prog) (w := w) its sh out fun t ht => Nat.le_trans (listText_mem_le ht) short
  have apart : a ∉ bs := by
    refine not_mem_of_deeper (Reads.list at_a is_l dat its) ?_ below
    rw [PyData.depth]
    omega
  have dep : A.in1.units + (PyData.list xs).depth < cLine := by
    show A.units + 1 + _ < cLine
    omega
  refine call_repr_slot (by omega) (show s.TypeIs (.ref a) "list" from ⟨o, low _ _ at_a, is_l⟩) F.slot_list_repr.toG ?_
  rw [PyData.depth] at dep
  have k' := k
  simp only [PyData.shown] at k'
  obtain ⟨l⟩ := vs
  cases l with
  | nil =>
    have none' : ReadsAll h₀ [] xs as := its
    cases none'
    simp only [PyData.shownAll, listText_nil] at k'
    exact call_list_repr_empty ⟨o, low _ _ at_a, is_l⟩ (low _ _ at_a) dat ⟨_, _, rfl, k' s.heap _ _ fun _ _ e => e⟩
  | cons x l =>
    have el := each.length_eq
    exact call_list_reprK at_a is_l dat apart (by simpa using el) (fun i y e => each.item i y (by simpa using e)) gd (fun b _ => Clear.nil b) dep low (fun h' u tk hk => ⟨_, _, rfl, k' h' u tk hk⟩) short
section
variable {X : Cx}
theorem call_reprS (hg : X.A.guards = some []) (hu : X.A.units + 64 < cLine) : CallR X (.builtin "repr") (rReprD X.K) := by
  intro pins s σ H xs us Q I r h
  obtain ⟨x, d, rfl, hd, sh, hdep, hz, q⟩ := h
  obtain ⟨u, rfl, rx⟩ : ∃ u, us = [u] ∧ RelV x u := by
    cases r with
    | cons a b => cases b; exact ⟨_, rfl, a⟩
  have fin : ∀ h' u tk, (∀ b o, s.heap.get? b = some o → h'.get? b = some o) → EP X pins σ Q (.str d.shown u) { s with heap := h', toks := tk } := fun h' u tk hk => ⟨.str d.shown, H, I.kept hk, ⟨_, rfl⟩, q⟩
  cases hd with
  | @rep l n v d hl h =>
    obtain rfl : u = Value.ref l := rx
    have z := I.hok _ _ hl
    unfold ObjOk at z
    obtain ⟨_, its, k, vs, g⟩ := z
    obtain ⟨as, h1, h2⟩ := readsAll_rep (fun u r => DpD.reads I h r) n its vs
    have sh' : PyData.showableAll (List.replicate n d) = true := by
      rwa [PyData.showable] at sh
    exact repr_lst g rfl rfl (by rw [List.toList_toArray]; exact h1) sh' (fun e => h2 (hasDictAll_rep n e)) hg (by omega) (fun _ _ e => e) fin hz
  | one h =>
    by_cases c : ∃ a, x = .ref a
    · obtain ⟨a, rfl⟩ := c
      obtain rfl : u = Value.ref a := rx
      obtain ⟨as, rd, ns⟩ := DpD.reads (u := Value.ref a) I h rfl
      exact repr_of_reads' rd sh ns hg (by omega) (fun _ _ e => e) fin hz
    · cases h with
      | dp h n => exact call_repr hg hu pins s σ H _ _ Q I (.cons rx .nil) ⟨x, d, rfl, h, sh, n, hdep, hz, q⟩
      | tt => exact absurd ⟨_, rfl⟩ c
      | d0 => exact absurd ⟨_, rfl⟩ c
      | d1 => exact absurd ⟨_, rfl⟩ c
end
end TT

set_option Elab.async false
set_option linter.all false
set_option maxRecDepth 100000
set_option maxHeartbeats 4000000
/-! A lambda handed to a def; an error that was caught, kept behind its suite. -/
namespace TT
open PySem PySem.Spec PyProof.Rows L2
/-- at e: an error that was caught, of the class cls, its dict d -/
def exk (e : Addr) (cls : Value) (d : Option Addr) : HO := .ext fun h => ∃ (o : Obj) (vs : Array Value), h.get? e = some o ∧ Zc cls d o ∧ o.data = .fields vs
theorem exk_ok {P : Program} {w : World} {H : Hp} {h : Heap} {e : Addr} {cls : Value} {d : Option Addr} {o : Obj} {vs : Array Value} (he : h.get? e = some o) (hz : Zc cls d o) (hd : o.data = .fields vs) : ObjOk P w H h e (exk e cls d) :=
  ⟨⟨o, vs, he, hz, hd⟩, ⟨_, he⟩, fun h1 h2 ⟨o1, vs1, a, b, c⟩ k => ⟨o1, vs1, k _ a, b, c⟩⟩
theorem exk_at {P : Program} {w : World} {H : Hp} {h : Heap} {e : Addr} {cls : Value} {d : Option Addr} (hok : HOk P w H h) (he : H e = some (exk e cls d)) : ∃ (o : Obj) (vs : Array Value), h.get? e = some o ∧ Zc cls d o ∧ o.data = .fields vs := by
  have x : ObjOk P w H h e (.ext fun h => ∃ (o : Obj) (vs : Array Value), h.get? e = some o ∧ Zc cls d o ∧ o.data = .fields vs) := hok e _ he
  exact x.1
section
variable {X : Cx} {pins : List (Addr × Obj)} {σ : L2.St} {H : Hp} {s : Shared} {a : Addr} {cls : Value} {d : Option Addr} {oe : Obj} {vs : Array Value}
/-- a caught error is tracked -/
theorem Inv.track (I : Inv X pins σ H s) (ha : s.heap.get? a = some oe) (hz : Zc cls d oe) (hd : oe.data = .fields vs) (na : H a = none) (nL : a ≠ X.env.locals) (n0 : X.s_0.heap.get? a = none) (np : ∀ p ∈ X.pn ++ pins, p.1 ≠ a) :
    Inv X pins σ (L2.upd H a (exk a cls d)) s := by
  have sm : ∀ {b : Addr} {u : HO}, H b = some u → b ≠ a := fun {b u} e => ne_of_none e na
  refine ⟨I.ok, I.os, I.bare, ⟨I.base.keep, I.base.slot, fun b o e n hx => ?_, I.base.there, fun b xs e => ?_, fun b o u e => ?_, fun b ps e => ?_⟩, I.loc, I.cell, ?_, fun x c e => ?_, fun p hp => ?_, fun b u e => ?_, I.len⟩
  · have nb : b ≠ a := fun z => by rw [z, n0] at e; cases e
    rw [upd_ne nb]
    exact I.base.free b o e n hx
  · have q := I.base.tups b xs e
    rw [upd_ne (sm q)]
    exact q
  · have q := I.base.frzs b o u e
    rw [upd_ne (sm q)]
    exact q
  · obtain ⟨more, q⟩ := I.base.tbls b ps e
    exact ⟨more, by rw [upd_ne (sm q)]; exact q⟩
  · rw [upd_ne nL.symm]
    exact I.free
  · have nc : c ≠ a := fun z => by
      obtain ⟨v, o, ho, hc⟩ := I.cell x c e
      rw [z, ha] at ho
      cases ho
      rw [hd] at hc
      cases hc
    rw [upd_ne nc]
    exact I.freeC x c e
  · obtain ⟨e, n, r⟩ := I.pin p hp
    exact ⟨e, by rw [upd_ne (np p hp)]; exact n, r⟩
  · by_cases hb : b = a
    · subst hb
      rw [upd_same] at e
      cases e
      exact exk_ok ha hz hd
    · rw [upd_ne hb] at e
      exact (I.hok b u e).stay (fun _ _ _ q => q) (fun c q => by rw [upd_ne (sm q)]; exact q) fun c xs q => by rw [upd_ne (sm q)]; exact q
end
/-- what 'except x as n' wishes of the body's errors, each caught and kept behind the suite -/
def wKept (K : PySem.W.Frag) (c : Value) (i : Nat) (ts : Addr → Value → Option Addr → TS) (nx : L2.St → Hp → Prop) : WX := fun cls d σ H =>
  PySem.W.exmOne K cls c = some true ∧ ∀ a, H a = none → ts a cls d ⟨fun σ' H' => H' a = none → nx (σ'.set i none) (L2.upd H' a (exk a cls d)), fun _ _ => False, fun _ _ => False, fun _ _ => False⟩ (σ.set i (some (.ref a))) H
section
variable {X : Cx} {x n : Str} {c : Value} {i : Nat} {body suite : List Stmt} {b₀ : Stmt} {np pos pos' : Pos} {tb : WX → TS} {ts : Addr → Value → Option Addr → TS}
/-- try: body / except x as n: suite, where each error that the body lets out is an x -/
theorem ps_try_kept (hs : X.stack = X.env :: X.outer) (hf : X.env.frame = some X.env.locals) (hex : X.ex = []) (hN : X.N.Nodup) (hi : X.N[i]? = some n) (hln : X.env.kindOf n = some .local) (hc : Names X x c)
    (hb : ∀ (W : WX) (pn : List (Addr × Obj)) (xe : Value → Shared → Prop), Takes (X.tr pn xe) W → PassesOwn (model X.prog X.w) X.A X.env xe → PSs (X.tr pn xe) body (tb W))
    (hsu : ∀ (a : Addr) (oe : Obj) (cls : Value) (d : Option Addr) (pn : List (Addr × Obj)), Zc cls d oe → (∃ vs, oe.data = .fields vs) → PSs (X.suite a ((a, oe) :: pn)) (b₀ :: suite) (ts a cls d)) :
    PS X (.Try body [.ExceptHandler (some (.Name x np)) (some n) (b₀ :: suite) pos'] [] [] pos) (fun D σ H => tb (wKept X.K c i ts D.nx) ⟨D.nx, fun _ _ => False, fun _ _ => False, fun _ _ => False⟩ σ H) := by
  constructor
  intro pins s σ H D I h
  have ok := I.ok
  -- what is done with an error of the body
  let R : Value → Shared → Prop := fun e s₁ => wpAny (model X.prog X.w) X.A (noteFrame e X.env) (fun _ s₂ => wpAny (model X.prog X.w) X.A (setFlight e none) (fun _ s₃ =>
    wpAny (model X.prog X.w) X.A (handleBy e X.env [.ExceptHandler (some (.Name x np)) (some n) (b₀ :: suite) pos']) (SP X pins D) X.xe s₃) X.xe s₂) X.xe s₁
  have caught : Takes (X.tr (X.pn ++ pins) R) (wKept X.K c i ts D.nx) := by
    rintro u s' ⟨a, B, t0, pins', σ1, H1, cls, d, rfl, J0, ground, up, sky, na, os, ag, ex, told⟩
    have J : Inv X pins σ1 H1 t0 := J0.ofTry ok
    have frames : X.A.frames = some (X.env :: X.outer) := ok.frames.trans (congrArg some hs)
    have sky2 : Sky B (X.env :: X.outer) a (Zc cls d) X.env.locals s'.heap := hs ▸ sky
    have none_of : ∀ {h1 : Heap}, HandSPX.FlyingZ B (X.env :: X.outer) a (Zc cls d) h1 → a ∉ frs (X.env :: X.outer) := fun fl hm => by
      obtain ⟨o, vs, e1, _, e2⟩ := fl.there
      obtain ⟨_, o2, e3, e4⟩ := fl.2.2.1.mem hm
      cases e1.symm.trans e3
      exact e4 _ e2
    refine Sky.land Zc.steady frames hf sky2 fun g1 fl1 up1 => ?_
    have off := none_of fl1
    have nL : a ≠ X.env.locals := fun z => off (List.mem_filterMap.mpr ⟨_, List.mem_cons_self, hf.trans (congrArg some z.symm)⟩)
    have nF : a ∉ X.fs := fun hm => off (List.mem_filterMap.mpr ((List.mem_filterMap.mp hm).imp fun _ z => ⟨List.mem_cons_of_mem _ z.1, z.2⟩))
    have gone : t0.heap.get? a = none := by
      cases q : t0.heap.get? a with
      | none => rfl
      | some o => cases fl1.2.1.symm.trans (ground a o q (hs ▸ off))
    have older : X.s_0.heap.get? a = none := by
      cases q : X.s_0.heap.get? a with
      | none => rfl
      | some o =>
        obtain ⟨o2, z⟩ := J.base.there a o q (hex ▸ List.not_mem_nil)
        cases gone.symm.trans z
    have npin : ∀ p ∈ X.pn ++ pins, p.1 ≠ a := fun p hp z => by cases gone.symm.trans (z ▸ (J.pin p hp).1)
    obtain ⟨o1, vs1, e1, z1, f1⟩ := fl1.there
    have J1 : Inv X pins σ1 H1 { s' with heap := g1 } := J.landed ground fl1.1 (up.trans up1) os ag
    refine wpAny_handleBy_cons (codeAny_handlers_test ?_) (fun q => nomatch q)
    have matches_ := PySem.W.exm_one (M := model X.prog X.w) J1.kIn (fun A Q E s k q => wpAny_typeOf_ref (k _ _ e1) (z1.1 ▸ q)) ex
    have S1 := J1.suite e1 f1 na nL nF
    have named : ∀ {Q : Value → Shared → Prop} {E : Value → Shared → Prop}, Q c { s' with heap := g1 } → wpAny (model X.prog X.w) (X.A.mark (some (.ref a))) (eval (.Name x np) X.env) Q E { s' with heap := g1 } := fun {Q E} q => by
      obtain ⟨h1, h2, h3 | ⟨h3, h4, h5⟩⟩ := hc
      · exact ld_glob (X := X.suite a ((a, o1) :: (X.pn ++ pins))) S1 h1 h3 q h2
      · exact ld_blt (X := X.suite a ((a, o1) :: (X.pn ++ pins))) S1 h1 h3 h4 q h5 h2
    refine named (matches_.here (codeAny_handlers_suite_as (HandSPX.lands_againZ fl1 fun g2 fl2 up2 => ?_)))
    obtain ⟨o2, vs2, e2, z2, f2⟩ := fl2.there
    have J2 : Inv X pins σ1 H1 { s' with heap := g2 } := J.landed ground fl2.1 ((up.trans up1).trans up2) os ag
    refine store_ok (X := X.suite a ((a, o2) :: (X.pn ++ pins))) (v := .ref a) (J2.suite e2 f2 na nL nF) hN hi (.inl hln) rfl (fun s5 S5 => ?_) (.inr hln)
    refine wpAny_mono ((hsu a o2 cls d (X.pn ++ pins) z2 ⟨_, f2⟩).run [] s5 _ H1 _ S5 (told a na)) (fun f s6 hsp => ?_) (fun _ _ z => z.elim)
    match f, hsp with
    | .next, ⟨σ6, H6, S6, q6⟩ =>
      obtain ⟨e6, n6, _⟩ := S6.pin (a, o2) (List.mem_append_left _ List.mem_cons_self)
      exact gone_ok (Inv.track (S6.unsuite ok) e6 z2 f2 n6 nL older npin) hN hi hln fun s7 J7 => ⟨_, _, J7, q6 n6⟩
    | .brk, ⟨_, _, _, z⟩ => exact z.elim
    | .cont, ⟨_, _, _, z⟩ => exact z.elim
    | .ret u, ⟨_, _, _, _, _, z⟩ => exact z.elim
  refine wpAny_Try_except (wpAny_mono ((hb _ (X.pn ++ pins) R caught PassesOwn.looking).run [] s σ H _ (I.toTry _) h) (fun f s1 hsp => ?_) fun _ _ z => z)
  match f, hsp with
  | .next, ⟨σ2, H2, J2, q2⟩ => exact wpAny_execs_nil ⟨σ2, H2, J2.ofTry ok, q2⟩
  | .brk, ⟨_, _, _, z⟩ => exact z.elim
  | .cont, ⟨_, _, _, z⟩ => exact z.elim
  | .ret u, ⟨_, _, _, _, _, z⟩ => exact z.elim
end
/-! ### a callable without parameters, as a value -/
theorem Un.then {fs fs' : List Addr} {H H1 H2 : Hp} {h h1 h2 : Heap} (a : Un fs [] H H1 h h1) (b : Un fs' [] H1 H2 h1 h2) (h1' : ∀ c ∈ fs', c ∈ fs ∨ h.get? c = none) (h2' : ∀ c ∈ fs, c ∈ fs') : Un fs [] H H2 h h2 where
  keep := fun c ob q n hc hx => b.keep c ob (a.keep c ob q n hc hx) (a.free c ob q n hx) (fun z => (h1' c z).elim hc fun z => by rw [q] at z; cases z) hx
  slot := fun c ob q n hc hx => by
    obtain ⟨sl, e1⟩ := a.slot c ob q n hc hx
    obtain ⟨sl', e2⟩ := b.slot c _ e1 (a.free c ob q n hx) (h2' c hc) hx
    exact ⟨sl', e2⟩
  free := fun c ob q n hx => by
    obtain ⟨o', e1⟩ := a.there c ob q hx
    exact b.free c o' e1 (a.free c ob q n hx) hx
  there := fun c ob q hx => by
    obtain ⟨o', e1⟩ := a.there c ob q hx
    exact b.there c o' e1 hx
  tups := fun c xs q => b.tups c xs (a.tups c xs q)
  frzs := fun c ob xs q => b.frzs c ob xs (a.frzs c ob xs q)
  tbls := fun c ps q => by
    obtain ⟨m1, e1⟩ := a.tbls c ps q
    obtain ⟨m2, e2⟩ := b.tbls c _ e1
    exact ⟨m1 ++ m2, by rw [e2, Array.append_assoc]⟩
end TT

set_option Elab.async false
set_option linter.all false
set_option maxRecDepth 100000
set_option maxHeartbeats 4000000
/-! A callable without parameters as a value: what it does while it is handed on, lambdas that are such, defs that take one. -/
namespace TT
open PySem PySem.Spec PyProof.Rows L2 LamX
theorem un_then {fs fs' : List Addr} {H H1 H2 : Hp} {h h1 h2 : Heap} (a : Un fs [] H H1 h h1) (b : Un fs' [] H1 H2 h1 h2) (new : ∀ c ∈ fs', c ∈ fs ∨ h.get? c = none) (sub : ∀ c ∈ fs, c ∈ fs') : Un fs [] H H2 h h2 := by
  have up : Un fs' [] H H1 h h1 := a.mono sub fun _ z => z
  have all := up.trans b
  refine ⟨fun c o e n hc hx => ?_, fun c o e n hc hx => all.any e n hx, all.free, all.there, all.tups, all.frzs, all.tbls⟩
  refine b.keep c o (a.keep c o e n hc hx) (a.free c o e n hx) (fun z => ?_) hx
  rcases new c z with q | q
  · exact hc q
  · rw [q] at e; cases e
/-- f() runs so, as long as what stands in (s, H) but the frames fs stays -/
structure Runs (P : Program) (w : World) (K : PySem.W.Frag) (mg : Str → Option Value) (base : Heap) (fs : List Addr) (k : Nat) (f : Addr) (tl : XK → Hp → VK → Prop) (s : Shared) (H : Hp) : Prop where
  obj : ∃ (oc : Value) (od : Option Addr) (fd : FuncData) (sl : Array (Option Value)), s.heap.get? f = some ⟨oc, od, .func fd, sl⟩
  fn : H f = none
  fr : f ∉ fs
  run : ∀ (A : Around) (outer : List Env) (s1 : Shared) (HZ : Hp) (Q : VK) (E : XK), Room (k + 1) A → Env0 P w K mg base A outer s1 HZ → Un fs [] H HZ s.heap s1.heap → tl E HZ Q →
    codeAny (model P w) A (.call (.ref f) ⟨[], []⟩) (CR (L2.CX P w) outer P w HZ s1 Q E) s1
section
variable {P : Program} {w : World} {K : PySem.W.Frag} {mg : Str → Option Value} {base : Heap} {k j : Nat} {f : Addr} {tl : XK → Hp → VK → Prop}
theorem Runs.step {fs fs' : List Addr} {s s1 : Shared} {H H1 : Hp} (R : Runs P w K mg base fs k f tl s H) (u : Un fs [] H H1 s.heap s1.heap) (new : ∀ c ∈ fs', c ∈ fs ∨ s.heap.get? c = none) (sub : ∀ c ∈ fs, c ∈ fs') : Runs P w K mg base fs' k f tl s1 H1 := by
  obtain ⟨oc, od, fd, sl, e⟩ := R.obj
  refine ⟨⟨oc, od, fd, sl, u.keep f _ e R.fn R.fr List.not_mem_nil⟩, u.free f _ e R.fn List.not_mem_nil, fun z => ?_, fun A outer s2 HZ Q E hr e0 u2 t => R.run A outer s2 HZ Q E hr e0 (un_then u u2 new sub) t⟩
  rcases new f z with q | q
  · exact R.fr q
  · rw [q] at e; cases e
/-- within a def that got it: at any state of the def -/
theorem Runs.now {X : Cx} {pins : List (Addr × Obj)} {σ : L2.St} {H : Hp} {s : Shared} (R : Runs X.prog X.w X.K X.mg X.base X.fs k f tl X.s_0 X.H_0) (hex : X.ex = []) (I : Inv X pins σ H s) : Runs X.prog X.w X.K X.mg X.base (frs X.stack) k f tl s H := by
  have u : Un X.fs [] X.H_0 H X.s_0.heap s.heap := hex ▸ I.base
  refine R.step u (fun c hc => ?_) fun c hc => ?_
  · rcases List.mem_cons.mp (I.stkSub c hc) with z | z
    · exact .inr (Heap.get?_none_of_le (z ▸ I.ok.above))
    · exact .inl z
  · rcases I.ok.stk with z | ⟨z, hf⟩
    · rw [z]; exact hc
    · rw [z]
      unfold frs
      rw [List.filterMap_cons, hf]
      exact List.mem_cons_of_mem _ hc
end
/-- a def whose first argument is such a callable -/
structure LOk (P : Program) (w : World) (K : PySem.W.Frag) (mg : Str → Option Value) (base : Heap) (k j : Nat) (g : Addr) (fd : FuncData) (ps : List Str) (sp : (XK → Hp → VK → Prop) → List V → Hp → VK → Prop) : Prop where
  len : ∀ tl vs H Q, sp tl vs H Q → vs.length + 1 = ps.length
  run : ∀ (A : Around) (outer : List Env) (s : Shared) (H : Hp) (args : Args) (us : List Value) (vs : List V) (Q : VK) (f : Addr) (tl : XK → Hp → VK → Prop), A.guards = some [] → Room k A → Env0 P w K mg base A outer s H →
    BindsTo s fd args (ps.zip (.ref f :: us)) → Vals vs us → Runs P w K mg base (frs outer) j f tl s H → sp tl vs H Q → codeAny (model P w) A (.call (.ref g) args) (CR CX0 outer P w H s Q fun _ _ _ => False) s
section
variable {X : Cx} {k j i : Nat} {f g : Addr} {fd : FuncData} {ps : List Str} {sp : (XK → Hp → VK → Prop) → List V → Hp → VK → Prop} {tl : XK → Hp → VK → Prop} {x a : Str} {p p1 p2 pos : Pos} {e : Expr} {es : List Expr} {ta : TA}
theorem run_L {pins : List (Addr × Obj)} {σ : L2.St} {H : Hp} {s : Shared} {Q : VK} {us : List Value} {vs : List V} (L : LOk X.prog X.w X.K X.mg X.base k j g fd ps sp) (gd : X.A.guards = some []) (hr : Room k X.A) (hb : Binds X.K fd ps [])
    (I : Inv X pins σ H s) (R : Runs X.prog X.w X.K X.mg X.base (frs X.stack) j f tl s H) (r : Vals vs us) (h : sp tl vs H Q) : wpAny (model X.prog X.w) X.A (call (.ref g) (.ref f :: us)) (EP X pins σ Q) X.xe s := by
  have n : (.ref f :: us : List Value).length = ps.length := by
    rw [List.length_cons, ← r.length]
    exact L.len _ _ _ _ h
  have b := hb s (.ref f :: us) I.kIn (by rw [List.append_nil]; exact n)
  rw [List.append_nil] at b
  refine wpAny_call (codeAny_mono (L.run X.A X.stack s H ⟨.ref f :: us, []⟩ us vs Q f tl gd hr I.env0 b r R h) fun res s1 z => ?_)
  match res, z with
  | .error _, z => exact z.elim
  | .ok (.ret u), z => exact I.after z
  | .ok .next, z => exact z.elim
  | .ok .brk, z => exact z.elim
  | .ok .cont, z => exact z.elim
/-- g(x, ..) in a def that got x -/
theorem pe_handon (R : Runs X.prog X.w X.K X.mg X.base X.fs j f tl X.s_0 X.H_0) (hex : X.ex = []) (L : LOk X.prog X.w X.K X.mg X.base k j g fd ps sp) (gd : X.A.guards = some []) (hr : Room k X.A) (hb : Binds X.K fd ps [])
    (hg : Gl X x) (hm : X.mg x = some (.ref g)) (hk : PySem.W.keepIn X.K (.ref g) = true) (ha : PA X (e :: es) ta) (hdb : (x == ("__debug__" : Str)) = false := by decide)
    (he : starEach (e :: es) X.env = (false, eval e X.env) :: starEach es X.env := by rfl) (hpl : (backTo pos (starEach es X.env)).any (·.1) = false := by rfl) :
    PE X (.Call (.Name x p) (e :: es) [] pos) (fun σ H Q => ta σ H fun vs H1 => ∃ ws, vs = .ref f :: ws ∧ sp tl ws H1 Q) := by
  constructor
  intro pins s σ H Q I h
  refine wpAny_Call_Name_kw (ld_glob I hg hm (PySem.W.callWith_K (h₀ := X.base) I.ok.mod.kin hk (thn (ha.run pos pins s σ H _ I h) fun us s1 ⟨vs, H1, I1, r, ws, ev, q⟩ => ⟨I1.kIn, ?_⟩) he hpl) hdb)
  subst ev
  cases r with
  | @cons _ u _ ur r1 r2 =>
    obtain rfl : u = Value.ref f := r1
    exact run_L L gd hr hb I1 (R.now hex I1) r2 q
/-- x() in a def that got x -/
theorem pe_look {E : XK} (R : Runs X.prog X.w X.K X.mg X.base X.fs k f tl X.s_0 X.H_0) (hex : X.ex = []) (hx : Passes (L2.CX X.prog X.w) X E) (hr : Room (k + 1) X.A) (hN : X.N[i]? = some a) (hv : Vis X.env.scope a)
    (hd : (a == ("__debug__" : Str)) = false := by decide) (hcd : (a == ("__classdict__" : Str)) = false := by decide) :
    PE X (.Call (.Name a p1) [] [] p2) (fun σ H Q => σ[i]? = some (some (.ref f)) ∧ tl E H Q) := by
  constructor
  intro pins s σ H Q I ⟨hs, t⟩
  refine wpAny_Call_Name_kw (thn ((pe_var (pos := p1) (i := i) hN hv hd hcd).run pins s σ H (fun v H1 => v = .ref f ∧ H1 = H) I ⟨_, hs, rfl, rfl⟩) fun u s1 ⟨v, H1, I1, r1, ev, eH⟩ => ?_)
  subst ev eH
  obtain rfl : u = Value.ref f := r1
  have R1 := R.now hex I1
  obtain ⟨oc, od, fd, sl, ob⟩ := R1.obj
  refine PySem.W.callWith_F0 (first := []) ⟨oc, od, fd, sl, ob⟩ (wpAny_call (codeAny_mono (R1.run X.A X.stack s1 _ Q E hr I1.env0 Un.refl t) fun res s2 z => ?_))
  match res, z with
  | .error e, z => exact hx pins σ _ s1 e s2 I1 z
  | .ok (.ret u), z => exact I1.after z
  | .ok .next, z => exact z.elim
  | .ok .brk, z => exact z.elim
  | .ok .cont, z => exact z.elim
/-- g(lambda: body, ..): T the tables of code objects -/
theorem pe_lam {T : List (Addr × Str)} {c PT : Addr} {params : Arguments} {body : Expr} {scope : Scope} {t : XK → TE} {lpos : Pos} (L : LOk X.prog X.w X.K X.mg X.base j k g fd ps sp) (gd : X.A.guards = some []) (hr : Room j X.A) (hb : Binds X.K fd ps [])
    (hg : Gl X x) (hm : X.mg x = some (.ref g)) (hk : PySem.W.keepIn X.K (.ref g) = true) (ha : PA X es ta)
    (TB : TabB X.base X.mg c PT) (hcode : X.env.code = .ref c) (hmT : (PT, X.env.qual ++ "<lambda>") ∈ T) (hu : ∀ p ∈ T, p.1 = PT → p.2 = X.env.qual ++ "<lambda>") (S : LamS X.env.scope scope) (hdef : defaultsOf params X.env = ([], []))
    (hbind : ∀ (q : Str) (cl : List (Str × Addr)) (pm cv ctv : Value), bindArgs (PySem.W.kla_fn "<lambda>" q params body scope cl pm cv ctv) ⟨[], []⟩ = pure [])
    (hbody : ∀ (A : Around) (outer : List Env) (s : Shared) (H : Hp) (E : XK) (f c' : Addr), Room k (A.deeper (lamEnv X scope s.heap.objs.size f c')) → PE (lamCx X A outer s H E scope f c') body (t E))
    (hdb : (x == ("__debug__" : Str)) = false := by decide)
    (he : starEach (.Lambda params body scope lpos :: es) X.env = (false, eval (.Lambda params body scope lpos) X.env) :: starEach es X.env := by rfl) (hpl : (backTo pos (starEach es X.env)).any (·.1) = false := by rfl) :
    PE X (.Call (.Name x p) (.Lambda params body scope lpos :: es) [] pos)
      (fun σ H Q => Tabs T H ∧ ∀ H1 c', ExtN H H1 → Tabs T H1 → H1 c' = some (CodeO c' (X.env.qual ++ "<lambda>")) → ta σ H1 fun ws H2 => sp (fun E H' Q' => H' c' = some (CodeO c' (X.env.qual ++ "<lambda>")) ∧ t E σ H' Q') ws H2 Q) := by
  constructor
  intro pins s σ H Q I ⟨hT, h⟩
  refine wpAny_Call_Name_kw (ld_glob I hg hm ?_ hdb)
  refine PySem.W.callWith_K (h₀ := X.base) I.ok.mod.kin hk ?_ he hpl
  rw [he]
  refine Calls.spliced_cons (lam_make2 I TB hcode hmT hu hT hdef (S.has I.ok) fun f c' pm ctv H1 s1 I1 eN T1 hf hfn hfr hco => ?_)
  have fL : f ≠ X.env.locals := fun z => by
    obtain ⟨m, ⟨o, es, ep, e1, e2, _⟩, _⟩ := I1.loc
    rw [← z, hf] at e1
    cases e1
    cases e2
  have fF : f ∉ X.fs := fun z => hfr (by
    rcases I1.ok.stk with q | ⟨q, hf2⟩
    · rw [q]; exact z
    · rw [q]; unfold frs; rw [List.filterMap_cons, hf2]; exact List.mem_cons_of_mem _ z)
  generalize hob : PySem.W.kla_obj "<lambda>" (X.env.qual ++ "<lambda>") params body scope (cloFrom X.env.cells scope.names []) pm c' ctv = ob at hf
  have I1p : Inv X ((f, ob) :: pins) σ H1 s1 := I1.pins_of fun q hq => by
    rcases List.mem_cons.mp hq with z | z
    · subst z
      exact ⟨hf, hfn, fL, fF, fun v z => by rw [← hob] at z; cases z⟩
    · exact I1.pin q (List.mem_append_right _ z)
  refine thn (ha.run pos ((f, ob) :: pins) s1 σ H1 _ I1p (h H1 c' eN T1 hco)) fun us s2 ⟨ws, H2, I2p, r, q⟩ => ⟨I2p.kIn, ?_⟩
  have I2 : Inv X pins σ H2 s2 := I2p.pins_of fun q hq => I2p.pin q (List.mem_append_right _ (List.mem_cons_of_mem _ hq))
  obtain ⟨e2, n2, _⟩ := I2p.pin (f, ob) (List.mem_append_right _ List.mem_cons_self)
  refine run_L (f := f) (tl := fun E H' Q' => H' c' = some (CodeO c' (X.env.qual ++ "<lambda>")) ∧ t E σ H' Q') L gd hr hb I2 ⟨⟨_, _, _, _, by rw [← hob] at e2; exact e2⟩, n2, hfr, fun A outer s3 HZ Q' E hrA e0 un ⟨hc', ht⟩ => ?_⟩ r q
  have e3 := un.keep f _ e2 n2 hfr List.not_mem_nil
  rw [← hob] at e3
  obtain ⟨⟨oc, vs, tk, hoc, hdc, hvc⟩, _, _⟩ := e0.hok c' _ hc'
  refine PySem.W.kla_callFunE hrA.depth e3 rfl S.co S.gen rfl ⟨c', oc, vs, tk, rfl, hoc, hdc, hvc⟩ ?_
  rw [hbind]
  have lim : s3.heap.NoLimit := e0.mod.nolimit.keeps fun b o z => (e0.bs b o z).1
  refine wpAny_pure (wpAny_newFunctionEnv (fun y hy => (S.own y hy).2) (fun y hy => absurd hy List.not_mem_nil) (fun h₁ hns hsb => ⟨lim.fresh _ hsb, ?_⟩) S.kind)
  show codeAny _ _ (.expr body (lamEnv X scope s3.heap.objs.size f c')) _ _
  have kp : ∀ b o, s3.heap.get? b = some o → h₁.get? b = some o := fun b o z => hsb.extBut b o (Nat.ne_of_lt (Heap.lt_size z)) (Heap.get?_push_of_some _ z)
  have J := lam_start2 (f := f) (c' := c') (E := E) (tk := s3.toks + ([] : List (Str × Value)).length) I2 S e0 hrA.hd un hns kp
  refine PySem.W.kla_codeExpr (wpAny_mono ((hbody A outer s3 HZ E f c' (hrA.deeper _)).run [] _ σ HZ Q' J ht) (fun v s' ⟨w', H', J', rv, q'⟩ => ⟨w', H', J'.os, J'.bare, J'.base, J'.hok, rv, q'⟩) fun _ _ z => z)
end
/-- a def of the text whose first argument is such a callable -/
theorem okL {P : Program} {w : World} {K : PySem.W.Frag} {mg : Str → Option Value} {base : Heap} {x qual : Str} {st : Stmt} {g : Addr} {fd : FuncData} {N ps : List Str} {k j : Nat} {sp : (XK → Hp → VK → Prop) → List V → Hp → VK → Prop} (F : Fun K x qual st g fd) (S : FnScope N ps (defScope st))
    (len : ∀ tl vs H Q, sp tl vs H Q → vs.length + 1 = ps.length)
    (hb : ∀ (cdv : Value) (A : Around) (outer : List Env) (s : Shared) (H : Hp) (vs : List V) (Q : VK) (f : Addr) (tl : XK → Hp → VK → Prop), A.guards = some [] → Room k (A.deeper (envOfC qual (defScope st) s.heap.objs.size g cdv)) → Runs P w K mg base (frs outer) j f tl s H → sp tl vs H Q →
      ∃ t, PSs (cxOf CX0 P w K mg base N qual (defScope st) g cdv A outer s H fun _ _ _ => False).nox (defBody st) t ∧ t { nx := fun _ H1 => Q .non H1, rt := Q } (start N (.ref f :: vs)) H) : LOk P w K mg base (k + 1) j g fd ps sp := by
  obtain ⟨oc, od, kV, doc, pm, an, cdv, ct, osl, rfl, lk, hcd⟩ := F.ex
  refine ⟨len, fun A outer s H args us vs Q f tl gd hr e0 bnd r R h => ?_⟩
  refine run_ofS (vs := .ref f :: vs) lk hcd S hr e0 bnd (.cons rfl r) (len _ _ _ _ h) fun hr' => ?_
  obtain ⟨t, ht, hq⟩ := hb cdv A outer s H vs Q f tl gd hr' R h
  exact ⟨t, ht.nox, hq⟩
/-- x() in a try's body: what it lets out is told at the slots as they stand -/
def tLook (f : Addr) (i : Nat) (tl : XK → Hp → VK → Prop) (W : WX) : TE := fun σ H Q => ∃ (E : XK) (Q0 : VK), (∀ cls d H', E cls d H' → W cls d σ H') ∧ (∀ v H', Q0 v H' → Q v H') ∧ σ[i]? = some (some (.ref f)) ∧ tl E H Q0
theorem pe_lookS {X : Cx} {k i : Nat} {f : Addr} {tl : XK → Hp → VK → Prop} {a : Str} {p1 p2 : Pos} {W : WX} (tk : Takes X W) (R : Runs X.prog X.w X.K X.mg X.base X.fs k f tl X.s_0 X.H_0) (hex : X.ex = []) (hr : Room (k + 1) X.A) (hN : X.N[i]? = some a) (hv : Vis X.env.scope a)
    (hd : (a == ("__debug__" : Str)) = false := by decide) (hcd : (a == ("__classdict__" : Str)) = false := by decide) : PE X (.Call (.Name a p1) [] [] p2) (tLook f i tl W) := by
  constructor
  intro pins s σ H Q I ⟨E, Q0, hW, hQ, hs, t⟩
  refine wpAny_Call_Name_kw (thn ((pe_var (pos := p1) (i := i) hN hv hd hcd).run pins s σ H (fun v H1 => v = .ref f ∧ H1 = H) I ⟨_, hs, rfl, rfl⟩) fun u s1 ⟨v, H1, I1, r1, ev, eH⟩ => ?_)
  subst ev eH
  obtain rfl : u = Value.ref f := r1
  have R1 := R.now hex I1
  obtain ⟨oc, od, fd, sl, ob⟩ := R1.obj
  refine PySem.W.callWith_F0 (first := []) ⟨oc, od, fd, sl, ob⟩ (wpAny_call (codeAny_mono (R1.run X.A X.stack s1 _ Q0 E hr I1.env0 Un.refl t) fun res s2 z => ?_))
  match res, z with
  | .error e, z => exact tk e s2 (XE.of_call I1 hW z)
  | .ok (.ret u), z =>
    obtain ⟨v, H2, I2, rv, q⟩ := I1.after z
    exact ⟨v, H2, I2, rv, hQ _ _ q⟩
  | .ok .next, z => exact z.elim
  | .ok .brk, z => exact z.elim
  | .ok .cont, z => exact z.elim
/-! ### errors that were caught -/
/-- at a stands a caught error of the class at C whose own dict holds fs -/
def Met (H : Hp) (a C : Addr) (fs : List (Str × V)) : Prop := ∃ d, H a = some (exk a (.ref C) (some d)) ∧ H d = some (.xd fs)
theorem Met.same {H H' : Hp} {a C : Addr} {fs : List (Str × V)} (s : Same H H') (h : Met H a C fs) : Met H' a C fs := h.imp fun _ z => ⟨s _ _ z.1, s _ _ z.2⟩
section
variable {X : Cx} {pins : List (Addr × Obj)} {σ : L2.St} {H : Hp} {s : Shared} {a C : Addr} {fs : List (Str × V)}
theorem met_at (I : Inv X pins σ H s) (h : Met H a C fs) : ∃ ox od, PySem.W.InstAt s.heap a ox C (some od) ∧ ∃ mA : Str → Option Value, (∀ name, PySem.W.lookIn name od = some (mA name)) ∧ ∀ f, RelO (fs.lookup f) (mA f) := by
  obtain ⟨d, h1, h2⟩ := h
  obtain ⟨o, vs, e1, z1, f1⟩ := exk_at I.hok h1
  obtain ⟨mA, hn, hr⟩ : ∃ mA, s.heap.Ns1 d mA ∧ ∀ f, RelO (fs.lookup f) (mA f) := I.hok d _ h2
  obtain ⟨od, ho, hl⟩ := lookIn_ns hn
  exact ⟨o, od, ⟨e1, z1.1, by unfold PySem.W.notCls; rw [f1] <;> rfl, by rw [z1.2]; exact ho⟩, mA, hl, hr⟩
/-- e.n of a caught error -/
def tMv (K : PySem.W.Frag) (n : Str) (te : TE) : TE := fun σ H Q => te σ H fun x H1 => ∃ a C fs v, x = .ref a ∧ Met H1 a C fs ∧ XfC K C ∧ PySem.W.findIn K (.ref C) n = some none ∧ fs.lookup n = some v ∧ Q v H1
theorem pe_mv {e : Expr} {te : TE} {pos : Pos} {n : Str} (he : PE X e te) (hb : attributeBase e n X.env (eval e X.env) = eval e X.env := by rfl) : PE X (.Attribute e n pos) (tMv X.K n te) := by
  constructor
  intro pins s σ H Q I h
  refine attr_of hb (thn (he.run pins s σ H _ I h) fun u s1 ⟨x, H1, I1, rx, a, C, fs, v, ex, hE, T, hno, l, q⟩ => ?_)
  subst ex
  obtain rfl : u = Value.ref a := rx
  obtain ⟨ox, od, J, mA, hl, hr⟩ := met_at I1 hE
  obtain ⟨u, hu, ru⟩ := RelO.some_of (v := v) (o := mA n) (l ▸ hr n)
  exact HandSPX.exc_get I1.kIn J T.ga T.gg T.exC (PySem.W.findObj_own T.hdC hno rfl (by rw [hl, hu])) (handed_of ru) ⟨v, H1, I1.tok _, ru, q⟩
/-- isinstance(x, c) of a caught error -/
def rIsM (K : PySem.W.Frag) : List V → Hp → VK → Prop := fun xs H Q => ∃ (a C : Addr) (fs : List (Str × V)) (c : V) (cv : Value) (b b' : Bool), xs = [.ref a, c] ∧ Met H a C fs ∧ ExcC K C ∧ PySem.W.kitCls K (.ref C) (.ref C) = some b' ∧ ClsV c cv ∧ PySem.W.kitOne K (.ref C) cv = some b ∧ Q (.bl b) H
theorem call_isM {X : Cx} : CallR X (.builtin "isinstance") (rIsM X.K) := by
  intro pins s σ H xs us Q I r h
  obtain ⟨a, C, fs, c, cv, b, b', rfl, hE, T, self, hc, e, q⟩ := h
  match us, r with
  | [u1, u2], .cons r1 (.cons r2 .nil) =>
    obtain rfl : u1 = Value.ref a := r1
    obtain rfl : u2 = cv := hc.eq r2
    obtain ⟨ox, od, J, _⟩ := met_at I hE
    exact PySem.W.kia_one (kit_err T self) I.kIn ⟨ox, od, J⟩ e (fun z => nomatch z) fun tk => ⟨.bl b, H, I.tok tk, rfl, q⟩
end
end TT

set_option Elab.async false
set_option linter.all false
set_option maxRecDepth 100000
set_option maxHeartbeats 4000000
/-! What the laws of our program share: defs that make lambdas, the errors' classes, the end of a law whose defs make lambdas. -/
namespace TT
open PySem PySem.Spec PyProof.Rows L2 LamX
/-! ### defs that make lambdas: their code object is known -/
structure FunC (K : PySem.W.Frag) (x qual : Str) (st : Stmt) (f : Addr) (fd : FuncData) (c : Addr) : Prop where
  ex : ∃ (oc : Value) (od : Option Addr) (kV doc pm : Value) (an : Option Addr) (ct : Value) (osl : Array (Option Value)),
    fd = PySem.W.fnOf x qual (defArgs st) (defBody st) (defScope st) .none kV doc pm an (.ref c) ct ∧ K.lookup f = some ⟨oc, od, .func fd, osl⟩ ∧ PySem.W.codeIn K (.ref c) qual = true
  kp : PySem.W.keepIn K (.ref f) = true
section
variable {P : Program} {w : World} {K : PySem.W.Frag} {mg : Str → Option Value} {base : Heap} {x qual : Str} {st : Stmt} {f c : Addr} {fd : FuncData} {N ps : List Str} {k : Nat} {sp : Sp}
theorem FunC.fn (F : FunC K x qual st f fd c) : Fun K x qual st f fd := by
  obtain ⟨oc, od, kV, doc, pm, an, ct, osl, e, l, h⟩ := F.ex
  exact ⟨⟨oc, od, kV, doc, pm, an, .ref c, ct, osl, e, l, h⟩, F.kp⟩
theorem okGC (F : FunC K x qual st f fd c) (S : FnScope N ps (defScope st)) (size : ∀ vs H Q E, sp vs H Q E → vs.length = ps.length)
    (hb : ∀ (A : Around) (outer : List Env) (s : Shared) (H : Hp) (vs : List V) (Q : VK) (E : XK), A.guards = some [] → Room k (A.deeper (envOfC qual (defScope st) s.heap.objs.size f (.ref c))) → sp vs H Q E →
      ∃ t, PSs (cxOf CX0 P w K mg base N qual (defScope st) f (.ref c) A outer s H E).nox (defBody st) t ∧ t { nx := fun _ H1 => Q .non H1, rt := Q } (start N vs) H) : GOk P w K mg base CX0 (k + 1) f fd ps sp := by
  obtain ⟨oc, od, kV, doc, pm, an, ct, osl, rfl, lk, hcd⟩ := F.ex
  refine g_of lk hcd S size fun A outer s H vs Q E g hr hsp => ?_
  obtain ⟨t, h, q⟩ := hb A outer s H vs Q E g hr hsp
  exact ⟨t, h.nox, q⟩
end
/-- a def that lets errors out, called where it lets none out -/
theorem passF {P : Program} {w : World} {X : Cx} : Passes (L2.CX P w) X E0 := fun _ _ _ _ _ _ _ h => by
  obtain ⟨_, _, _, _, _, _, _, _, _, _, _, _, z⟩ := h
  exact z.elim
/-- o(..), o an instance of the class at C -/
def tCallI (C : Addr) (sp : Sp) (E : XK) (tf : TE) (t : TA) : TE := fun σ H Q => tf σ H fun y H1 => ∃ a, y = V.ref a ∧ t σ H1 fun vs H2 => (∃ dx fs, H2 a = some (.ins C dx fs)) ∧ sp (V.ref a :: vs) H2 Q E
theorem pe_callI {X : Cx} {CX : CXT} {k : Nat} {g C : Addr} {sp : Sp} {E : XK} {fe e : Expr} {es : List Expr} {tf : TE} {t : TA} {pos : Pos} (hf : PE X fe tf) (c : StX.CallO X.K C g) (F : FnR X.prog X.w X.K X.mg X.base CX k g sp) (hr : Room k X.A) (hx : Passes CX X E) (ha : PA X (e :: es) t)
    (ht : eval (.Call fe (e :: es) [] pos) X.env = (do callWith pos (← eval fe X.env) [] (backTo pos (starEach (e :: es) X.env)) (backToKw pos (keywordEach [] X.env))) := by rfl)
    (he : starEach (e :: es) X.env = (false, eval e X.env) :: starEach es X.env := by rfl) (hpl : (backTo pos (starEach es X.env)).any (·.1) = false := by rfl) : PE X (.Call fe (e :: es) [] pos) (tCallI C sp E tf t) := by
  constructor
  intro pins s σ H Q I h
  refine Call_ (thn (hf.run pins s σ H _ I h) fun u s1 z => ?_) ht
  obtain ⟨_, H1, I1, ru, a, rfl, q⟩ := z
  obtain rfl : u = .ref a := ru
  refine StX.callO_with (thn (ha.run pos pins s1 σ H1 _ I1 q) fun us s2 z => ?_) he hpl
  obtain ⟨vs, H2, I2, rv, inst, q2⟩ := z
  have at2 : StX.InsC X H2 a C := .inr inst
  obtain ⟨ox, od, J, plain⟩ := StX.insC_at I2 at2
  exact ⟨⟨C, ox, od, J, plain⟩, StX.run_callO c F hr hx I2 at2 rv q2⟩
/-- what a lambda in the def q is called -/
def lamN (q : Str) : Str := (q ++ ".<locals>.") ++ "<lambda>"
/-! ### the errors' classes -/
/-- the chain of each error's class behind itself -/
def chain (cE C : Addr) : List Value := (if C = cE then [] else [.ref cE]) ++ [.type "ValueError", .type "Exception", .type "BaseException", .type "object"]
structure ExcT (K : PySem.W.Frag) (cE fI C : Addr) : Prop where
  ox : OexC K C
  xf : XfC K C
  ec : ExcC K C
  ini : PySem.W.findIn K (.ref C) "__init__" = some (some (.ref fI))
  nv : PySem.W.findIn K (.ref C) "value" = some none
  sub : ∀ b, PySem.W.subIn K (.ref C) b = some ((Value.ref C :: chain cE C).contains b)
  is : ((PySem.W.clsIn K C).isSome && PySem.W.typeIn K (.ref C) == some (.type "type")) = true
section
variable {K : PySem.W.Frag} {cE fI C D : Addr}
theorem ExcT.kit (a : ExcT K cE fI C) (b : ExcT K cE fI D) (h : C ≠ D) : PySem.W.kitOne K (.ref C) (.ref D) = some (decide (D = cE)) := by
  have n1 : (Value.ref C == Value.ref D) = false := by simpa using h
  unfold PySem.W.kitOne
  rw [n1, if_neg Bool.false_ne_true]
  unfold PySem.W.kitCls
  dsimp only
  rw [if_pos b.is, a.sub]
  congr 1
  unfold chain
  have n2 : ¬ D = C := fun e => h e.symm
  by_cases c : C = cE
  · subst c
    rw [if_pos rfl, decide_eq_false n2]
    simp [n2]
  · rw [if_neg c]
    by_cases e : D = cE
    · subst e
      simp
    · rw [decide_eq_false e]
      simp [e, n2]
theorem ExcT.self (a : ExcT K cE fI C) : PySem.W.kitOne K (.ref C) (.ref C) = some true := by
  unfold PySem.W.kitOne
  rw [if_pos (beq_iff_eq.mpr rfl)]
theorem ExcT.selfC (a : ExcT K cE fI C) : PySem.W.kitCls K (.ref C) (.ref C) = some true := by
  unfold PySem.W.kitCls
  dsimp only
  rw [if_pos a.is, a.sub]
  congr 1
  simp
/-- it is caught as a TuneError -/
theorem ExcT.exm (a : ExcT K cE fI C) (b : ExcT K cE fI cE) : PySem.W.exmOne K (.ref C) (.ref cE) = some true := by
  refine PySem.W.exm_ref b.ox.exC b.xf.hdC b.ox.tyC ?_
  rw [a.sub]
  congr 1
  unfold chain
  by_cases c : C = cE
  · subst c; simp
  · rw [if_neg c]; simp
structure ExcF (K : PySem.W.Frag) (cE fI C : Addr) : Prop where
  cls : ∃ nm q N bs sn sub ab col dd k0 k1 k2 k3 k5, K.lookup C = some (excClassObj nm q C N bs (chain cE C) true sn sub ab col dd k0 k1 k2 k3 k5 "ValueError.__new__")
  sa : PySem.W.findIn K (.ref C) "__setattr__" = some (some (.builtin "object.__setattr__"))
  tyC : PySem.W.typeIn K (.ref C) = some (.type "type")
  kC : PySem.W.keepIn K (.ref C) = true
  ga : PySem.W.findIn K (.ref C) "__getattribute__" = some (some (.builtin "BaseException.__getattribute__"))
  gg : PySem.W.findIn K (.ref C) "__getattr__" = some none
  ha : PySem.W.findIn K (.ref C) "__class__" = some (some (.builtin "object.__class__"))
  ini : PySem.W.findIn K (.ref C) "__init__" = some (some (.ref fI))
  nv : PySem.W.findIn K (.ref C) "value" = some none
theorem excF_mk {nm q : Str} {N : Addr} {bs bm : List Value} {sn : List Str} {sub : List Value} {ab : Bool} {col : Option Bool} {dd : Option Addr} {k0 k1 k2 k3 k5 : Option Value}
    (xL : K.lookup C = some (excClassObj nm q C N bs bm true sn sub ab col dd k0 k1 k2 k3 k5 "ValueError.__new__")) (hb : bm = chain cE C)
    (sa : PySem.W.findIn K (.ref C) "__setattr__" = some (some (.builtin "object.__setattr__"))) (tyC : PySem.W.typeIn K (.ref C) = some (.type "type")) (kC : PySem.W.keepIn K (.ref C) = true)
    (ga : PySem.W.findIn K (.ref C) "__getattribute__" = some (some (.builtin "BaseException.__getattribute__"))) (gg : PySem.W.findIn K (.ref C) "__getattr__" = some none)
    (ha : PySem.W.findIn K (.ref C) "__class__" = some (some (.builtin "object.__class__"))) (ini : PySem.W.findIn K (.ref C) "__init__" = some (some (.ref fI))) (nv : PySem.W.findIn K (.ref C) "value" = some none) : ExcF K cE fI C :=
  ⟨⟨nm, q, N, bs, sn, sub, ab, col, dd, k0, k1, k2, k3, k5, hb ▸ xL⟩, sa, tyC, kC, ga, gg, ha, ini, nv⟩
theorem chain_has (cE C : Addr) (b : Value) (h : b ∈ ([.type "ValueError", .type "Exception", .type "BaseException", .type "object"] : List Value)) : (Value.ref C :: chain cE C).contains b = true := by
  rw [List.contains_iff_mem]
  exact List.mem_cons_of_mem _ (List.mem_append_right _ h)
theorem ExcF.all (a : ExcF K cE fI C) (zget : PySem.W.specialIn K (.builtin "object.__class__") "__get__" = some (some (.builtin "getset_descriptor.__get__"))) (ztk : PySem.W.takesIn K (.builtin "object.__class__") = some true) : ExcT K cE fI C := by
  obtain ⟨nm, q, N, bs, sn, sb, ab, col, dd, k0, k1, k2, k3, k5, xL⟩ := a.cls
  have cl : PySem.W.clsIn K C = some { name := nm, bases := bs, mro := Value.ref C :: chain cE C, ns := N, qualname := q, hasDict := true, slotNames := sn, subclasses := sb, abstract := ab, collection := col } := by
    unfold PySem.W.clsIn
    rw [xL]
  have sub : ∀ b, PySem.W.subIn K (.ref C) b = some ((Value.ref C :: chain cE C).contains b) := fun b => by
    unfold PySem.W.subIn
    dsimp only
    unfold PySem.W.mroIn
    rw [cl]
    rfl
  have hd : PySem.W.hasDictIn K C = true := by
    unfold PySem.W.hasDictIn
    rw [cl]
    rfl
  have be : PySem.W.subIn K (.ref C) (.type "BaseException") = some true := by rw [sub, chain_has cE C _ (by simp)]
  have ob : PySem.W.subIn K (.ref C) (.type "object") = some true := by rw [sub, chain_has cE C _ (by simp)]
  exact {
    ox := ⟨⟨nm, q, N, bs, _, sn, sb, ab, col, dd, k0, k1, k2, k3, k5, xL, by
      unfold chain
      by_cases c : C = cE
      · rw [if_pos c]
        decide +kernel
      · rw [if_neg c]
        rfl⟩, a.sa, be, a.tyC, a.kC⟩
    xf := ⟨a.ga, a.gg, be, hd⟩
    ec := ⟨a.ga, a.gg, be, hd, a.ha, zget, ztk, ob⟩
    ini := a.ini
    nv := a.nv
    sub := sub
    is := by rw [cl, a.tyC] <;> rfl }
end
theorem nd_at {l : List Addr} (h : l.Nodup) {i j : Nat} (hi : i < l.length) (hj : j < l.length) (e : l.getD i 0 = l.getD j 0) : i = j := by
  rw [List.getD_eq_getElem?_getD, List.getD_eq_getElem?_getD, List.getElem?_eq_getElem hi, List.getElem?_eq_getElem hj] at e
  have pw := List.pairwise_iff_getElem.mp h
  have e' : l[i] = l[j] := e
  rcases Nat.lt_trichotomy i j with c | c | c
  · exact absurd e' (pw i j hi hj c)
  · exact c
  · exact absurd e'.symm (pw j i hj hi c)
/-! ### heaps in which tables may have grown -/
theorem ExtN.same {H H' : Hp} (s : Same H H') : ExtN H H' := fun b o e _ => s b o e
theorem ExtN.seq {K : PySem.W.Frag} {H H' : Hp} {a : Addr} {xs : List V} (e : ExtN H H') (h : SqL K H a xs) : SqL K H' a xs := by
  rcases h with (h | ⟨o, h⟩) | h
  · exact .inl (.inl (e _ _ h fun ps z => by cases z))
  · exact .inl (.inr ⟨o, e _ _ h fun ps z => by cases z⟩)
  · exact .inr h
/-! ### the end of a law's row whose defs make lambdas -/
/-- the script and the empty tables are tracked -/
def seenT (a : Addr) (ob : Obj) (ns : List Int) (own : Bool) (ts : List Addr) : Hp := fun b => if own = false ∧ b = a then some (.frz ob (.lst (ns.map V.int))) else if b ∈ ts then some (.tbl #[]) else none
/-- .. or: each tracked thing is the script or a table -/
theorem seenT_is {a b : Addr} {ob : Obj} {ns : List Int} {own : Bool} {ts : List Addr} {u : HO} (h : seenT a ob ns own ts b = some u) : (own = false ∧ b = a ∧ u = .frz ob (.lst (ns.map V.int))) ∨ (b ∈ ts ∧ u = .tbl #[]) := by
  unfold seenT at h
  split at h
  · rename_i c
    cases h
    exact .inl ⟨c.1, c.2, rfl⟩
  · split at h
    · rename_i c
      cases h
      exact .inr ⟨c, rfl⟩
    · cases h
abbrev tab0 : Obj := { cls := .none, data := .fields #[] }
theorem run_lawT {P : Program} {w : World} {K : PySem.W.Frag} {mg mb : Str → Option Value} {k : Nat} {fa a : Addr} {fd : FuncData} {x : Str} {sp : Sp} {s : Shared} {vs : List Value} {ns : List Int} {cs : List (Addr × Addr)}
    (KX : K.In s.heap) (hns : s.heap.Ns mainGlobals mg) (hb : s.heap.Ns builtinsNs mb) (hbb : ∀ x : Str, x ≠ "__name__" → mb x = bootBuiltins x) (lim : s.heap.NoLimit) (hg : s.gens = #[])
    (bmain : ∃ (bm : Addr) (ob : Obj), mg "__builtins__" = some (.ref bm) ∧ bm ≠ builtinsNs ∧ s.heap.get? bm = some ob ∧ ob.cls = .type "module" ∧ ob.dict = some builtinsNs ∧ ob.data = .plain)
    (tabs : ∀ p ∈ cs, s.heap.get? p.2 = some tab0) (codes : ∀ p ∈ cs, PySem.W.CodeHd s.heap p.1 p.2) (noT : PySem.W.noTabs K = true)
    (ha : s.heap.get? a = some { cls := .type "list", data := .seq vs.toArray }) (hi : IntsAre vs ns) (hl : ns.length ≤ sizeLine) (hr : Room k callerA)
    (F : ∀ base : Heap, K.In base → base.Ns mainGlobals mg → (∀ p ∈ cs, TabB base mg p.1 p.2) → GOk P w K mg base CX0 k fa fd [x] sp) (bnd : ∀ (s : Shared) (u : Value), BindsTo s fd ⟨[u], []⟩ [(x, u)])
    (hsp : ∀ H : Hp, (∀ p ∈ cs, H p.2 = some (.tbl #[])) → SqL K H a (ns.map V.int) → sp [.ref a] H (fun v _ => v = .bl true) fun _ _ _ => False) :
    codeAny (model P w) callerA (.call (.ref fa) ⟨[.ref a], []⟩) (fun r s1 => r = .ok (.ret (.bool true)) ∧ OldK s.heap s1.heap ∧ s1.os = s.os ∧ AllBare s1.gens) s := by
  have rv := vals_ints hi
  let ob : Obj := { cls := .type "list", data := .seq vs.toArray }
  have aT : a ∉ cs.map (·.2) := fun z => by
    obtain ⟨p, hp, e⟩ := List.mem_map.mp z
    have := (tabs p hp).symm.trans (e ▸ ha)
    cases this
  have ofT : ∀ b ∈ cs.map (·.2), s.heap.get? b = some tab0 := fun b hb => by
    obtain ⟨p, hp, rfl⟩ := List.mem_map.mp hb
    exact tabs p hp
  have KT : ∀ b ∈ cs.map (·.2), K.lookup b = none := fun b hb => by
    cases q : K.lookup b with
    | none => rfl
    | some o =>
      have e := (KX b o q).symm.trans (ofT b hb)
      cases e
      exact absurd (List.all_eq_true.mp noT _ (PySem.W.mem_of_lookupK q)) Bool.false_ne_true
  obtain ⟨own, hown⟩ : ∃ own : Bool, own = (K.lookup a).isSome := ⟨_, rfl⟩
  generalize hH : seenT a ob ns own (cs.map (·.2)) = H
  have is : ∀ b u, H b = some u → (own = false ∧ b = a ∧ u = .frz ob (.lst (ns.map V.int))) ∨ (b ∈ cs.map (·.2) ∧ u = .tbl #[]) := fun b u e => seenT_is (hH ▸ e)
  have atT : ∀ b ∈ cs.map (·.2), H b = some (.tbl #[]) := fun b m => by
    rw [← hH]
    unfold seenT
    rw [if_neg (fun z : own = false ∧ b = a => aT (z.2 ▸ m)), if_pos m]
  have hS : SqL K H a (ns.map V.int) := by
    cases q : K.lookup a with
    | some o =>
      have e := (KX a o q).symm.trans ha
      cases e
      exact .inr ⟨_, vs.toArray, _, q, rfl, rfl, rfl, by rw [List.size_toArray, hi.length]; exact hl, by simpa using rv⟩
    | none =>
      rw [q] at hown
      refine .inl (.inr ⟨ob, ?_⟩)
      rw [← hH]
      unfold seenT
      rw [if_pos ⟨hown, rfl⟩]
  have hok : HOk P w H s.heap := fun b u e => by
    rcases is b u e with ⟨_, rfl, rfl⟩ | ⟨m, rfl⟩
    · exact ⟨ha, by rw [List.length_map]; exact hl, vs, _, rv, ha⟩
    · exact ofT b m
  -- what is neither a list nor an empty record is not tracked
  have free : ∀ {b : Addr} {o : Obj}, s.heap.get? b = some o → (∀ xs n, o.data ≠ .seq xs n) → o.data ≠ .fields #[] → H b = none := fun {b o} e d1 d2 => by
    cases q : H b with
    | none => rfl
    | some u =>
      rcases is b u q with ⟨_, rfl, _⟩ | ⟨m, _⟩
      · cases e.symm.trans ha
        exact absurd rfl (d1 _ _)
      · cases e.symm.trans (ofT b m)
        exact absurd rfl d2
  have nsB : ∀ {b : Addr} {m : Str → Option Value}, s.heap.Ns b m → (hidT s.heap H).Ns b m := fun {b m} ⟨o, es, ep, e, d, r⟩ =>
    ⟨o, es, ep, hidT_get e (free e (fun _ _ z => by rw [d] at z; cases z) fun z => by rw [d] at z; cases z), d, r⟩
  have inK : K.In (hidT s.heap H) := fun b o e => hidT_get (KX b o e) (by
    cases q : H b with
    | none => rfl
    | some u =>
      rcases is b u q with ⟨z, rfl, _⟩ | ⟨m, _⟩
      · rw [e] at hown
        rw [hown] at z
        cases z
      · rw [KT b m] at e
        cases e)
  have TB : ∀ p ∈ cs, TabB (hidT s.heap H) mg p.1 p.2 := fun p hp => by
    obtain ⟨o, us, file, tf, flags, tg, inF, text, tt, e1, c1, c2, c3, rest⟩ := codes p hp
    obtain ⟨bm, om, b1, b2, b3, b4, b5, b6⟩ := bmain
    obtain ⟨og, eg, pg, g1, g2, _⟩ := id hns
    have pm : bm ≠ p.2 := fun z => by
      have := b3.symm.trans (z ▸ tabs p hp)
      cases this
      cases b6
    have gm : bm ≠ mainGlobals := fun z => by
      rw [z] at b3
      cases b3.symm.trans g1
      cases b6.symm.trans g2
    refine ⟨⟨o, us, file, tf, flags, tg, inF, text, tt, hidT_get e1 (free e1 (fun _ _ z => by rw [c2] at z; cases z) fun z => ?_), c1, c2, c3, rest⟩, ⟨bm, om, b1, b2, gm, pm, hidT_get b3 (free b3 (fun _ _ z => by rw [b6] at z; cases z) fun z => by rw [b6] at z; cases z), b4, b5, b6⟩, fun z => ?_⟩
    · rw [c2] at z
      cases z
      simp at c3
    · have := g1.symm.trans (z ▸ tabs p hp)
      cases this
      cases g2
  obtain ⟨mc, l1, l2⟩ := lim
  have e0 : Env0 P w K mg (hidT s.heap H) callerA [] s H :=
    { frames := rfl, mod := ⟨inK, nsB hns, ⟨mb, nsB hb, hbb⟩, ⟨mc, nsB l1, l2⟩⟩, bs := fun b o e => of_hidT e, bsz := Nat.le_of_eq (hidT_size _ _), funs := trivial, frf := fun b z => absurd (show b ∈ ([] : List Addr) from z) List.not_mem_nil, hok := hok, bare := .of_eq hg }
  refine codeAny_mono ((F _ inK (nsB hns) TB).go callerA [] s H ⟨[.ref a], []⟩ [.ref a] [.ref a] _ _ rfl hr e0 (bnd s (.ref a)) (.cons rfl .nil) (hsp H (fun p hp => atT _ (List.mem_map.mpr ⟨p, hp, rfl⟩)) hS)) fun r s1 z => ?_
  match r, z with
  | .error e, z => exact z.elim
  | .ok .next, z => exact z.elim
  | .ok .brk, z => exact z.elim
  | .ok .cont, z => exact z.elim
  | .ok (.ret u), z =>
    obtain ⟨v, H1, os, bare, un, hok1, r1, q⟩ := z
    subst q
    obtain rfl : u = Value.bool true := r1
    have stay : ∀ b o, b ∉ cs.map (·.2) → s.heap.get? b = some o → s1.heap.get? b = some o := fun b o nb e => by
      cases q : H b with
      | none => exact un.keep b o e q (fun z => absurd (show b ∈ ([] : List Addr) from z) List.not_mem_nil) List.not_mem_nil
      | some u =>
        rcases is b u q with ⟨_, rfl, rfl⟩ | ⟨m, _⟩
        · obtain ⟨e1, _⟩ := hok _ _ q
          obtain ⟨e2, _⟩ := hok1 _ _ (un.frzs _ _ _ q)
          cases e.symm.trans e1
          exact e2
        · exact absurd m nb
    have grown : ∀ p ∈ cs, ∃ more : Array Value, s1.heap.get? p.2 = some { cls := .none, data := .fields more } := fun p hp => by
      obtain ⟨more, q⟩ := un.tbls p.2 #[] (atT _ (List.mem_map.mpr ⟨p, hp, rfl⟩))
      exact ⟨_, hok1 p.2 _ q⟩
    refine ⟨rfl, ⟨fun b o e => ?_, fun b o e => ?_⟩, os, bare⟩
    · by_cases m : b ∈ cs.map (·.2)
      · obtain ⟨p, hp, rfl⟩ := List.mem_map.mp m
        obtain ⟨more, q⟩ := grown p hp
        cases e.symm.trans (tabs p hp)
        exact .inr (.inl ⟨((codes p hp).tab (tabs p hp)).isCodeTable, rfl, #[], more, rfl, by rw [Array.empty_append]; exact q⟩)
      · exact .inl (stay b o m e)
    · by_cases m : b ∈ cs.map (·.2)
      · obtain ⟨p, hp, rfl⟩ := List.mem_map.mp m
        obtain ⟨more, q⟩ := grown p hp
        exact ⟨_, q⟩
      · exact ⟨o, stay b o m e⟩
/-- the def's code object and its table, by the top -/
theorem tab_at {p : Program} {h : Heap} {K : PySem.W.Frag} {mg : Str → Option Value} {x : Str} {f : Addr} {oc : Value} {od : Option Addr} {fd : FuncData} {sl : Array (Option Value)}
    (tab : ∀ d ∈ recsOf p, ∃ a o fd c P, mg d.name = some (.ref a) ∧ h.get? a = some o ∧ o.data = .func fd ∧ fd.code = .ref c ∧ h.IsCode c P #[] ∧ h.TableAt c P #[]) (X : K.In h) (hx : ((recsOf p).any fun d => d.name == x) = true) (hm : mg x = some (.ref f))
    (lk : K.lookup f = some ⟨oc, od, .func fd, sl⟩) : ∃ c P, fd.code = .ref c ∧ PySem.W.CodeHd h c P ∧ h.get? P = some tab0 := by
  obtain ⟨d, hd, e⟩ := List.any_eq_true.mp hx
  obtain rfl : d.name = x := beq_iff_eq.mp e
  obtain ⟨a, o, fd2, c, P, h1, h2, h3, h4, h5, h6⟩ := tab d hd
  cases hm.symm.trans h1
  cases h2.symm.trans (X _ _ lk)
  cases h3
  exact ⟨c, P, h4, PySem.W.CodeHd.of h5 h6, h6.2⟩
theorem walk_gT {l : PySem.W.OpenLaw} {n k : Nat} {q : Program} {loose : List Str} {XP : (Str → Option Value) → Heap → Prop} {YP : World → Heap → Prop} {d : DefRec} {K : Params → PySem.W.Frag} {x : Str}
    (hn : l.most = some n) (hn2 : n ≤ sizeLine) (hdf : d.params.defaults = []) (hr : Room k callerA) (hY : ∀ (w : World) (h : Heap), YP w h → (K w.params).In h) (noT : ∀ w : World, PySem.W.noTabs (K w.params) = true)
    (F : ∀ (w : World) (mg : Str → Option Value) (fa : Addr) (h : Heap), (K w.params).In h → h.Ns mainGlobals mg → mg d.name = some (.ref fa) →
      (∀ d ∈ recsOf q, ∃ a o fd c P, mg d.name = some (.ref a) ∧ h.get? a = some o ∧ o.data = .func fd ∧ fd.code = .ref c ∧ h.IsCode c P #[] ∧ h.TableAt c P #[]) →
      ∃ (fd : FuncData) (cs : List (Addr × Addr)) (sp : Sp), (∀ p ∈ cs, PySem.W.CodeHd h p.1 p.2 ∧ h.get? p.2 = some tab0) ∧ (∀ (s : Shared) (u : Value), BindsTo s fd ⟨[u], []⟩ [(x, u)]) ∧
        (∀ (H : Hp) (a : Addr) (ns : List Int), ns.length ≤ n → (∀ p ∈ cs, H p.2 = some (.tbl #[])) → SqL (K w.params) H a (ns.map V.int) → sp [.ref a] H (fun v _ => v = .bl true) fun _ _ _ => False) ∧
        ∀ base : Heap, (K w.params).In base → base.Ns mainGlobals mg → (∀ p ∈ cs, TabB base mg p.1 p.2) → GOk l.prog w (K w.params) mg base CX0 k fa fd [x] sp) :
    PySem.W.WalkO q loose XP YP l.row.toRowW d [] (fun f vs => PySem.call f vs) :=
  Att.attach_call hn hdf fun w s₀ s₁ mg mb fa o pm cd doc a vs ns G Y ho hd hcd hmg hobj hints hlen hg => by
    obtain ⟨fd, cs, sp, ht, hb, hsp, hF⟩ := F w mg fa _ (hY w _ Y) G.T.g hmg G.T.tab
    exact run_lawT (hY w _ Y) G.T.g G.T.b G.T.builtins G.T.nolimit hg G.T.bmain (fun p hp => (ht p hp).2) (fun p hp => (ht p hp).1) (noT w) hobj hints (Nat.le_trans hlen hn2) hr hF hb fun H hT hS => hsp H a ns hlen hT hS
end TT

set_option Elab.async false
set_option linter.all false
set_option maxRecDepth 100000
set_option maxHeartbeats 4000000
/-! list(range(a, b)) with ends of any size. -/
namespace TT
open PySem PySem.Spec PyProof.Rows L2
section
variable {prog : Program} {w : World} {A : Around} {E : Value → Shared → Prop} {s : Shared}
/-- the list at S takes what the range at r yields, by the iterator for great ends -/
theorem take_long {R : Result → Shared → Prop} {r S : Addr} {a b c : Int} {t u v : Tok} {n k0 : Nat} {res : Value} (hh : A.handled = none) (hr : IsRange s.heap r a b c t u v) (big : Builtin.Range.small a b c = false) (hn : Builtin.Range.rangeSize a b c = n) (hl : n ≤ 2 ^ 24)
    (hS : s.heap.get? S = some { cls := .type "list", data := .seq #[] k0 })
    (done : ∀ h' tk its k, (∀ x o, x ≠ S → s.heap.get? x = some o → h'.get? x = some o) → h'.get? S = some { cls := .type "list", dict := none, data := .seq its k, slots := #[] } → ItemsOf (fun i y => ∃ t, y = .int (a + i * c) t) its n → R (.ok (.ret res)) { s with heap := h', toks := tk }) :
    wpAny (model prog w) A.in1 (Builtin.List.listExtendWith (.ref S) (.ref r) res)
      (fun fin s1 => match fin with | .done f => R (.ok f) s1 | .again c1 => c1.quiet = true ∧ codeAny (model prog w) A c1 R s1) (fun e s1 => R (.error e) s1) s := by
  have apart : S ≠ r := by
    rintro rfl
    have z := congrArg (fun o => o.map Obj.cls) (hr.symm.trans hS)
    simp at z
  have below : S < s.heap.objs.size := Heap.lt_size hS
  have notI : S ≠ s.heap.objs.size := Nat.ne_of_lt below
  have walk := (Walks.longrange (prog := prog) (w := w) (A := A.in1) hh s.heap.objs.size a c n).toS
  have loop : ∀ (h : Heap) (k tk : Nat), IsLongIter h s.heap.objs.size (a + ((0 : Nat) : Int) * c) ((n : Int) - ((0 : Nat) : Int)) c → (∀ x o, x ≠ S → s.heap.get? x = some o → h.get? x = some o) →
      h.get? S = some { cls := .type "list", data := .seq #[] k } → codeAny (model prog w) A (.builtin "list.extend.loop" ⟨[.ref S, .ref s.heap.objs.size, res], []⟩) R { s with heap := h, toks := tk } := fun h k tk it old atS => by
    refine codeAny_extend_loopS walk (by rw [sizeLine_eq]; omega) S (fun m => notI (List.mem_singleton.mp m)) res n 0 _ #[] k rfl (Nat.zero_le _) it atS (ItemsOf.nil _) fun s1 its k1 mv at1 all => ?_
    rw [Moved.eq_with mv]
    refine done s1.heap s1.toks its k1 (fun x o nx e => mv.heap x o (fun m => ?_) (old x o nx e)) at1 all
    rcases List.mem_cons.mp m with z | z
    · exact nx z
    · have lt := Heap.lt_size e
      rw [List.mem_singleton.mp z] at lt
      exact Nat.lt_irrefl _ lt
  have n1 : Builtin.List.listSameRef (.ref S) (.ref r) = false := by simp [Builtin.List.listSameRef, apart]
  have n2 : (Value.type "range" == Value.type "list") = false := by decide
  have n3 : (Value.type "range" == Value.type "tuple") = false := by decide
  unfold Builtin.List.listExtendWith
  refine wpAny_bind (wpAny_typeOf (T := "range") ⟨_, hr, rfl⟩ ?_)
  simp only [n1, n2, n3, Bool.or_false, Bool.false_eq_true, if_false]
  refine wpAny_bind (wpAny_pyIter_longrange hr big (wpAny_bind (wpAny_holding (wpAny_hint_range (n := n) (Heap.get?_push_of_some _ hr) hn hl ?_))))
  have it1 : IsLongIter (s.heap.push { cls := .type "longrange_iterator", data := .fields #[rawInt a, rawInt (Builtin.Range.rangeSize a b c), rawInt c] }) s.heap.objs.size (a + ((0 : Nat) : Int) * c) ((n : Int) - ((0 : Nat) : Int)) c := by
    rw [hn]
    simpa using Heap.get?_push_size _ rfl
  have S1 := Heap.get?_push_of_some { cls := .type "longrange_iterator", data := .fields #[rawInt a, rawInt (Builtin.Range.rangeSize a b c), rawInt c] } hS
  refine wpAny_ite_split (fun _ => ?_) (fun _ => wpAny_pure ⟨plainId_quiet F.plain_extend_loop _, loop _ k0 _ it1 (fun _ _ _ e => Heap.get?_push_of_some _ e) S1⟩)
  refine wpAny_bind (wpAny_rule (wpAny_bind ?_))
  show wpAny _ _ (updateSeq S (·.push .none) >>= fun _ => updateSeq S (·.pop)) _ _ _
  have S2 := Heap.get?_update_self (Obj.mapSeq (·.push Value.none)) S1 rfl
  refine wpAny_bind (wpAny_updateSeq S1 rfl (wpAny_updateSeq (hz := by seq_fits) S2 rfl ?_))
  have S3 := Heap.get?_update_self (Obj.mapSeq (·.pop)) S2 rfl
  refine wpAny_pure ⟨plainId_quiet F.plain_extend_loop _, loop _ _ _ ?_ (fun x o nx e => ?_) S3⟩
  · exact (Heap.get?_update_other _ _ notI).trans ((Heap.get?_update_other _ _ notI).trans it1)
  · exact (Heap.get?_update_other _ _ (Ne.symm nx)).trans ((Heap.get?_update_other _ _ (Ne.symm nx)).trans (Heap.get?_push_of_some _ e))
theorem list_long {Q : Value → Shared → Prop} {r : Addr} {a b c : Int} {t u v : Tok} {n : Nat} (hh : A.handled = none) (hr : IsRange s.heap r a b c t u v) (big : Builtin.Range.small a b c = false) (hn : Builtin.Range.rangeSize a b c = n) (hl : n ≤ 2 ^ 24)
    (done : ∀ h' tk its k, (∀ x o, s.heap.get? x = some o → h'.get? x = some o) → h'.get? s.heap.objs.size = some { cls := .type "list", dict := none, data := .seq its k, slots := #[] } → ItemsOf (fun i y => ∃ t, y = .int (a + i * c) t) its n → Q (.ref s.heap.objs.size) { s with heap := h', toks := tk }) :
    wpAny (model prog w) A (call (.type "list") [.ref r]) Q E s := by
  refine callType_codes (Q₁ := fun obj s1 => obj = .ref s.heap.objs.size ∧ s1 = { s with heap := s.heap.push { cls := .type "list", data := .seq #[] } }) F.called_list (F.typeCall_list_1 _) F.entry_list_init (code_list_new _ ⟨rfl, rfl⟩) fun obj s1 ⟨e1, e2⟩ => ?_
  subst e1 e2
  have S0 : (s.heap.push { cls := .type "list", data := .seq #[] }).get? s.heap.objs.size = some { cls := .type "list", data := .seq #[] } := Heap.get?_push_size _ rfl
  have r0 := Heap.get?_push_of_some { cls := .type "list", data := .seq #[] } hr
  refine ⟨⟨_, S0, rfl⟩, F.args_list_init_2 _ _, ?_⟩
  have apart : r ≠ s.heap.objs.size := Nat.ne_of_lt (Heap.lt_size hr)
  show wpAny _ _ (do let old ← Builtin.List.listItems (.ref s.heap.objs.size); Builtin.List.listUpdate (.ref s.heap.objs.size) (fun _ => #[]); letGo old.toList.reverse; Builtin.List.listExtendWith (.ref s.heap.objs.size) (.ref r) .none) _ _ _
  refine wpAny_bind ?_
  unfold Builtin.List.listItems
  refine wpAny_bind (wpAny_seqItems S0 rfl (wpAny_pure ?_))
  show wpAny _ _ (updateSeq s.heap.objs.size (fun _ => #[]) >>= fun _ => letGo (#[] : Array Value).toList.reverse >>= fun _ => Builtin.List.listExtendWith (.ref s.heap.objs.size) (.ref r) .none) _ _ _
  refine wpAny_bind (wpAny_updateSeq S0 rfl (wpAny_bind (wpAny_letGo ?_)))
  have off : ∀ {x : Addr} {f : Obj → Obj}, x ≠ s.heap.objs.size → ((s.heap.push { cls := .type "list", data := .seq #[] }).update s.heap.objs.size f).get? x = (s.heap.push { cls := .type "list", data := .seq #[] }).get? x := fun nx => Heap.get?_update_other _ _ (Ne.symm nx)
  refine take_long (A := A.in1) (s := { s with heap := (s.heap.push { cls := .type "list", data := .seq #[] }).update s.heap.objs.size (Obj.mapSeq (fun _ => (#[] : Array Value))) }) (S := s.heap.objs.size) hh ((off apart).trans r0) big hn hl (Heap.get?_update_self (Obj.mapSeq (fun _ => (#[] : Array Value))) S0 rfl) fun h' tk its k old at1 all => ?_
  refine ⟨rfl, done h' tk its k (fun x o e => ?_) at1 all⟩
  have nx := Nat.ne_of_lt (Heap.lt_size e)
  exact old x o nx ((off nx).trans (Heap.get?_push_of_some _ e))
end
section
variable {X : Cx} {e : Expr} {te : L2.St → Hp → (Int → Int → Hp → Prop) → Prop}
def tLstRgW (te : L2.St → Hp → (Int → Int → Hp → Prop) → Prop) : TE := fun σ H Q => te σ H fun a b H1 => (b - a).toNat ≤ 2 ^ 24 ∧ ∀ q, H1 q = none → Q (.ref q) (upd H1 q (.lst (rgV a b)))
theorem pe_listRgW {p pos : Pos} (hc : X.calm = true) (hg : Gl X "list") (hm : X.mg "list" = none) (he : PRg X e te) (na : starEach [e] X.env = (false, eval e X.env) :: starEach [] X.env := by rfl) : PE X (.Call (.Name "list" p) [e] [] pos) (tLstRgW te) := by
  constructor
  intro pins s σ H Q I h
  refine Call_ (ld_blt I hg hm boot_list (PyProof.Rows.callWith_type1 (args_cons (thn (he pins s σ H _ I h) fun x s1 ⟨r, a, b, t, u, v, H1, ex, hr, I1, ok, q⟩ => args_nil ?_) na) na))
  subst ex
  have fin : ∀ h' tk its k, (∀ x o, s1.heap.get? x = some o → h'.get? x = some o) → h'.get? s1.heap.objs.size = some { cls := .type "list", dict := none, data := .seq its k, slots := #[] } → ItemsOf (fun i y => ∃ t, y = .int (a + i * 1) t) its (b - a).toNat →
      EP X pins σ Q (.ref s1.heap.objs.size) { s1 with heap := h', toks := tk } := fun h' tk its k old at1 all => by
    refine ⟨.ref s1.heap.objs.size, upd H1 s1.heap.objs.size (.lst (rgV a b)), I1.laid old (Nat.le_refl _) (show ObjOk X.prog X.w _ _ _ (.lst (rgV a b)) from ⟨?_, its.toList, k, vals_rg all, ?_⟩), rfl, q _ (I1.hok.fresh (Nat.le_refl _))⟩
    · rw [rgV_length, sizeLine_eq]
      omega
    · rw [Array.toArray_toList]
      exact at1
  by_cases sm : Builtin.Range.small a b 1 = true
  · exact call_list_range (I1.ok.hd hc) hr sm (rangeSize_nat a b) ok fin
  · exact list_long (I1.ok.hd hc) hr (by simpa using sm) (rangeSize_nat a b) ok fin
end
end TT

set_option Elab.async false
set_option linter.all false
set_option maxRecDepth 100000
set_option maxHeartbeats 4000000
/-! An own operation of two things of one own class. -/
namespace TT
open PySem PySem.Spec PyProof.Rows L2 LamX
/-- x op y, both instances of the class at C; what comes out is a thing -/
def rBinO (C : Addr) (sp : Sp) (E : XK) : R2 := fun x y H Q => ∃ a b, x = V.ref a ∧ y = V.ref b ∧ (∃ dx fs, H a = some (.ins C dx fs)) ∧ (∃ dx fs, H b = some (.ins C dx fs)) ∧ sp [.ref a, .ref b] H (fun v H' => (∃ c, v = V.ref c) ∧ Q v H') E
section
variable {X : Cx} {CX : CXT} {k : Nat} {f C : Addr} {fd : FuncData} {ps : List Str} {sp : Sp} {E : XK}
theorem op_binO {op : Operator} (F : FnOk X.prog X.w X.K X.mg X.base CX k f fd ps sp) (hr : Room k X.A) (hb : Binds X.K fd ps []) (hx : Passes CX X E) (hc : PySem.W.selfFirst X.K C = true)
    (hs : PySem.W.findIn X.K (.ref C) (PySem.dunder op.info.2) = some (some (.ref f))) (hf : PySem.W.isFn X.K (.ref f) = true) : OpR X (binaryOp op) (rBinO C sp E) := by
  intro pins s σ H x y v u Q I rx ry h
  obtain ⟨a, b, rfl, rfl, ⟨dx, fs, ha⟩, ⟨dy, gs, hb'⟩, hq⟩ := h
  obtain rfl : v = Value.ref a := rx
  obtain rfl : u = Value.ref b := ry
  obtain ⟨mA, O, _⟩ := ins_get I.hok ha
  obtain ⟨od, J, _⟩ := O.look
  obtain ⟨mB, O', _⟩ := ins_get I.hok hb'
  obtain ⟨od', J', _⟩ := O'.look
  obtain ⟨m, hF⟩ := I.fr
  refine PySem.W.binop_K hF I.ok.mod.kin J J'.type hc hs hf (wpAny_mono (run_fn (us := [.ref a, .ref b]) (vs := [.ref a, .ref b]) (dvs := []) (ds := []) F hr hb .nil hx I (.cons rfl (.cons rfl .nil)) hq) (fun v' s' z => ?_) fun _ _ z => z)
  obtain ⟨w', H', I', r', ⟨c, rfl⟩, q⟩ := z
  obtain rfl : v' = Value.ref c := r'
  exact ⟨.ref c, H', I', rfl, q⟩
end
end TT

set_option Elab.async false
set_option linter.all false
set_option maxRecDepth 100000
set_option maxHeartbeats 4000000
/-! max of a tuple of two ints; != of a list and []. -/
namespace TT
open PySem PySem.Spec PyProof.Rows L2 LamX
section
variable {X : Cx}
def rNeNil (K : PySem.W.Frag) : R2 := fun x y H Q => ∃ a b xs, x = .ref a ∧ y = .ref b ∧ SqL K H a xs ∧ SqL K H b [] ∧ Q (.bl (!xs.isEmpty)) H
theorem op_neNil (hu : X.A.units < cLine) : OpR X (compareOp .NotEq) (rNeNil X.K) := by
  intro pins s σ H x y v u Q I rx ry h
  obtain ⟨a, b, xs, rfl, rfl, ha, hb, q⟩ := h
  obtain rfl : v = Value.ref a := rx
  obtain rfl : u = Value.ref b := ry
  obtain ⟨its, rv, hl, _⟩ := I.list ha
  obtain ⟨its2, rv2, hl2, _⟩ := I.list hb
  cases rv2
  show wpAny (model X.prog X.w) X.A (richCompare .NotEq (.ref a) (.ref b)) (EP X pins σ Q) X.xe s
  cases rv with
  | nil => exact SeqAt.RcNeAt.lists (e := fun _ => true) hl.isList hl2.isList rfl hu (fun j h1 _ => absurd h1 (by simp)) X.prog X.w X.xe _ ⟨.bl false, H, I, rfl, q⟩
  | cons r rs => exact SeqAt.RcNeAt.lists_lengths hl.isList hl2.isList (by simp) hu X.prog X.w X.xe _ ⟨.bl true, H, I, rfl, q⟩
def rMaxT2 (K : PySem.W.Frag) : List V → Hp → VK → Prop := fun vs H Q => ∃ (a : Addr) (i j : Int), vs = [V.ref a] ∧ SqT K H a [.int i, .int j] ∧ Q (.int (if j > i then j else i)) H
theorem cr_maxT2 (hc : X.calm = true) (hu : X.A.units + 64 < cLine) : CallR X (.builtin "max") (rMaxT2 X.K) := by
  intro pins s σ H vs us Q I r h
  obtain ⟨a, i, j, rfl, hs, q⟩ := h
  obtain ⟨its, rv, ht, _⟩ := I.tuple hs
  rw [Vals.ref1 r]
  cases rv with
  | cons r1 rs =>
    cases rs with
    | cons r2 r3 =>
      cases r3
      obtain ⟨t, rfl⟩ := r1
      obtain ⟨t', rfl⟩ := r2
      refine PySem.W.max_tuple_data (x := .int i) (xs := [.int j]) (I.ok.hd hc) ht (.cons (.int i t) (.cons (.int j t') .nil)) ?_ ?_ fun k v h' tk bs hv hr hk => ?_
      · refine ⟨fun x hx y hy => ?_, fun x hx => ?_⟩
        · simp only [List.mem_cons, List.not_mem_nil, or_false] at hx hy
          rcases hx with rfl | rfl <;> rcases hy with rfl | rfl <;> simp [PySem.W.alike]
        · simp only [List.mem_cons, List.not_mem_nil, or_false] at hx
          rcases hx with rfl | rfl <;> simp
      · simp only [PyData.depthAll, PyData.depth]
        omega
      · have e : PySem.W.maxD (.int i) [.int j] = .int (if j > i then j else i) := by
          have := PySem.W.maxD_ints i [j]
          simp only [List.map_cons, List.map_nil, List.foldl_cons, List.foldl_nil] at this
          rw [this]
          congr 1
          rw [Int.max_def]
          split <;> split <;> omega
        rw [e] at hr
        cases hr with
        | int z t => exact ⟨.int _, H, I.kept hk, ⟨_, rfl⟩, q⟩
end
end TT

set_option Elab.async false
set_option linter.all false
set_option maxRecDepth 100000
set_option maxHeartbeats 400000
/-! own ==, with either answer, of a thing and another one or a tuple; != by way of it. -/
namespace TT
open PySem PySem.Spec PyProof.Rows PySem.SeqAt
section
variable {M : Model} {prog : Program} {w : World} {A : Around} {E : Value → Shared → Prop} {s : Shared} {K : PySem.W.Frag} {x C f L : Addr} {ox : Obj} {od : Option Obj} {b tb : Value} {h₀ : Heap} {m : Str → Option Value}
theorem entry_ne {Q : Fin → Shared → Prop} (hu : A.units < cLine) (X : K.In s.heap) (I : PySem.W.InstAt s.heap x ox C od) (hs : PySem.W.findIn K (.ref C) "__eq__" = some (some (.ref f))) (hf : PySem.W.isFn K (.ref f) = true)
    (h : wpAny M A (call (.ref f) [.ref x, b]) (fun v s' => ∃ k, v = .bool k ∧ Q (.done (.ret (.bool (!k)))) s') E s) : wpAny M A (Builtin.«object.__ne__» ⟨[.ref x, b], []⟩) Q E s := by
  unfold Builtin.«object.__ne__»
  repeat (first | with_reducible refine wpAny_cRoomFor hu ?_ | (with_reducible refine PySem.W.ifBound_K X I hs hf (wpAny_mono h (fun v s' z => ?_) fun _ _ e => e); obtain ⟨k, rfl, q⟩ := z) | wp_step)
  exact q
theorem call_objNe {Q : Value → Shared → Prop} (hu : A.units + 1 < cLine) (X : K.In s.heap) (I : PySem.W.InstAt s.heap x ox C od) (hm : PySem.W.mroIn K C (.type "object") = some true) (hs : PySem.W.findIn K (.ref C) "__eq__" = some (some (.ref f))) (hf : PySem.W.isFn K (.ref f) = true)
    (h : wpAny (model prog w) A.in1 (call (.ref f) [.ref x, b]) (fun v s' => ∃ k, v = .bool k ∧ Q (.bool (!k)) s') E s) :
    wpAny (model prog w) A (call (.builtin "object.__ne__") [.ref x, b]) Q E s :=
  wpAny_call (codeAny_call_builtin F.cmp_object.ne.plain F.cmpEntry_ne (PySem.W.check_slot F.cmpKind_ne F.cmpSplit_ne (I.type.andThen (PySem.W.looks_mroIn X hm)) (F.cmpArgs_ne _ _)
    (entry_ne (A := A.in1) hu X I hs hf (wpAny_mono h (fun v s' z => z) fun _ _ e => e))))
theorem ifBound_objNe {args : List Value} {Q : Option Value → Shared → Prop} (X : K.In s.heap) (I : PySem.W.InstAt s.heap x ox C od) (hs : PySem.W.findIn K (.ref C) "__ne__" = some (some (.builtin "object.__ne__")))
    (h : wpAny M A (call (.builtin "object.__ne__") (.ref x :: args)) (fun v => Q (some v)) E s) : wpAny M A (callSpecialIfBound? (.ref x) "__ne__" args) Q E s := by
  simp only [callSpecialIfBound?, bindSpecialIfBound?]
  refine wpAny_holding (wpAny_bind (wpAny_bind (wpAny_bind (I.type.here ((PySem.W.looks_findIn X hs).here ?_)))))
  refine wpAny_bind (wpAny_askSetting (wpAny_ite ?_))
  have fin : wpAny M A (call (.builtin "object.__ne__") ([.ref x] ++ args) >>= fun v => pure (some v)) Q E s := wpAny_bind (wpAny_mono h (fun v s' h' => wpAny_pure h') fun _ _ h' => h')
  split
  · exact wpAny_bind (wpAny_of_eq (F.cmp_object.ne.bind _) (wpAny_pure (by exact fin)))
  · exact wpAny_tryCatch (wpAny_bind (wpAny_of_eq (F.cmp_object.ne.bind _) (wpAny_pure (by exact fin))))
/-- x != b, the class of x having an own == and no own != -/
theorem ne_K {Q : Value → Shared → Prop} (hu : A.units + 1 < cLine) (X : K.In s.heap) (I : PySem.W.InstAt s.heap x ox C od) (hb : PySem.W.Looks (model prog w) s.heap (typeOf b) tb) (hn : PySem.W.notFirst K C tb = true)
    (hm : PySem.W.mroIn K C (.type "object") = some true) (hne : PySem.W.findIn K (.ref C) "__ne__" = some (some (.builtin "object.__ne__"))) (hs : PySem.W.findIn K (.ref C) "__eq__" = some (some (.ref f))) (hf : PySem.W.isFn K (.ref f) = true)
    (h : wpAny (model prog w) A.in1 (call (.ref f) [.ref x, b]) (fun v s' => ∃ k, v = .bool k ∧ Q (.bool (!k)) s') E s) : wpAny (model prog w) A (richCompare .NotEq (.ref x) b) Q E s := by
  have one : wpAny (model prog w) A (tryCompare (.ref x) "__ne__" b) (fun r s' => ∃ v, r = some v ∧ Q v s') E s := by
    unfold tryCompare
    refine wpAny_bind (ifBound_objNe X I hne (wpAny_mono (call_objNe (Q := fun v s' => ∃ k, v = .bool k ∧ Q v s') hu X I hm hs hf (wpAny_mono h (fun v s' ⟨k, e, q⟩ => ⟨k, e, _, rfl, q⟩) fun _ _ e => e)) (fun v s' z => ?_) fun _ _ e => e))
    obtain ⟨k, rfl, q⟩ := z
    exact wpAny_pure ⟨_, rfl, q⟩
  unfold richCompare
  simp only [oneThing_ref]
  refine wpAny_holding (wpAny_bind (wpAny_cRoomFor (by omega) ?_))
  refine wpAny_bind (I.type.here (wpAny_bind (hb.here ?_)))
  split
  · rename_i q
    have e : PySem.W.subIn K tb (.ref C) = some false := by
      rcases Bool.or_eq_true_iff.mp hn with e | e
      · rw [beq_iff_eq.mp e] at q; simp at q
      · exact beq_iff_eq.mp e
    refine wpAny_bind ((PySem.W.looks_subIn X e).here ?_)
    simp only [Bool.false_eq_true, if_false]
    refine wpAny_bind (wpAny_mono one (fun r s' z => ?_) fun _ _ e => e)
    obtain ⟨v, rfl, hq⟩ := z
    exact wpAny_pure hq
  · refine wpAny_bind (wpAny_pure ?_)
    simp only [Bool.false_eq_true, if_false]
    refine wpAny_bind (wpAny_mono one (fun r s' z => ?_) fun _ _ e => e)
    obtain ⟨v, rfl, hq⟩ := z
    exact wpAny_pure hq
end
open L2 LamX
/-- y is an instance of the class at C, or a tuple -/
inductive Oth (C : Addr) (H : Hp) : V → Prop
  | ins {b dy : Addr} {gs : List (Str × V)} (h : H b = some (.ins C dy gs)) : Oth C H (.ref b)
  | tup {b : Addr} {xs : List V} (h : H b = some (.tup xs)) : Oth C H (.ref b)
/-- x == y by the own __eq__, which answers by a bool -/
def rEqO (C : Addr) (sp : Sp) (E : XK) : R2 := fun x y H Q => ∃ a dx fs, x = V.ref a ∧ H a = some (.ins C dx fs) ∧ Oth C H y ∧ sp [.ref a, y] H (fun v H' => (∃ b, v = V.bl b) ∧ Q v H') E
def rNeO (C : Addr) (sp : Sp) (E : XK) : R2 := fun x y H Q => ∃ a dx fs, x = V.ref a ∧ H a = some (.ins C dx fs) ∧ Oth C H y ∧ sp [.ref a, y] H (fun v H' => ∃ b, v = V.bl b ∧ Q (.bl (!b)) H') E
section
variable {X : Cx} {CX : CXT} {k : Nat} {f C : Addr} {fd : FuncData} {ps : List Str} {sp : Sp} {E : XK}
theorem oth_type {pins : List (Addr × Obj)} {σ : L2.St} {H : Hp} {s : Shared} {M : Model} (I : Inv X pins σ H s) {y : V} {u : Value} (ry : RelV y u) (o : Oth C H y) (ht : PySem.W.notFirst X.K C (.type "tuple") = true) :
    ∃ tb, PySem.W.Looks M s.heap (typeOf u) tb ∧ PySem.W.notFirst X.K C tb = true := by
  cases o with
  | @ins b dy gs h =>
    obtain rfl : u = Value.ref b := ry
    obtain ⟨mB, O, _⟩ := ins_get I.hok h
    obtain ⟨od, J, _⟩ := O.look
    exact ⟨_, J.type, by simp [PySem.W.notFirst]⟩
  | @tup b xs h =>
    obtain rfl : u = Value.ref b := ry
    obtain ⟨its, _, ⟨o, ho, hc, _⟩, _⟩ := I.tuple (SqT.of h)
    exact ⟨_, hc ▸ (PySem.W.Looks.ld ho).andThen .now, ht⟩
theorem op_eqO (F : FnOk X.prog X.w X.K X.mg X.base CX k f fd ps sp) (hr : Room k X.A) (hb : Binds X.K fd ps []) (hx : Passes CX X E) (ht : PySem.W.notFirst X.K C (.type "tuple") = true)
    (hs : PySem.W.findIn X.K (.ref C) "__eq__" = some (some (.ref f))) (hf : PySem.W.isFn X.K (.ref f) = true) : OpR X (compareOp .Eq) (rEqO C sp E) := by
  intro pins s σ H x y v u Q I rx ry h
  obtain ⟨a, dx, fs, rfl, ha, o, hq⟩ := h
  obtain rfl : v = Value.ref a := rx
  obtain ⟨mA, O, _⟩ := ins_get I.hok ha
  obtain ⟨od, J, _⟩ := O.look
  obtain ⟨m, hF⟩ := I.fr
  obtain ⟨tb, lt, hn⟩ := oth_type (M := model X.prog X.w) I ry o ht
  show wpAny (model X.prog X.w) X.A (richCompare .Eq (.ref a) u) (EP X pins σ Q) X.xe s
  refine PySem.W.cmp_K (op := .Eq) hr.units0 hF I.ok.mod.kin J lt hn hs hf (wpAny_mono (run_fn (us := [.ref a, u]) (vs := [.ref a, y]) (dvs := []) (ds := []) F hr hb .nil hx I (.cons rfl (.cons ry .nil)) hq) (fun v' s' z => ?_) fun _ _ z => z)
  obtain ⟨w', H', I', r', ⟨c, rfl⟩, q⟩ := z
  obtain rfl : v' = Value.bool c := r'
  exact ⟨.bl c, H', I', rfl, q⟩
theorem op_neO (F : FnOk X.prog X.w X.K X.mg X.base CX k f fd ps sp) (hr : Room k X.A.in1) (hu : X.A.units + 64 < cLine) (hb : Binds X.K fd ps []) (hx : Passes CX X E) (ht : PySem.W.notFirst X.K C (.type "tuple") = true)
    (hm : PySem.W.mroIn X.K C (.type "object") = some true) (hne : PySem.W.findIn X.K (.ref C) "__ne__" = some (some (.builtin "object.__ne__")))
    (hs : PySem.W.findIn X.K (.ref C) "__eq__" = some (some (.ref f))) (hf : PySem.W.isFn X.K (.ref f) = true) : OpR X (compareOp .NotEq) (rNeO C sp E) := by
  intro pins s σ H x y v u Q I rx ry h
  obtain ⟨a, dx, fs, rfl, ha, o, hq⟩ := h
  obtain rfl : v = Value.ref a := rx
  obtain ⟨mA, O, _⟩ := ins_get I.hok ha
  obtain ⟨od, J, _⟩ := O.look
  obtain ⟨tb, lt, hn⟩ := oth_type (M := model X.prog X.w) I ry o ht
  show wpAny (model X.prog X.w) X.A (richCompare .NotEq (.ref a) u) (EP X pins σ Q) X.xe s
  refine ne_K (by omega) I.kIn J lt hn hm hne hs hf ?_
  have e0 : Env0 X.prog X.w X.K X.mg X.base X.A.in1 X.stack s H := by
    have e := I.env0
    exact ⟨e.frames, e.mod, e.bs, e.bsz, e.funs, e.frf, e.hok, e.bare⟩
  have hl := F.len _ _ _ _ hq
  have r2 : Vals [V.ref a, y] [Value.ref a, u] := .cons rfl (.cons ry .nil)
  refine wpAny_call (codeAny_mono (F.run X.A.in1 X.stack s H ⟨[.ref a, u], []⟩ [.ref a, u] [.ref a, y] _ E hr e0 (by
    have := hb s [.ref a, u] I.kIn (by simpa using hl)
    simpa using this) r2 hq) fun r s' hq => ?_)
  cases r with
  | error e => exact hx pins σ H s e s' I hq
  | ok fl =>
    cases fl with
    | ret w =>
      obtain ⟨z, H', I', rz, ⟨c, ez, q⟩⟩ := I.after hq
      subst ez
      obtain rfl : w = Value.bool c := rz
      exact ⟨c, rfl, .bl (!c), H', I', rfl, q⟩
    | next => exact False.elim hq
    | brk => exact False.elim hq
    | cont => exact False.elim hq
end
end TT

set_option Elab.async false
set_option linter.all false
set_option maxRecDepth 100000
set_option maxHeartbeats 4000000
/-! An own operation whose right side is any value of a built-in type. -/
namespace TT
open PySem PySem.Spec PyProof.Rows
section
variable {pr : Program} {wd : World} {ar : Around} {er : Value → Shared → Prop} {st : Shared} {K : PySem.W.Frag} {x C L f : Addr} {ob : Obj} {xd : Option Obj} {y : Value} {T : String} {hb : Heap} {mm : Str → Option Value}
theorem own_op {op : Operator} {fo ro : Option Value} {Q : Value → Shared → Prop} (F : Fr hb L st.heap mm) (KI : K.In hb) (J : PySem.W.InstAt st.heap x ob C xd) (ty : PySem.W.Looks (model pr wd) st.heap (typeOf y) (.type T)) (first : PySem.W.selfFirst K C = true)
    (own : PySem.W.findIn K (.ref C) (PySem.dunder op.info.2) = some (some (.ref f))) (fn : PySem.W.isFn K (.ref f) = true) (noR : PySem.W.findIn K (.ref C) (dunderR op.info.2) = some none)
    (left : PySem.W.findIn K (.type T) (PySem.dunder op.info.2) = some fo) (right : PySem.W.findIn K (.type T) (dunderR op.info.2) = some ro) (apart : PySem.W.subIn K (.type T) (.ref C) = some false)
    (go : wpAny (model pr wd) ar (call (.ref f) [.ref x, y]) (PySem.W.CmpBack Q) er st) : wpAny (model pr wd) ar (binaryOp op (.ref x) y) Q er st := by
  have KS := KI.keeps F.keep
  obtain ⟨cd, mr, c1, c2⟩ := PySem.W.ksp_first first
  rcases ei : op.info with ⟨sym, nm⟩
  rw [ei] at own noR left right
  dsimp only at own noR left right
  have try1 := PySem.W.ksp_try KS J own fn go
  obtain ⟨hp, g, d, tk, os⟩ := st
  have l1 : PySem.W.Looks (model pr wd) hp (typeOf (.ref x)) (.ref C) := J.type
  have l2 : PySem.W.Looks (model pr wd) hp (typeOf y) (.type T) := ty
  have l3 : PySem.W.Looks (model pr wd) hp (fillsNumberSlot (.ref C) nm) true := PySem.W.fills_K KS c1 c2 own
  have l4 : PySem.W.Looks (model pr wd) hp (fillsNumberSlot (.type T) nm) _ := PySem.W.ksp_fillsT KS left right
  have l5 : PySem.W.Looks (model pr wd) hp (isSubtype (.type T) (.ref C)) false := PySem.W.looks_subIn KS apart
  have l6 : PySem.W.Looks (model pr wd) hp (numberSlotInPython (.ref C) nm) true := PySem.W.ksp_inPy KS own noR (.inl rfl)
  have l7 : PySem.W.Looks (model pr wd) hp (numberSlotInPython (.type T) nm) false := PySem.W.Looks.of_pure rfl
  have l8 : PySem.W.Looks (model pr wd) hp (typeLookup (.type T) (dunderR nm)) ro := PySem.W.looks_findIn KS right
  generalize ((fo.isSome && !isSeqSlot fo) || (ro.isSome && !isSeqSlot ro)) = rs at l4
  have ne : (Value.ref C == Value.type T) = false := Bool.eq_false_iff.mpr fun z => by cases beq_iff_eq.mp z
  simp only [binaryOp, ei]
  refine wpAny_holding (wpAny_bind ?_)
  unfold binaryOp1
  refine wpAny_bind (l1.at (wpAny_bind (l2.at (wpAny_bind (l3.at ?_)))))
  simp only [ne, Bool.false_eq_true, if_false]
  cases rs
  all_goals
    ksp_lk
    refine wpAny_mono try1 (fun r s' z => ?_) fun _ _ z => z
    obtain ⟨v, rfl, q⟩ := z
    ksp_lk
    exact q
end
open L2 LamX
/-- the built-in type of a value, by its name -/
inductive Ty (H : Hp) : V → String → Prop
  | non : Ty H .non "NoneType"
  | bl (b : Bool) : Ty H (.bl b) "bool"
  | int (i : Int) : Ty H (.int i) "int"
  | str (x : Str) : Ty H (.str x) "str"
  | tup {a : Addr} {xs : List V} (h : H a = some (.tup xs)) : Ty H (.ref a) "tuple"
  | lst {a : Addr} {xs : List V} (h : H a = some (.lst xs)) : Ty H (.ref a) "list"
  | dK {a : Addr} {kvs : List (Key × V)} (h : H a = some (.dK kvs)) : Ty H (.ref a) "dict"
/-- what the operation's rule asks of that type -/
def RightT (K : PySem.W.Frag) (op : Operator) (C : Addr) (T : String) : Prop := ∃ fo ro, PySem.W.findIn K (.type T) (PySem.dunder op.info.2) = some fo ∧ PySem.W.findIn K (.type T) (dunderR op.info.2) = some ro ∧ PySem.W.subIn K (.type T) (.ref C) = some false
/-- x op y, x an instance of the class at C, y of a built-in type; what comes out is a thing -/
def rBinV (K : PySem.W.Frag) (op : Operator) (C : Addr) (sp : Sp) (E : XK) : R2 := fun x y H Q => ∃ a dx fs T, x = V.ref a ∧ H a = some (.ins C dx fs) ∧ Ty H y T ∧ RightT K op C T ∧ sp [.ref a, y] H (fun v H' => (∃ c, v = V.ref c) ∧ Q v H') E
section
variable {X : Cx} {CX : CXT} {k : Nat} {f C : Addr} {fd : FuncData} {ps : List Str} {sp : Sp} {E : XK}
theorem Ty.looks {M : Model} {pins : List (Addr × Obj)} {σ : L2.St} {H : Hp} {s : Shared} {y : V} {u : Value} {T : String} (I : Inv X pins σ H s) (ry : RelV y u) (t : Ty H y T) : PySem.W.Looks M s.heap (typeOf u) (.type T) := by
  cases t with
  | non =>
    obtain rfl : u = Value.none := ry
    exact PySem.W.Looks.of_pure rfl
  | bl b =>
    obtain rfl : u = Value.bool b := ry
    exact PySem.W.Looks.of_pure rfl
  | int i =>
    obtain ⟨t, rfl⟩ := (show ∃ t, u = Value.int i t from ry)
    exact PySem.W.Looks.of_pure rfl
  | str x =>
    obtain ⟨t, rfl⟩ := (show ∃ t, u = Value.str x t from ry)
    exact PySem.W.Looks.of_pure rfl
  | @tup a xs h =>
    obtain rfl : u = Value.ref a := ry
    obtain ⟨its, _, ⟨o, ho, hc, _⟩, _⟩ := I.tuple (SqT.of h)
    exact hc ▸ (PySem.W.Looks.ld ho).andThen .now
  | @lst a xs h =>
    obtain rfl : u = Value.ref a := ry
    obtain ⟨its, _, ⟨o, _, ho, hc, _⟩, _⟩ := I.list (SqL.of h)
    exact hc ▸ (PySem.W.Looks.ld ho).andThen .now
  | @dK a kvs h =>
    obtain rfl : u = Value.ref a := ry
    have z := I.hok _ _ h
    unfold ObjOk at z
    obtain ⟨_, _, _, _, o, _, _, ho, ex, _⟩ := z
    exact ex.1 ▸ (PySem.W.Looks.ld ho).andThen .now
theorem op_binV {op : Operator} (F : FnOk X.prog X.w X.K X.mg X.base CX k f fd ps sp) (hr : Room k X.A) (hb : Binds X.K fd ps []) (hx : Passes CX X E) (hc : PySem.W.selfFirst X.K C = true)
    (hs : PySem.W.findIn X.K (.ref C) (PySem.dunder op.info.2) = some (some (.ref f))) (hf : PySem.W.isFn X.K (.ref f) = true) (hn : PySem.W.findIn X.K (.ref C) (dunderR op.info.2) = some none) : OpR X (binaryOp op) (rBinV X.K op C sp E) := by
  intro pins s σ H x y v u Q I rx ry h
  obtain ⟨a, dx, fs, T, rfl, ha, ty, ⟨fo, ro, t1, t2, t3⟩, hq⟩ := h
  obtain rfl : v = Value.ref a := rx
  obtain ⟨mA, O, _⟩ := ins_get I.hok ha
  obtain ⟨od, J, _⟩ := O.look
  obtain ⟨m, hF⟩ := I.fr
  refine own_op hF I.ok.mod.kin J (Ty.looks I ry ty) hc hs hf hn t1 t2 t3 (wpAny_mono (run_fn (us := [.ref a, u]) (vs := [.ref a, y]) (dvs := []) (ds := []) F hr hb .nil hx I (.cons rfl (.cons ry .nil)) hq) (fun v' s' z => ?_) fun _ _ z => z)
  obtain ⟨w', H', I', r', ⟨c, rfl⟩, q⟩ := z
  obtain rfl : v' = Value.ref c := r'
  exact ⟨.ref c, H', I', rfl, q⟩
end
end TT

set_option Elab.async false
set_option linter.all false
set_option maxRecDepth 100000
set_option maxHeartbeats 4000000
/-! Texts: numbers read, words joined and split. -/
namespace TT
open PySem PySem.Builtin PySem.Builtin.Str PySem.StrLaws PySem.Spec PyProof.Rows L2 TL
theorem at_zero_iff (x y : Str) : At x y x.length 0 ↔ Txt.startswith x y = true := by
  unfold Txt.startswith
  rw [Bool.and_eq_true, decide_eq_true_eq]
  exact Iff.rfl
theorem starts_one (x : Str) (c : Nat) : Txt.startswith x ⟨#[c]⟩ = ((tl x).head? == some c) := by
  have h := (at_zero_iff x ⟨#[c]⟩).symm.trans (at_iff (x := x) (y := ⟨#[c]⟩) (by simp) 0)
  rw [List.drop_zero] at h
  have e : pre (tl (⟨#[c]⟩ : Str)) (tl x) = ((tl x).head? == some c) := by
    show ((tl x).take 1 == [c]) = _
    cases tl x with
    | nil => simp
    | cons a l => simp
  rw [e] at h
  exact Bool.eq_iff_iff.mpr h
theorem dig_ascii : ∀ c, c < 128 → Unicode.isDigit c = (decide (48 ≤ c) && decide (c ≤ 57)) := by decide +kernel
/-- are these digits, one or more? -/
def allDig (l : List Nat) : Bool := !l.isEmpty && l.all fun c => decide (48 ≤ c) && decide (c ≤ 57)
theorem allDig_iff {l : List Nat} : allDig l = true ↔ l ≠ [] ∧ NumText.AllDigits l := by
  unfold allDig NumText.AllDigits
  simp [List.all_eq_true]
theorem isdigit_ascii (x : Str) (h : Txt.isascii x = true) : Txt.isdigit x = allDig (tl x) := by
  unfold Txt.isascii at h
  unfold Txt.isdigit allDig
  rw [← Array.all_toList] at h ⊢
  have e1 : decide (x.length > 0) = !(tl x).isEmpty := by
    rw [len_tl]
    cases tl x <;> simp
  rw [e1]
  congr 1
  rw [Bool.eq_iff_iff, List.all_eq_true, List.all_eq_true]
  rw [List.all_eq_true] at h
  refine ⟨fun a c hc => ?_, fun a c hc => ?_⟩
  · rw [← dig_ascii c (by simpa using h c hc)]
    exact a c hc
  · rw [dig_ascii c (by simpa using h c hc)]
    exact a c hc
theorem ascii_of {x : Str} (h : allDig (tl x) = true) : Txt.isascii x = true := by
  obtain ⟨_, h⟩ := allDig_iff.mp h
  unfold Txt.isascii
  rw [← Array.all_toList, List.all_eq_true]
  intro c hc
  have := h c hc
  simp
  omega
/-- the digits of a word -/
def digs (w : Str) : List Nat := if (tl w).head? = some 45 then (tl w).drop 1 else tl w
/-- the number that Python writes as this word -/
def numRead (w : Str) : Option Int :=
  if allDig (digs w) = true then
    if (digs w).head? = some 48 ∧ tl w ≠ [48] then none
    else some (if (tl w).head? = some 45 then -((NumText.digitsVal (digs w) : Nat) : Int) else ((NumText.digitsVal (digs w) : Nat) : Int))
  else none
theorem numL_head {n : Nat} (h : 1 ≤ n) : (numL n).head? ≠ some 48 := by
  induction n using Nat.strongRecOn with
  | _ n ih =>
    by_cases c : n < 10
    · rw [numL_lt c]
      simp
      omega
    · rw [numL_step (by omega)]
      have := ih (n / 10) (by omega) (by omega)
      cases e : numL (n / 10) with
      | nil => exact absurd e (numL_ne _)
      | cons a l =>
        rw [e] at this
        simpa using this
theorem numL_not45 (n : Nat) : (numL n).head? ≠ some 45 := by
  cases e : numL n with
  | nil => simp
  | cons a l =>
    have := numL_digits n a (by rw [e]; exact List.mem_cons_self)
    simp
    omega
theorem numL_allDig (n : Nat) : allDig (numL n) = true := allDig_iff.mpr ⟨numL_ne n, numL_digits n⟩
theorem numRead_nat (n : Nat) : numRead (Str.ofString (toString ((n : Nat) : Int))) = some (n : Int) := by
  unfold numRead digs
  rw [tl_num, if_neg (numL_not45 n), numL_allDig, if_pos rfl, if_neg (numL_not45 n), numL_val]
  rw [if_neg]
  rintro ⟨h1, h2⟩
  by_cases c : 1 ≤ n
  · exact numL_head c h1
  · have : n = 0 := by omega
    subst this
    exact h2 (numL_lt (by decide))
theorem numRead_neg {n : Nat} (h : 1 ≤ n) : numRead (Str.ofString "-" ++ Str.ofString (toString ((n : Nat) : Int))) = some (-(n : Int)) := by
  have e : tl (Str.ofString "-" ++ Str.ofString (toString ((n : Nat) : Int))) = 45 :: numL n := by
    rw [tl_append, tl_num] <;> rfl
  unfold numRead digs
  rw [e]
  simp only [List.head?_cons, if_true, List.drop_one, List.tail_cons]
  rw [numL_allDig, if_pos rfl, if_neg (fun z => numL_head h z.1), numL_val]
/-! the digits' value -/
theorem val_zero (l : List Nat) : NumText.digitsVal (48 :: l) = NumText.digitsVal l := rfl
theorem int_zero {d : Str} (h : allDig (tl d) = true) (hl : d.length ≤ 600) : intText? (Str.ofString "0" ++ d) = some ((NumText.digitsVal (tl d) : Nat) : Int) := by
  obtain ⟨h1, h2⟩ := allDig_iff.mp h
  have e : tl (Str.ofString "0" ++ d) = 48 :: tl d := by
    rw [tl_append] <;> rfl
  have z := PySem.intText_digits (x := Str.ofString "0" ++ d) (by
    show NumText.AllDigits (tl _)
    rw [e]
    intro c hc
    rcases List.mem_cons.mp hc with rfl | hc
    · decide
    · exact h2 c hc) (by show tl _ ≠ []; rw [e]; simp) (by rw [len_tl, e, List.length_cons, ← len_tl]; omega)
  rw [show (Str.ofString "0" ++ d).cps.toList = 48 :: tl d from e, val_zero] at z
  exact z
theorem cut_one (w : Str) : tl (cutS w (some 1) none) = (tl w).drop 1 := by
  have hl := len_tl w
  unfold cutS
  show (((tl w).drop (HT.sIx w.length 0 (some 1))).take (HT.sIx w.length w.length none - HT.sIx w.length 0 (some 1))) = _
  have e1 : HT.sIx w.length w.length none = w.length := rfl
  have e2 : HT.sIx w.length 0 (some 1) = min 1 w.length := by
    show (if (1 : Int) < 0 then ((1 : Int) + (w.length : Int)).toNat else min (1 : Int).toNat w.length) = _
    rw [if_neg (by decide)]
    rfl
  rw [e1, e2]
  by_cases c : w.length = 0
  · have : tl w = [] := List.length_eq_zero_iff.mp (by omega)
    rw [this]
    simp
  · have : min 1 w.length = 1 := by omega
    rw [this]
    exact List.take_of_length_le (by rw [List.length_drop]; omega)
theorem str_one (c : Nat) (x : Str) : (tl x = [c]) ↔ x = ⟨#[c]⟩ := ⟨fun h => ext_tl h, fun h => by rw [h]⟩
theorem str_eq_tl {x y : Str} : decide (V.str x = V.str y) = decide (tl x = tl y) := by
  by_cases c : x = y
  · subst c
    simp
  · rw [decide_eq_false (fun z => c (V.str.inj z)), decide_eq_false (fun z => c (ext_tl z))]
/-! words -/
theorem tl_str (s : String) : tl (Str.ofString s) = s.toList.map Char.toNat := by
  rw [Str.ofString_eq_toList]
theorem blank_free {n : Nat} : 32 ∉ numL n := numL_free (.inl (by decide))
end TT

set_option Elab.async false
set_option linter.all false
set_option maxRecDepth 100000
set_option maxHeartbeats 4000000
/-! A static method called by way of its class. -/
namespace TT
open PySem PySem.Spec PyProof.Rows L2 LamX
/-- C.m is a static method: its record at p, its def at g -/
structure CSta (K : PySem.W.Frag) (C : Addr) (mc : Value) (m : Str) (p g : Addr) : Prop where
  found : PySem.W.findCls K (.ref C) mc m = some (.get (.builtin "staticmethod.__get__") (.ref p) .none (.ref C))
  holds : ∃ more, PySem.W.recIn K p "staticmethod" = some (.ref g :: more)
  kept : PySem.W.keepIn K (.ref g) = true
def tStat (C : Addr) (sp : Sp) (E : XK) (to : TE) (ta : TA) : TE := fun σ H Q => to σ H fun x H1 => x = .ref C ∧ ta σ H1 fun vs H2 => sp (vs ++ []) H2 Q E
section
variable {X : Cx} {CX : CXT} {k : Nat} {C p g : Addr} {mc : Value} {fd : FuncData} {ps : List Str} {sp : Sp} {E : XK} {o e : Expr} {es : List Expr} {m : Str} {pos apos : Pos} {to : TE} {ta : TA} {pl : Sem Bool}
theorem sta_attr {pins : List (Addr × Obj)} {σ : L2.St} {H : Hp} {s : Shared} {A : Around} {b : Bool} {ER : Value → Shared → Prop} {Q : Value → Shared → Prop} (I : Inv X pins σ H s) (rd : ClX.CRead X.K C mc) (c : CSta X.K C mc m p g)
    (go : ∀ s1, Inv X pins σ H s1 → Q (.ref g) s1) : wpAny (model X.prog X.w) A (getAttr (.ref C) m b) Q ER s := by
  obtain ⟨more, hp⟩ := c.holds
  refine PySem.W.cls_bind I.kIn rd.rd c.found (wpAny_call ?_)
  exact PySem.W.sm_get (s := { s with toks := s.toks + 1 }) I.kIn hp (PySem.W.handed_on rfl (go _ (I.tok _)))
theorem pe_stat (ho : PE X o to) (rd : ClX.CRead X.K C mc) (c : CSta X.K C mc m p g) (F : FnOk X.prog X.w X.K X.mg X.base CX k g fd ps sp) (hr : Room k X.A) (hb : Binds X.K fd ps []) (hx : Passes CX X E) (ha : PA X (e :: es) ta)
    (star : starEach (e :: es) X.env = (false, eval e X.env) :: starEach es X.env := by rfl) (plain : (backTo pos (starEach es X.env)).any (·.1) = false := by rfl)
    (runs : eval (.Call (.Attribute o m apos) (e :: es) [] pos) X.env = (do
      let w0 ← eval o X.env
      standAt apos.atName
      let (fn, ahead) ← holding [w0] (getMethod w0 m pl)
      callWith pos fn ahead (backTo pos (starEach (e :: es) X.env)) (backToKw pos (keywordEach [] X.env))) := by rfl) :
    PE X (.Call (.Attribute o m apos) (e :: es) [] pos) (tStat C sp E to ta) := by
  constructor
  intro pins s σ H Q I h
  refine PySem.W.methodCall_KW (pl := pl) (thn (ho.run pins s σ H _ I h) fun u s1 z => ?_) runs
  obtain ⟨x, H1, I1, rx, ex, q⟩ := z
  subst ex
  obtain rfl : u = Value.ref C := rx
  refine PySem.W.method_cls I1.kIn rd.ga (sta_attr I1 rd c fun s2 I2 => ?_)
  refine PySem.W.callWith_K (h₀ := X.base) I2.ok.mod.kin c.kept (thn (ha.run pos pins s2 σ H1 _ I2 q) fun us s3 y => ?_) star plain
  obtain ⟨vs, H2, I3, rv, q2⟩ := y
  exact ⟨I3.kIn, run_fn F hr hb .nil hx I3 rv q2⟩
end
end TT

set_option Elab.async false
set_option linter.all false
set_option maxRecDepth 100000
set_option maxHeartbeats 4000000
/-! repr of a tuple whose items may be odd things (dicts among them). -/
namespace TT
open PySem PySem.Spec PyProof.Rows L2
theorem repr_tup {prog : Program} {w : World} {h₀ : Heap} {a : Addr} {o : Obj} {vs : Array Value} {n : Nat} {xs : List PyData} {as : List Addr} {A : Around} {E : Value → Shared → Prop} {s : Shared} {Q : Value → Shared → Prop}
    (at_a : h₀.get? a = some o) (is_t : o.cls = .type "tuple") (dat : o.data = .seq vs n) (its : ReadsAll h₀ vs.toList xs as)
    (sh : PyData.showableAll xs = true) (out : PyData.hasDictAll xs = true → ¬ sysModules ∈ as) (gd : A.guards = some []) (un : A.units + ((PyData.tuple xs).depth + 1) < cLine)
    (low : ∀ b u, h₀.get? b = some u → s.heap.get? b = some u)
    (k : ∀ h' u tk, (∀ b o, s.heap.get? b = some o → h'.get? b = some o) → Q (.str (PyData.tuple xs).shown u) { s with heap := h', toks := tk })
    (len : (PyData.tuple xs).shown.length ≤ sizeLine) : wpAny (model prog w) A (call (.builtin "repr") [.ref a]) Q E s := by
  have short : (tupleText (PyData.shownAll xs)).length ≤ sizeLine := by
    have := len
    rwa [PyData.shown] at this
  obtain ⟨bs, below, each⟩ := ReprAllK.of_readsAll (prog := prog) (w := w) its sh out fun t ht => Nat.le_trans (tupleText_mem_le ht) short
  have apart : a ∉ bs := by
    refine not_mem_of_deeper (Reads.tuple at_a is_t dat its) ?_ below
    rw [PyData.depth]
    omega
  have dep : A.in1.units + (PyData.tuple xs).depth < cLine := by
    show A.units + 1 + _ < cLine
    omega
  refine call_repr_slot (by omega) (show s.TypeIs (.ref a) "tuple" from ⟨o, low _ _ at_a, is_t⟩) F.slot_tuple_repr ?_
  rw [PyData.depth] at dep
  have k' := k
  simp only [PyData.shown] at k'
  exact call_tuple_reprK at_a is_t dat apart each gd (fun b _ => Clear.nil b) dep low (fun h' u tk hk => ⟨_, _, rfl, k' h' u tk hk⟩) short
/-- flat data -/
inductive Flat0 : V → PyData → Prop
  | non : Flat0 .non .none
  | bl (b : Bool) : Flat0 (.bl b) (.bool b)
  | int (i : Int) : Flat0 (.int i) (.int i)
  | str (x : Str) : Flat0 (.str x) (.str x)
/-- each item is flat, or it is the one odd thing v, d -/
inductive DpDs (v : V) (d : PyData) : List V → List PyData → Prop
  | nil : DpDs v d [] []
  | fl {x : V} {e : PyData} {vs : List V} {ds : List PyData} (h : Flat0 x e) (t : DpDs v d vs ds) : DpDs v d (x :: vs) (e :: ds)
  | it {vs : List V} {ds : List PyData} (t : DpDs v d vs ds) : DpDs v d (v :: vs) (d :: ds)
theorem Flat0.reads {v : V} {d : PyData} {u : Value} {h : Heap} (f : Flat0 v d) (r : RelV v u) : Reads h u d [] ∧ d.hasDict = false := by
  cases f with
  | non => obtain rfl : u = .none := r; exact ⟨.none, by simp [PyData.hasDict]⟩
  | bl b => obtain rfl : u = .bool b := r; exact ⟨.bool _, by simp [PyData.hasDict]⟩
  | int i => obtain ⟨t, rfl⟩ : ∃ t, u = .int i t := r; exact ⟨.int _ _, by simp [PyData.hasDict]⟩
  | str x => obtain ⟨t, rfl⟩ : ∃ t, u = .str x t := r; exact ⟨.str _ _, by simp [PyData.hasDict]⟩
theorem DpDs.reads {X : Cx} {pins : List (Addr × Obj)} {σ : L2.St} {H : Hp} {s : Shared} {v : V} {d : PyData} (I : Inv X pins σ H s) (o : DpD X.K H v d) : ∀ {vs : List V} {ds : List PyData} {us : List Value}, DpDs v d vs ds → Vals vs us →
    ∃ as, ReadsAll s.heap us ds as ∧ (PyData.hasDictAll ds = true → d.hasDict = true) ∧ (d.hasDict = true → ¬ sysModules ∈ as)
  | _, _, _, .nil, .nil => ⟨[], .nil, fun e => by simp [PyData.hasDictAll] at e, fun _ m => by cases m⟩
  | _, _, _, .fl h t, .cons r rs => by
    obtain ⟨h1, h2⟩ := h.reads (h := s.heap) r
    obtain ⟨bs, h3, h4, h5⟩ := DpDs.reads I o t rs
    refine ⟨[] ++ bs, .cons h1 h3, fun e => ?_, h5⟩
    simp only [PyData.hasDictAll, h2, Bool.false_or] at e
    exact h4 e
  | _, _, _, .it t, .cons r rs => by
    obtain ⟨as, h1, h2⟩ := DpD.reads I o r
    obtain ⟨bs, h3, h4, h5⟩ := DpDs.reads I o t rs
    refine ⟨as ++ bs, .cons h1 h3, fun e => ?_, fun e m => (List.mem_append.mp m).elim (h2 e) (h5 e)⟩
    simp only [PyData.hasDictAll, Bool.or_eq_true] at e
    exact e.elim id h4
section
variable {X : Cx}
/-- repr(x): an odd thing, or a tuple of such -/
inductive RpT (K : PySem.W.Frag) (H : Hp) : V → PyData → Prop
  | one {v : V} {d : PyData} (h : DpD K H v d) : RpT K H v d
  | tup {t : Addr} {v : V} {d : PyData} {xs : List V} {ds : List PyData} (ht : H t = some (.tup xs)) (o : DpD K H v d) (h : DpDs v d xs ds) : RpT K H (.ref t) (.tuple ds)
def rReprT (K : PySem.W.Frag) : List V → Hp → VK → Prop := fun xs H Q => ∃ (x : V) (d : PyData), xs = [x] ∧ RpT K H x d ∧ d.showable = true ∧ d.depth ≤ 60 ∧ d.shown.length ≤ sizeLine ∧ Q (.str d.shown) H
theorem call_reprT (hg : X.A.guards = some []) (hu : X.A.units + 64 < cLine) : CallR X (.builtin "repr") (rReprT X.K) := by
  intro pins s σ H xs us Q I r h
  obtain ⟨x, d, rfl, hd, sh, dep, hz, q⟩ := h
  cases hd with
  | one h => exact call_reprS hg hu pins s σ H _ us Q I r ⟨x, d, rfl, .one h, sh, dep, hz, q⟩
  | @tup t v d ys ds ht o h =>
    match us, r with
    | [u], .cons r1 .nil =>
      obtain rfl : u = Value.ref t := r1
      obtain ⟨_, its, vs, ob, g, c, k, dt⟩ : ObjOk X.prog X.w H s.heap t (.tup ys) := I.hok _ _ ht
      obtain ⟨as, h1, h2, h3⟩ := DpDs.reads I o h vs
      have sh' : PyData.showableAll ds = true := by rwa [PyData.showable] at sh
      exact repr_tup g c dt (by rw [List.toList_toArray]; exact h1) sh' (fun e => h3 (h2 e)) hg (by omega) (fun _ _ e => e) (fun h' u tk hk => ⟨.str _, H, I.kept hk, ⟨_, rfl⟩, q⟩) hz
end
end TT

set_option Elab.async false
set_option linter.all false
set_option maxRecDepth 100000
set_option maxHeartbeats 4000000
/-! not in a tuple: of things of an own class with ==, of data; dict of a tuple of pairs. -/
namespace GQ
open PySem PySem.SeqAt
open AutoSeq1 (wpAny_loadPart')
open MeetsSeq MeetsSeq2 MeetsSeq3 SeqRoads2
section
variable {prog : Program} {w : World} {A : Around} {R : Result → Shared → Prop} {E : Value → Shared → Prop} {s : Shared}
/-- the items are asked one by one; what holds stays -/
theorem tuple_holdsG (l : Addr) (items : Array Value) (n : Nat) (dd : Option Addr) (sl : Array (Option Value)) (x : Value) (e : Value → Bool) (I : Shared → Prop)
    (turn : ∀ y ∈ items, ∀ s, I s → wpAny (model prog w) A.in1 (eqBool y x) (fun r s' => r = e y ∧ I s') (fun e s' => R (.error e) s') s)
    (fin : ∀ s, I s → R (.ok (.ret (.bool (items.any e)))) s) {s : Shared} (hl : s.heap.get? l = some { cls := .type "tuple", dict := dd, data := .seq items n, slots := sl }) (h : I s) :
    wpAny (model prog w) A.in1 (Builtin.«tuple.__contains__» ⟨[.ref l, x], []⟩) (FinOf prog w A R) (fun e s' => R (.error e) s') s := by
  have h0 := h
  obtain ⟨hp, g, d, tk, os⟩ := s
  wp_walk using wpAny_loadPart' hl, wpAny_forIn_array _ (fun rest b s' => b.1 = none ∧ I s' ∧ (∀ y, y ∈ rest → y ∈ items) ∧ items.any e = rest.any e) _
  case turn =>
    rintro y rest b s' ⟨hb, hI, hmem, hR⟩
    refine wpAny_bind (wpAny_mono (turn y (hmem y (List.mem_cons_self ..)) s' hI) (fun r s2 q2 => ?_) fun _ _ x => x)
    obtain ⟨rfl, q2⟩ := q2
    rw [List.any_cons] at hR
    cases hy : e y with
    | true =>
      rw [hy, Bool.true_or] at hR
      have q3 := fin s2 q2
      rw [hR] at q3
      wp_walk
      exact q3
    | false =>
      rw [hy, Bool.false_or] at hR
      wp_walk
      exact ⟨rfl, q2, fun z hz => hmem z (List.mem_cons_of_mem _ hz), hR⟩
  case fin =>
    rintro ⟨b1, b2⟩ s' ⟨hb, hI, -, hR⟩
    simp only at hb
    subst hb
    have q3 := fin s' hI
    rw [hR] at q3
    wp_walk
    simpa using q3
  case h =>
    exact ⟨rfl, h0, fun y hy => by simpa using hy, by simp⟩
end
end GQ
namespace TT
open PySem PySem.Spec PyProof.Rows L2 LamX
section
variable {X : Cx} {CX : CXT} {n : Nat} {C f : Addr} {fd : FuncData} {ps : List Str} {sp : Sp} {E : XK}
/-- item == x for one item, by the own __eq__, which changes nothing -/
theorem eq_item (F : FnOk X.prog X.w X.K X.mg X.base CX n f fd ps sp) (hs : PySem.W.findIn X.K (.ref C) "__eq__" = some (some (.ref f))) (hf : PySem.W.isFn X.K (.ref f) = true) (hb : Binds X.K fd ps []) (hx : Passes CX X E)
    {A : Around} (sb : Sub X n A) {pins : List (Addr × Obj)} {σ : L2.St} {H : Hp} {s : Shared} (I : Inv X pins σ H s) {i a : Addr} {b : Bool} (hi : ∃ dx fs, H i = some (.ins C dx fs)) (ha : ∃ dx fs, H a = some (.ins C dx fs)) (same : i = a → b = true)
    (hsp : sp [.ref i, .ref a] H (fun v H' => v = .bl b ∧ H' = H) E) : wpAny (model X.prog X.w) A (eqBool (.ref i) (.ref a)) (fun r s' => r = b ∧ Inv X pins σ H s') X.xe s := by
  by_cases hab : i = a
  · subst hab
    rw [same rfl]
    exact SeqAt.EqAt.same (A := A) (s := s) (.ref i) X.prog X.w X.xe _ ⟨rfl, I⟩
  · refine GQ.eqBool_refG hab ?_
    obtain ⟨dx, fs, hi⟩ := hi
    obtain ⟨dy, gs, ha⟩ := ha
    obtain ⟨mA, J, _⟩ := ins_get I.hok hi
    obtain ⟨mB, J', _⟩ := ins_get I.hok ha
    obtain ⟨od, J, _⟩ := J.look
    obtain ⟨od', J', _⟩ := J'.look
    obtain ⟨m, hF⟩ := I.fr
    refine PySem.W.cmp_K (op := .Eq) (tb := .ref C) sb.room.units0 hF I.ok.mod.kin J J'.type (by simp [PySem.W.notFirst]) hs hf ?_
    have e0 : Env0 X.prog X.w X.K X.mg X.base A X.stack s H := by
      have e := I.env0
      exact ⟨by rw [sb.fr]; exact e.frames, e.mod, e.bs, e.bsz, e.funs, e.frf, e.hok, e.bare⟩
    have hl := F.len _ _ _ _ hsp
    have r2 : Vals [V.ref i, V.ref a] [Value.ref i, Value.ref a] := .cons rfl (.cons rfl .nil)
    refine wpAny_call (codeAny_mono (F.run A X.stack s H ⟨[.ref i, .ref a], []⟩ [.ref i, .ref a] [.ref i, .ref a] _ E sb.room e0 (by
      have := hb s [.ref i, .ref a] I.kIn (by simpa using hl)
      simpa using this) r2 hsp) fun r s' hq => ?_)
    cases r with
    | error e => exact hx pins σ H s e s' I hq
    | ok fl =>
      cases fl with
      | ret w =>
        obtain ⟨z, H', I', rz, ez, ex⟩ := I.after hq
        subst ez ex
        cases rz
        exact ⟨b, rfl, rfl, I'⟩
      | next => exact False.elim hq
      | brk => exact False.elim hq
      | cont => exact False.elim hq
/-- x not in a tuple of things of the class at C -/
def rNotInO (K : PySem.W.Frag) (C : Addr) (sp : Sp) (E : XK) (neg : Bool) : R2 := fun x y H Q => ∃ (a p : Addr) (es : List (Addr × Bool)), x = .ref a ∧ y = .ref p ∧ SqT K H p (es.map fun e => V.ref e.1) ∧ (∃ dx fs, H a = some (.ins C dx fs)) ∧
  (∀ e ∈ es, (∃ dx fs, H e.1 = some (.ins C dx fs)) ∧ (e.1 = a → e.2 = true) ∧ sp [.ref e.1, .ref a] H (fun v H' => v = .bl e.2 ∧ H' = H) E) ∧ (∀ e ∈ es, ∀ d ∈ es, e.1 = d.1 → e.2 = d.2) ∧ Q (.bl (if neg then !es.any (·.2) else es.any (·.2))) H
theorem vals_refs : ∀ {es : List (Addr × Bool)} {us : List Value}, Vals (es.map fun e => V.ref e.1) us → us = es.map fun e => Value.ref e.1
  | [], _, r => by cases r; rfl
  | e :: es, _, r => by
    rw [List.map_cons] at r
    cases r with
    | cons h t =>
      cases h
      rw [List.map_cons, ← vals_refs t]
/-- the answer for an item -/
def ansO (es : List (Addr × Bool)) (v : Value) : Bool := es.any fun e => decide (v = Value.ref e.1) && e.2
theorem ansO_at {es : List (Addr × Bool)} (u : ∀ e ∈ es, ∀ d ∈ es, e.1 = d.1 → e.2 = d.2) {e : Addr × Bool} (he : e ∈ es) : ansO es (.ref e.1) = e.2 := by
  unfold ansO
  cases h : e.2 with
  | true =>
    rw [List.any_eq_true]
    exact ⟨e, he, by simp [h]⟩
  | false =>
    rw [List.any_eq_false]
    intro d hd
    by_cases c : Value.ref e.1 = Value.ref d.1
    · have c' : e.1 = d.1 := by injection c
      rw [← u e he d hd c', h]
      simp
    · simp [c]
theorem ansO_any {es : List (Addr × Bool)} (u : ∀ e ∈ es, ∀ d ∈ es, e.1 = d.1 → e.2 = d.2) : (es.map fun e => Value.ref e.1).any (ansO es) = es.any (·.2) := by
  rw [List.any_map, Bool.eq_iff_iff, List.any_eq_true, List.any_eq_true]
  constructor
  · rintro ⟨e, he, h⟩
    exact ⟨e, he, by rw [← ansO_at u he]; exact h⟩
  · rintro ⟨e, he, h⟩
    exact ⟨e, he, by show ansO es (.ref e.1) = true; rw [ansO_at u he]; exact h⟩
theorem op_notInO (F : FnOk X.prog X.w X.K X.mg X.base CX n f fd ps sp) (hs : PySem.W.findIn X.K (.ref C) "__eq__" = some (some (.ref f))) (hf : PySem.W.isFn X.K (.ref f) = true) (hb : Binds X.K fd ps []) (hx : Passes CX X E)
    (hr : Room (n + 1) X.A) : OpR X (compareOp .NotIn) (rNotInO X.K C sp E true) := by
  intro pins s σ H x y v u Q I rx ry h
  obtain ⟨a, p, es, rfl, rfl, hp, ha, each, u1, q⟩ := h
  obtain rfl : v = Value.ref a := rx
  obtain rfl : u = Value.ref p := ry
  obtain ⟨its, rv, pl, hz⟩ := I.tuple hp
  have ei := vals_refs rv
  subst ei
  obtain ⟨⟨cls, dd, data, sl⟩, ho, hc, k, hd⟩ := id pl
  simp only at hc hd
  subst hc hd
  have sb : Sub X (n + 1) X.A := ⟨hr, rfl⟩
  show wpAny (model X.prog X.w) X.A (do return .bool (!(← contains (.ref p) (.ref a)))) (EP X pins σ Q) X.xe s
  refine wpAny_bind (wpAny_contains_slot ⟨_, ho, rfl⟩ PySem.F.slot_tuple_contains (wpAny_mono (GQ.call_here (Q := fun v s' => v = .bool (es.any (·.2)) ∧ Inv X pins σ H s') PySem.F.slot_tuple_contains ⟨_, ho, rfl⟩ PySem.F.entry_tuple_contains (PySem.F.args_tuple_contains_2 _ _) ?_) (fun v s' hv => ?_) fun _ _ e => e))
  · refine GQ.tuple_holdsG (R := wants (fun v s' => v = .bool (es.any (·.2)) ∧ Inv X pins σ H s') X.xe) p _ k dd sl (.ref a) (ansO es) (fun s' => Inv X pins σ H s') (fun y hy s' I' => ?_) (fun s' I' => ⟨?_, I'⟩) ho I
    · obtain ⟨e, he, rfl⟩ := List.mem_map.mp (show y ∈ es.map fun e => Value.ref e.1 by simpa using hy)
      obtain ⟨h1, h2, h3⟩ := each e he
      rw [ansO_at u1 he]
      exact eq_item F hs hf hb hx sb.in1 I' h1 ha h2 h3
    · rw [show ((es.map fun e => Value.ref e.1).toArray.any (ansO es)) = (es.map fun e => Value.ref e.1).any (ansO es) by simp, ansO_any u1]
  · obtain ⟨rfl, I'⟩ := hv
    exact wpAny_truthy_bool (wpAny_pure ⟨.bl _, H, I', rfl, q⟩)
/-- x in a tuple of things of the class at C -/
theorem op_inO (F : FnOk X.prog X.w X.K X.mg X.base CX n f fd ps sp) (hs : PySem.W.findIn X.K (.ref C) "__eq__" = some (some (.ref f))) (hf : PySem.W.isFn X.K (.ref f) = true) (hb : Binds X.K fd ps []) (hx : Passes CX X E)
    (hr : Room (n + 1) X.A) : OpR X (compareOp .In) (rNotInO X.K C sp E false) := by
  intro pins s σ H x y v u Q I rx ry h
  obtain ⟨a, p, es, rfl, rfl, hp, ha, each, u1, q⟩ := h
  obtain rfl : v = Value.ref a := rx
  obtain rfl : u = Value.ref p := ry
  obtain ⟨its, rv, pl, hz⟩ := I.tuple hp
  have ei := vals_refs rv
  subst ei
  obtain ⟨⟨cls, dd, data, sl⟩, ho, hc, k, hd⟩ := id pl
  simp only at hc hd
  subst hc hd
  have sb : Sub X (n + 1) X.A := ⟨hr, rfl⟩
  show wpAny (model X.prog X.w) X.A (do return .bool (← contains (.ref p) (.ref a))) (EP X pins σ Q) X.xe s
  refine wpAny_bind (wpAny_contains_slot ⟨_, ho, rfl⟩ PySem.F.slot_tuple_contains (wpAny_mono (GQ.call_here (Q := fun v s' => v = .bool (es.any (·.2)) ∧ Inv X pins σ H s') PySem.F.slot_tuple_contains ⟨_, ho, rfl⟩ PySem.F.entry_tuple_contains (PySem.F.args_tuple_contains_2 _ _) ?_) (fun v s' hv => ?_) fun _ _ e => e))
  · refine GQ.tuple_holdsG (R := wants (fun v s' => v = .bool (es.any (·.2)) ∧ Inv X pins σ H s') X.xe) p _ k dd sl (.ref a) (ansO es) (fun s' => Inv X pins σ H s') (fun y hy s' I' => ?_) (fun s' I' => ⟨?_, I'⟩) ho I
    · obtain ⟨e, he, rfl⟩ := List.mem_map.mp (show y ∈ es.map fun e => Value.ref e.1 by simpa using hy)
      obtain ⟨h1, h2, h3⟩ := each e he
      rw [ansO_at u1 he]
      exact eq_item F hs hf hb hx sb.in1 I' h1 ha h2 h3
    · rw [show ((es.map fun e => Value.ref e.1).toArray.any (ansO es)) = (es.map fun e => Value.ref e.1).any (ansO es) by simp, ansO_any u1]
  · obtain ⟨rfl, I'⟩ := hv
    exact wpAny_truthy_bool (wpAny_pure ⟨.bl _, H, I', rfl, q⟩)
end
section
variable {X : Cx}
/-- x not in a tuple of data -/
def rNotInDT (K : PySem.W.Frag) : R2 := fun x y H Q => ∃ d ds, Dp K H x d ∧ Dp K H y (.tuple ds) ∧ SeqAt.shaped d = true ∧ SeqAt.shaped (.tuple ds) = true ∧ Q (.bl (!ds.any fun z => PyData.eqv z d)) H
theorem op_notInDT (hu : X.A.units + 65 < cLine) : OpR X (compareOp .NotIn) (rNotInDT X.K) := by
  intro pins s σ H x y v u Q I rx ry h
  obtain ⟨d, ds, hd, he, sd, se, q⟩ := h
  obtain ⟨as, r1⟩ := Dp.reads I d x v hd rx
  obtain ⟨bs, r2⟩ := Dp.reads I (.tuple ds) y u he ry
  exact SeqAt.notIn_tuple_reads r2 r1 (SeqAt.canLay_of_shaped se) (SeqAt.canLay_of_shaped sd) (room_in_shaped sd hu) ⟨.bl _, H, I, rfl, q⟩
/-- tuple(a list): the new tuple as an object that is known to have no dict -/
theorem call_tuple_frz : CallR X (.type "tuple") (fun xs H Q => ∃ p ys, xs = [.ref p] ∧ SqL X.K H p ys ∧ ∀ l (o : Obj), o.dict = none → H l = none → Q (.ref l) (upd H l (.frz o (.tup ys)))) := by
  intro pins s σ H xs us Q I r h
  obtain ⟨p, ys, rfl, hq, q⟩ := h
  obtain ⟨u, rfl, rx⟩ := vals1 r
  cases rx
  obtain ⟨its, r', pl, hz⟩ := I.list hq
  have hlen := r'.length
  refine call_tuple_list pl.isList (fun h' kp => ?_) (by simp only [List.size_toArray] <;> omega)
  have I1 : Inv X pins σ H { s with heap := h' } := I.kept (t' := s.toks) kp
  have I2 : Inv X pins σ (upd H h'.objs.size (.frz ({ cls := .type "tuple", data := .seq its.toArray } : Obj) (.tup ys))) { s with heap := h'.push { cls := .type "tuple", data := .seq its.toArray } } :=
    I1.laid (t' := s.toks) (fun b o e => Heap.get?_push_of_some _ e) (Nat.le_refl _) (show ObjOk X.prog X.w _ _ _ (.frz _ (.tup ys)) from ⟨Heap.get?_push_size _ rfl, hz, its, r', IsTup.new _ _⟩)
  exact ⟨.ref h'.objs.size, _, I2, rfl, q _ _ rfl (I1.hok.fresh (Nat.le_refl _))⟩
theorem refsOf : ∀ {ps : List Addr} {us : List Value}, Vals (ps.map V.ref) us → us = ps.map Value.ref
  | [], _, r => by cases r; rfl
  | p :: ps, _, r => by
    rw [List.map_cons] at r
    cases r with
    | cons h t =>
      cases h
      rw [List.map_cons, ← refsOf t]
/-- dict(t) of such a tuple of pairs -/
theorem call_dictT (hcalm : X.calm = true) : CallR X (.type "dict") (fun xs H Q => ∃ (a : Addr) (o : Obj) (ps : List Addr) (kvs : List (Key × V)), xs = [.ref a] ∧ H a = some (.frz o (.tup (ps.map V.ref))) ∧ o.dict = none ∧ Paired (fun p kv => SqT X.K H p [kV kv.1, kv.2]) ps kvs ∧
    ∀ p, H p = none → Q (.ref p) (upd H p (.dK (mergeK [] kvs)))) := by
  intro pins s σ H xs us Q I r q
  obtain ⟨a, o, ps, kvs, rfl, hq, hdn, hp, q⟩ := q
  obtain ⟨u, rfl, rx⟩ := vals1 r
  cases rx
  obtain ⟨ho, hz, its, rv, ob, ho2, hc, k, hdat⟩ := (show ObjOk X.prog X.w H s.heap a (.frz o (.tup (ps.map V.ref))) from I.hok a _ hq)
  rw [ho] at ho2
  cases ho2
  have ei := refsOf rv
  subst ei
  rw [List.length_map] at hz
  obtain ⟨prs, rel, hl, hpr⟩ := pairs_of I hp
  have hm : (s.heap.objs.size == sysModules) = false := beq_eq_false_iff_ne.mpr (Nat.ne_of_gt I.big)
  have hlen : (mergeK [] kvs).length ≤ sizeLine := by
    refine Nat.le_trans (length_mergeK kvs []) ?_
    rw [List.length_nil, Nat.zero_add, rel.length, hl]
    exact hz
  have hpr' : ∀ j : Nat, ∃ u : Value, ∀ q : Key × Value, prs[j]? = some q → ∃ b, ps[j]? = some b ∧ IsTup s.heap b #[u, q.2] ∧ keyIs q.1 u = true := fun j => by
    cases h : prs[j]? with
    | none => exact ⟨.none, fun q e => by cases e⟩
    | some q =>
      obtain ⟨b, u, e1, e2, e3⟩ := hpr j q h
      exact ⟨u, fun q' e => by cases e; exact ⟨b, e1, e2, e3⟩⟩
  obtain ⟨f, hf⟩ := Classical.axiomOfChoice hpr'
  have at' : ∀ (j : Nat) (k v : Value), (prs.mapIdx fun j q => (f j, q.2))[j]? = some (k, v) → ∃ q, prs[j]? = some q ∧ k = f j ∧ v = q.2 := fun j k v e => by
    rw [List.getElem?_mapIdx] at e
    obtain ⟨q, h1, h2⟩ := Option.map_eq_some_iff.mp e
    cases h2
    exact ⟨q, h1, rfl, rfl⟩
  refine PySem.call_dict_pairs (knd := mixKind X.prog X.w) (kvs := prs) (PySem.PairArg.tuple a (ps.map Value.ref).toArray (fun j => ps.getD j 0) (prs.mapIdx fun j q => (f j, q.2))) (I.ok.hd hcalm) ⟨⟨_, k, ho, hc, hdn, hdat⟩, ?_, fun j k v e => ?_⟩ ⟨by rw [List.length_mapIdx], fun i key v e => ?_⟩ ?_ fun h' tk hd' kk => ?_
  · rw [List.size_toArray, List.length_map, List.length_mapIdx, hl]
  · obtain ⟨q, h1, rfl, rfl⟩ := at' j k v e
    obtain ⟨b, e1, e2, e3⟩ := hf j q h1
    have eg : ps.getD j 0 = b := by rw [List.getD_eq_getElem?_getD, e1] <;> rfl
    show (List.map Value.ref ps).toArray[j]? = some (Value.ref (ps.getD j 0)) ∧ PairAt s.heap (ps.getD j 0) (f j) q.2
    rw [eg]
    exact ⟨by simp [e1], .inl e2⟩
  · obtain ⟨q, h1, rfl, rfl⟩ := at' i key v e
    obtain ⟨b, e1, e2, e3⟩ := hf i q h1
    exact ⟨q.1, h1, e3⟩
  · rw [List.length_mapIdx, hl]
    exact hz
  · exact ⟨.ref s.heap.objs.size, upd H s.heap.objs.size (.dK (mergeK [] kvs)), I.laid (t' := tk) (fun b o e => kk b o (fun z => nomatch z) e) (Nat.le_refl _) (show ObjOk X.prog X.w _ _ _ (.dK (mergeK [] kvs)) from ⟨hlen, hm, merged [] prs, KV.merge rel .nil, hd'⟩), rfl, q _ (I.hok.fresh (Nat.le_refl _))⟩
end
end TT

set_option Elab.async false
set_option linter.all false
set_option maxRecDepth 100000
set_option maxHeartbeats 4000000
/-! enumerate(a tuple): the rule for a «for» and for a comprehension. -/
namespace TT
open PySem PySem.Spec PyProof.Rows L2
open AutoSeq1 (wpAny_loadPart')
theorem meets_enumerate_newT (l : Addr) (items : Array Value) (n : Nat) (dct : Option Addr) (sl : Array (Option Value)) :
    Meets (Builtin.«enumerate.__new__» ⟨[.type "enumerate", .ref l], []⟩) (fun _ R s => s.heap.get? l = some { cls := .type "tuple", dict := dct, data := .seq items n, slots := sl } ∧
      R (.ok (.ret (.ref (s.heap.push { cls := .type "tuple_iterator", data := .fields #[.ref l, .int 0 0] }).objs.size)))
        { s with heap := (s.heap.push { cls := .type "tuple_iterator", data := .fields #[.ref l, .int 0 0] }).push { cls := .type "enumerate", data := .fields #[.none, .bool false, .ref s.heap.objs.size, rawInt 0, .none, .none] } }) :=
  .of_wp fun prog w A R s h => by
    obtain ⟨hp, g, d, tk, os⟩ := s; obtain ⟨hl, h⟩ := h
    have hsub := sub_enumerate
    have hL : Heap.IsTuple (Shared.heap ⟨hp, g, d, tk, os⟩) l items := ⟨_, hl, rfl, n, rfl⟩
    wp_walk using wpAny_loadPart' hl
    refine wpAny_stack_any fun st => wpAny_pure ?_
    split
    · rename_i c _ _ _ _ _
      cases (c == Value.type "enumerate")
      · wp_walk using wpAny_loadPart' hl, wpAny_pyIter_tuple hL
        exact ⟨_, rfl, h⟩
      · wp_walk using wpAny_loadPart' hl, wpAny_pyIter_tuple hL
        exact ⟨_, rfl, h⟩
    · wp_walk using wpAny_loadPart' hl, wpAny_pyIter_tuple hL
      exact ⟨_, rfl, h⟩
theorem call_enumerate_tuple {prog : Program} {w : World} {A : Around} {E : Value → Shared → Prop} {s : Shared} {l : Addr} {items : Array Value} {Q : Value → Shared → Prop} (hL : s.heap.IsTuple l items)
    (h : ∀ h', IsEnum h' (s.heap.objs.size + 1) s.heap.objs.size 0 .none → h'.IsTupleIter s.heap.objs.size l 0 → h'.objs.size = s.heap.objs.size + 2 →
      (∀ b o, s.heap.get? b = some o → h'.get? b = some o) → Q (.ref (s.heap.objs.size + 1)) { s with heap := h' }) :
    wpAny (model prog w) A (call (.type "enumerate") [.ref l]) Q E s := by
  obtain ⟨⟨c, dct, dt, sl⟩, hl, hc, n, hd⟩ := hL
  replace hc : c = .type "tuple" := hc
  replace hd : dt = .seq items n := hd
  subst hc hd
  refine callType_new F.called_enumerate (by decide) (F.typeCall_enumerate_1 _) (F.newCall_enumerate_1 _) (fun obj => F.args_object_init_2 obj _) F.entry_enumerate_new
    (meets_enumerate_newT l items n dct sl) ⟨hl, ?_⟩
  have hz : (s.heap.push { cls := .type "tuple_iterator", data := .fields #[.ref l, .int 0 0] }).objs.size = s.heap.objs.size + 1 := Heap.size_push ..
  show _ ∧ _
  rw [hz]
  have he : IsEnum ((s.heap.push { cls := .type "tuple_iterator", data := .fields #[.ref l, .int 0 0] }).push
      { cls := .type "enumerate", data := .fields #[.none, .bool false, .ref s.heap.objs.size, rawInt 0, .none, .none] }) (s.heap.objs.size + 1) s.heap.objs.size 0 .none := by
    have := Heap.get?_push_size (s.heap.push { cls := .type "tuple_iterator", data := .fields #[.ref l, .int 0 0] })
      (o := { cls := .type "enumerate", data := .fields #[.none, .bool false, .ref s.heap.objs.size, rawInt 0, .none, .none] }) rfl
    rw [hz] at this; exact this
  refine ⟨⟨_, he, rfl⟩, h _ he ⟨_, Heap.get?_push_of_some _ (Heap.get?_push_size _ rfl), rfl, rfl⟩ (by rw [Heap.size_push, hz]) fun b o x => Heap.get?_push_of_some _ (Heap.get?_push_of_some _ x)⟩
/-- the tuple at a, each item in a new pair -/
def IteT (K : PySem.W.Frag) (a : Addr) : It :=
  ⟨fun i H => ∃ (xs : List V) (x : V), SqT K H a xs ∧ xs[i]? = some x, fun i H v H' => ∃ T x, v = .ref T ∧ H T = none ∧ H' = upd H T (.tup [.int (i : Nat), x]) ∧ ∀ xs, SqT K H a xs → xs[i]? = some x, fun i H => ∃ xs : List V, SqT K H a xs ∧ xs.length ≤ i⟩
theorem turn_enumT {P : Program} {w : World} {K : PySem.W.Frag} {elts : List Expr} {kk : Nat} {tpos : Pos} (a e it : Addr) :
    Turn P w K (.Tuple elts kk tpos) (IteT K a) [e, it] e (fun i h => (∃ old, IsEnum h e it ((i : Nat) : Int) old) ∧ h.IsTupleIter it a i ∧ e ≠ it) where
  mem := by simp
  obj := fun i h st b hb => by
    obtain ⟨⟨old, he⟩, ⟨o, ho, hc, hd⟩, _⟩ := st
    have e' : b = e ∨ b = it := by simpa using hb
    rcases e' with z | z
    · rw [z]; exact ⟨_, he, fun v q => nomatch q⟩
    · rw [z]; exact ⟨o, ho, fun v q => by rw [hd] at q; cases q⟩
  keep := fun i h h' st k => let ⟨⟨old, he⟩, hi, hne⟩ := st; ⟨⟨old, k e (by simp) _ he⟩, hi.at fun o q => k it (by simp) o q, hne⟩
  item := by
    intro X hP hw hK hc i pins s σ H E I hf st hg
    subst hP hw hK
    obtain ⟨⟨old, he⟩, hit, hne⟩ := st
    obtain ⟨xs, x, hq, hx⟩ := hg
    obtain ⟨its, rv, p, hz⟩ := I.tuple hq
    obtain ⟨u, hu, ru⟩ := rv.get hx
    have hel : e < s.heap.objs.size := Heap.lt_size he
    have hil : it < s.heap.objs.size := by obtain ⟨_, q, _⟩ := hit; exact Heap.lt_size q
    have hia : a ≠ it := by
      rintro rfl
      obtain ⟨o1, q1, c1, _⟩ := hit
      obtain ⟨o2, q2, c2, _⟩ := id p
      rw [q1] at q2
      cases q2
      rw [c1] at c2
      exact absurd c2 (by decide)
    have hlt : i < its.toArray.size := by
      rw [List.size_toArray]
      exact (List.getElem?_eq_some_iff.mp hu).1
    by_cases hea : e = a
    · exfalso
      subst hea
      obtain ⟨o2, q2, c2, _⟩ := id p
      rw [show s.heap.get? e = _ from he] at q2
      cases q2
      replace c2 : Value.type "enumerate" = Value.type "tuple" := c2
      exact absurd c2 (by decide)
    refine wpAny_pyNext_enum_itemD (Draws.tuple (A := X.A.in1) (I.ok.hd hc) it a hia its.toArray) he ⟨hit, p⟩ hlt hne (by simp [hne, hea]) fun y h' tk hy ho hst hT hsz hk => ?_
    obtain ⟨hit', _⟩ := hst
    have eu : y = u := by
      have h1 : its[i]? = some y := by simpa using hy
      rw [hu] at h1
      exact (Option.some.inj h1).symm
    subst eu
    refine ⟨_, rfl, wpAny_letOwnedTupleGo_enum (s := { s with heap := h', toks := tk + 1 }) ho fun h'' he' sb => ?_⟩
    have hT2 : h''.get? s.heap.objs.size = some { cls := .type "tuple", data := .seq #[.int i tk, y] } := (sb.2 _ (Nat.ne_of_gt hel)).trans hT
    have new : ObjOk X.prog X.w (upd H s.heap.objs.size (.tup [.int (i : Nat), x])) h'' s.heap.objs.size (.tup [.int (i : Nat), x]) :=
      ⟨by show 2 ≤ sizeLine; decide, [.int i tk, y], .cons ⟨_, rfl⟩ (.cons ru .nil), ⟨_, hT2, rfl, _, rfl⟩⟩
    have I1 : Inv X pins σ (upd H s.heap.objs.size (.tup [.int (i : Nat), x])) { s with heap := h'', toks := tk + 1 } :=
      I.turnedNew (ch := [e, it]) (fun b ob hb q => (sb.2 b (fun z => hb (by simp [z]))).trans (hk b ob (fun z => hb (by simp [z])) (fun z => hb (by simp [z])) q)) hf (Nat.le_refl _) new
    refine ⟨.ref s.heap.objs.size, _, I1, rfl, ⟨_, x, rfl, I.hok.fresh (Nat.le_refl _), rfl, fun ys hy => by rw [I.tuple_inj hy hq]; exact hx⟩, ⟨⟨y, ?_⟩, hit'.at fun o q => (sb.2 it (Ne.symm hne)).trans q, hne⟩, fun b hb => ?_⟩
    · have e1 : ((i + 1 : Nat) : Int) = (i : Int) + 1 := by omega
      rw [e1]; exact he'
    · have hb' : b < s.heap.objs.size := by
        have e' : b = e ∨ b = it := by simpa using hb
        rcases e' with z | z
        · rw [z]; exact hel
        · rw [z]; exact hil
      rw [upd_ne (Nat.ne_of_lt hb')]
      exact (hf b hb).1
  done := by
    intro X hP hw hK hc i pins s σ H E I hf st hg
    subst hP hw hK
    obtain ⟨⟨old, he⟩, hit, hne⟩ := st
    obtain ⟨xs, hq, hx⟩ := hg
    obtain ⟨its, rv, p, hz⟩ := I.tuple hq
    obtain ⟨f0, f1, f2, f3, f4, f5⟩ := hf it (by simp)
    have hl := rv.length
    have hT : s.TypeIs (.ref e) "enumerate" := ⟨_, he, rfl⟩
    unfold pyNext
    refine wpAny_bind (wpAny_attempt (wpAny_callSpecial?_slot (name := Str.ofString "__next__") hT F.slot_enumerate_next
      (wpAny_call_entry F.slot_enumerate_next hT F.entry_enumerate_next ?_ (F.args_enumerate_next_1 _))))
    show wpAny _ _ (field (.ref e) 2 >>= _) _ _ _
    refine wpAny_bind (wpAny_field he rfl (x := .ref it) rfl ?_)
    refine wpAny_bind (wpAny_nextOf_tuple_end (I.ok.hd hc) hit p (by simp; omega) fun h' x he' hx' => ?_)
    obtain ⟨o, ho, hc⟩ := hx'
    refine wpAny_bind (wpAny_isInstance (T := "StopIteration") (b := true) ⟨o, ho, hc⟩ isSubtype_stop ?_)
    exact wpAny_pure ⟨rfl, I.turned (t' := s.toks) (fun b o hb q => he' b o hb q) f0 f1 f3 f4 f5⟩
  self := fun A i s Q E st h => let ⟨⟨_, he⟩, _⟩ := st; wpAny_pyIter_enum he h
def iEnumT (K : PySem.W.Frag) (ta : TA) : TI := fun σ H R => ta σ H fun vs H1 => ∃ a xs, vs = [.ref a] ∧ SqT K H1 a xs ∧ R (IteT K a) H1
theorem pi_enumT {X : Cx} {e : Expr} {ta : TA} {p pos tpos : Pos} {elts : List Expr} {kk : Nat} (hg : Gl X "enumerate") (hm : X.mg "enumerate" = none) (ha : PA X [e] ta) (hs : starEach [e] X.env = [(false, eval e X.env)] := by rfl) :
    PI X (.Tuple elts kk tpos) (.Call (.Name "enumerate" p) [e] [] pos) (iEnumT X.K ta) := by
  refine ⟨fun pins s σ H R I h => ?_⟩
  refine Call_ (ld_blt I hg hm boot_enumerate (PyProof.Rows.callWith_type1 (thn (ha.run pos pins s σ H _ I h) fun us s1 ⟨vs, H1, I1, r1, q1⟩ => ?_) hs rfl))
  obtain ⟨a, xs, ex, hq, q⟩ := q1
  subst ex
  cases r1 with
  | cons r rr =>
    cases rr
    cases r
    obtain ⟨its, rv, p', hz⟩ := I1.tuple hq
    refine call_enumerate_tuple p' fun h' he hit hsz hk => wpAny_pyIter_enum he ?_
    have I2 : Inv X pins σ H1 { s1 with heap := h' } := I1.kept (t' := s1.toks) hk
    refine ⟨s1.heap.objs.size + 1, [s1.heap.objs.size + 1, s1.heap.objs.size], _, _, H1, rfl, I2, turn_enumT a (s1.heap.objs.size + 1) s1.heap.objs.size, ⟨⟨.none, he⟩, hit, Nat.succ_ne_self _⟩, fun b hb => ?_, q⟩
    have e' : b = s1.heap.objs.size + 1 ∨ b = s1.heap.objs.size := by simpa using hb
    have hle : s1.heap.objs.size ≤ b := by
      rcases e' with z | z
      · rw [z]; exact Nat.le_add_right _ _
      · rw [z]; exact Nat.le_refl _
    exact I1.fpOk hle (I1.hok.fresh hle)
theorem walk_enumT {K : PySem.W.Frag} {a : Addr} {xs : List V} : Walk (IteT K a) xs.length (fun H => SqT K H a xs) (YPair (fun i => some (.int (i : Nat))) (fun i => xs[i]?)) := by
  refine ⟨fun i _ hi q => ⟨xs, xs[i], q, by simp [hi]⟩, fun _ q => ⟨xs, q, Nat.le_refl _⟩, fun i H v H' _ q y => ?_⟩
  obtain ⟨T, x, h1, h2, h3, h4⟩ := y
  exact ⟨T, .int (i : Nat), x, h1, h2, h3, rfl, h4 xs q⟩
end TT

set_option Elab.async false
set_option linter.all false
set_option maxRecDepth 100000
set_option maxHeartbeats 4000000
/-! -x of an instance of an own class. -/
namespace TT
open PySem PySem.Spec PyProof.Rows L2 LamX
section
variable {X : Cx} {CX : CXT} {k : Nat} {f : Addr} {fd : FuncData} {ps : List Str} {sp : Sp} {E : XK}
theorem un_ownNeg {C : Addr} (F : FnOk X.prog X.w X.K X.mg X.base CX k f fd ps sp) (hr : Room k X.A) (hb : Binds X.K fd ps []) (hx : Passes CX X E)
    (hs : PySem.W.findIn X.K (.ref C) "__neg__" = some (some (.ref f))) (hf : PySem.W.isFn X.K (.ref f) = true) :
    UnR X (unaryOp .USub) (fun x H Q => ∃ a dx fs, x = .ref a ∧ H a = some (.ins C dx fs) ∧ sp [.ref a] H Q E) := by
  intro pins s σ H x v Q I rx h
  obtain ⟨a, dx, fs, rfl, ha, hq⟩ := h
  obtain rfl : v = Value.ref a := rx
  obtain ⟨mA, O, _⟩ := ins_get I.hok ha
  obtain ⟨od, J, _⟩ := O.look
  obtain ⟨m, hF⟩ := I.fr
  exact PySem.W.ksp_neg hF I.ok.mod.kin J hs hf (run_fn (us := [.ref a]) (vs := [.ref a]) (dvs := []) (ds := []) F hr hb .nil hx I (.cons rfl .nil) hq)
end
end TT

set_option Elab.async false
set_option linter.all false
set_option maxRecDepth 100000
set_option maxHeartbeats 4000000
/-! len(x), x[i], y in x by the own __len__, __getitem__, __contains__ of a class. -/
namespace TT
open PySem PySem.Spec PyProof.Rows L2 LamX
section
variable {X : Cx} {CX : CXT} {k : Nat} {f C : Addr} {fd : FuncData} {ps : List Str} {sp : Sp} {E : XK} {a b : Expr} {ta tb : TE} {pos : Pos}
theorem run_fn1 {pins : List (Addr × Obj)} {σ : L2.St} {H : Hp} {s : Shared} {Q : VK} {us : List Value} {vs : List V} (F : FnOk X.prog X.w X.K X.mg X.base CX k f fd ps sp) (hr : Room k X.A.in1) (hb : Binds X.K fd ps []) (hx : Passes CX X E)
    (I : Inv X pins σ H s) (r : Vals vs us) (h : sp vs H Q E) : wpAny (model X.prog X.w) X.A.in1 (call (.ref f) us) (EP X pins σ Q) X.xe s := by
  have e0 : Env0 X.prog X.w X.K X.mg X.base X.A.in1 X.stack s H := by
    have e := I.env0
    exact ⟨e.frames, e.mod, e.bs, e.bsz, e.funs, e.frf, e.hok, e.bare⟩
  have hl := F.len _ _ _ _ h
  refine wpAny_call (codeAny_mono (F.run X.A.in1 X.stack s H ⟨us, []⟩ us vs Q E hr e0 (by
    have := hb s us I.kIn (by rw [List.append_nil, ← r.length]; exact hl)
    rw [List.append_nil] at this
    exact this) r h) fun r s' hq => ?_)
  cases r with
  | error e => exact hx pins σ H s e s' I hq
  | ok fl =>
    cases fl with
    | ret w => exact I.after hq
    | next => exact False.elim hq
    | brk => exact False.elim hq
    | cont => exact False.elim hq
/-- len(x) by the own __len__ -/
def rLenO (C : Addr) (sp : Sp) (E : XK) : List V → Hp → VK → Prop := fun vs H Q => ∃ a dx fs, vs = [V.ref a] ∧ H a = some (.ins C dx fs) ∧ sp [.ref a] H (fun v H' => ∃ n : Int, v = .int n ∧ (0 ≤ n ∧ n < 2 ^ 63) ∧ Q (.int n) H') E
theorem call_lenO (F : FnOk X.prog X.w X.K X.mg X.base CX k f fd ps sp) (hr : Room k X.A.in1) (hb : Binds X.K fd ps []) (hx : Passes CX X E)
    (hs : PySem.W.findIn X.K (.ref C) "__len__" = some (some (.ref f))) (hf : PySem.W.isFn X.K (.ref f) = true) : CallR X (.builtin "len") (rLenO C sp E) := by
  intro pins s σ H xs us Q I r h
  obtain ⟨a, dx, fs, rfl, ha, hq⟩ := h
  obtain ⟨u, rfl, ru⟩ := vals1 r
  obtain rfl : u = Value.ref a := ru
  obtain ⟨mA, O, _⟩ := ins_get I.hok ha
  obtain ⟨od, J, _⟩ := O.look
  obtain ⟨m, hF⟩ := I.fr
  refine PySem.W.len_K hF I.ok.mod.kin J hs hf (wpAny_mono (run_fn1 (vs := [.ref a]) (us := [.ref a]) F hr hb hx I (.cons rfl .nil) hq) (fun v' s' z => ?_) fun _ _ z => z)
  obtain ⟨w', H', I', r', n, rfl, hn, q⟩ := z
  obtain ⟨t, rfl⟩ := r'
  exact ⟨hn, .int n, H', I'.tok _, ⟨_, rfl⟩, q⟩
/-- x[i] by the own __getitem__ -/
def rIxO (C : Addr) (sp : Sp) (E : XK) : R2 := fun x y H Q => ∃ a dx fs, x = V.ref a ∧ H a = some (.ins C dx fs) ∧ sp [.ref a, y] H Q E
def PlainIxT (b : Expr) : Prop := ∀ o i, subscripted b true o i = runValue (.builtin "lifetime.subscript" ⟨[o, i], []⟩)
theorem pe_ixO (F : FnOk X.prog X.w X.K X.mg X.base CX k f fd ps sp) (hr : Room k X.A.in1) (hb : Binds X.K fd ps []) (hx : Passes CX X E)
    (hs : PySem.W.findIn X.K (.ref C) "__getitem__" = some (some (.ref f))) (hf : PySem.W.isFn X.K (.ref f) = true) (hn : PySem.W.fnIn X.K f = true) (ha : PE X a ta) (hb' : PE X b tb) (hp : PlainIxT b) : PE X (.Subscript a b pos) (tOp (rIxO C sp E) ta tb) := by
  refine ⟨fun pins s σ H Q I h => ?_⟩
  refine Subscript_ (binT ha hb' I h fun v u s2 x y H2 I2 rx ry q => ?_)
  obtain ⟨a', dx, fs, rfl, h1, hq⟩ := q
  obtain rfl : v = Value.ref a' := rx
  obtain ⟨mA, O, _⟩ := ins_get I2.hok h1
  obtain ⟨od, J, _⟩ := O.look
  obtain ⟨m, hF⟩ := I2.fr
  exact PySem.W.sub_K hF I2.ok.mod.kin J hs hn hf (run_fn1 (vs := [.ref a', y]) (us := [.ref a', u]) F hr hb hx I2 (.cons rfl (.cons ry .nil)) hq) (hp _ _)
/-- y in x, y not in x, by the own __contains__, which answers by a bool -/
def rInOwn (C : Addr) (sp : Sp) (E : XK) (neg : Bool) : R2 := fun y x H Q => ∃ a dx fs, x = V.ref a ∧ H a = some (.ins C dx fs) ∧ sp [.ref a, y] H (fun v H' => ∃ b, v = V.bl b ∧ Q (.bl (if neg then !b else b)) H') E
theorem op_inOwn (F : FnOk X.prog X.w X.K X.mg X.base CX k f fd ps sp) (hr : Room k X.A) (hb : Binds X.K fd ps []) (hx : Passes CX X E)
    (hs : PySem.W.findIn X.K (.ref C) "__contains__" = some (some (.ref f))) (hf : PySem.W.isFn X.K (.ref f) = true) : OpR X (compareOp .In) (rInOwn C sp E false) := by
  intro pins s σ H y x u v Q I ry rx h
  obtain ⟨a, dx, fs, rfl, ha, hq⟩ := h
  obtain rfl : v = Value.ref a := rx
  obtain ⟨mA, O, _⟩ := ins_get I.hok ha
  obtain ⟨od, J, _⟩ := O.look
  obtain ⟨m, hF⟩ := I.fr
  refine PySem.W.in_K hF I.ok.mod.kin J hs hf (wpAny_mono (run_fn (us := [.ref a, u]) (vs := [.ref a, y]) (dvs := []) (ds := []) F hr hb .nil hx I (.cons rfl (.cons ry .nil)) hq) (fun v' s' z => ?_) fun _ _ z => z)
  obtain ⟨w', H', I', r', c, rfl, q⟩ := z
  obtain rfl : v' = Value.bool c := r'
  exact wpAny_truthy_bool (by exact ⟨.bl c, H', I', rfl, q⟩)
theorem op_notInOwn (F : FnOk X.prog X.w X.K X.mg X.base CX k f fd ps sp) (hr : Room k X.A) (hb : Binds X.K fd ps []) (hx : Passes CX X E)
    (hs : PySem.W.findIn X.K (.ref C) "__contains__" = some (some (.ref f))) (hf : PySem.W.isFn X.K (.ref f) = true) : OpR X (compareOp .NotIn) (rInOwn C sp E true) := by
  intro pins s σ H y x u v Q I ry rx h
  obtain ⟨a, dx, fs, rfl, ha, hq⟩ := h
  obtain rfl : v = Value.ref a := rx
  obtain ⟨mA, O, _⟩ := ins_get I.hok ha
  obtain ⟨od, J, _⟩ := O.look
  obtain ⟨m, hF⟩ := I.fr
  refine PySem.W.notIn_K hF I.ok.mod.kin J hs hf (wpAny_mono (run_fn (us := [.ref a, u]) (vs := [.ref a, y]) (dvs := []) (ds := []) F hr hb .nil hx I (.cons rfl (.cons ry .nil)) hq) (fun v' s' z => ?_) fun _ _ z => z)
  obtain ⟨w', H', I', r', c, rfl, q⟩ := z
  obtain rfl : v' = Value.bool c := r'
  exact wpAny_truthy_bool (by exact ⟨.bl (!c), H', I', rfl, q⟩)
end
end TT

set_option Elab.async false
set_option linter.all false
set_option maxRecDepth 100000
set_option maxHeartbeats 4000000
namespace TT
open PySem PySem.Spec PyProof.Rows L2
def top (i : Nat) : Stmt := PySem.Challenge.pw_turnedtunes_k70_books_written_otherwise.main.body.getD i (.Pass ⟨0, 0, 0, 0⟩)
abbrev s_E_init : Stmt := inClass (top 1) 0
theorem sc_E_init : FnScope ["self", "value"] ["self", "value"] (defScope s_E_init) := ⟨rfl, rfl, rfl, by decide +kernel, rfl, by decide +kernel, by decide +kernel⟩
abbrev s_is_whole : Stmt := top 23
theorem sc_is_whole : FnScope ["value"] ["value"] (defScope s_is_whole) := ⟨rfl, rfl, rfl, by decide +kernel, rfl, by decide +kernel, by decide +kernel⟩
abbrev s_is_from : Stmt := top 24
theorem sc_is_from : FnScope ["value", "least"] ["value", "least"] (defScope s_is_from) := ⟨rfl, rfl, rfl, by decide +kernel, rfl, by decide +kernel, by decide +kernel⟩
abbrev s_is_between : Stmt := top 25
theorem sc_is_between : FnScope ["value", "least", "greatest"] ["value", "least", "greatest"] (defScope s_is_between) := ⟨rfl, rfl, rfl, by decide +kernel, rfl, by decide +kernel, by decide +kernel⟩
abbrev s_written : Stmt := top 26
theorem sc_written : FnScope ["number", "rest", "chunks"] ["number"] (defScope s_written) := ⟨rfl, rfl, rfl, by decide +kernel, rfl, by decide +kernel, by decide +kernel⟩
abbrev s_number_in : Stmt := top 27
theorem sc_number_in : FnScope ["word", "digits", "number"] ["word"] (defScope s_number_in) := ⟨rfl, rfl, rfl, by decide +kernel, rfl, by decide +kernel, by decide +kernel⟩
abbrev s_number_of : Stmt := top 28
theorem sc_number_of : FnScope ["digits", "head", "number", "at"] ["digits"] (defScope s_number_of) := ⟨rfl, rfl, rfl, by decide +kernel, rfl, by decide +kernel, by decide +kernel⟩
abbrev s_T_init : Stmt := inClass (top 30) 0
theorem sc_T_init : FnScope ["self", "first", "second", "length", "amount", "down", "backward", "way", "back"] ["self", "first", "second", "length", "amount", "down", "backward"] (defScope s_T_init) := ⟨rfl, rfl, rfl, by decide +kernel, rfl, by decide +kernel, by decide +kernel⟩
abbrev s_T_of : Stmt := inClass (top 30) 1
theorem sc_T_of : FnScope ["text", "values", "first", "second", "length", "amount", "down", "backward", "tie"] ["text"] (defScope s_T_of) := ⟨rfl, rfl, rfl, by decide +kernel, rfl, by decide +kernel, by decide +kernel⟩
abbrev s_T_eq : Stmt := inClass (top 30) 8
theorem sc_T_eq : FnScope ["self", "other"] ["self", "other"] (defScope s_T_eq) := ⟨rfl, rfl, rfl, by decide +kernel, rfl, by decide +kernel, by decide +kernel⟩
abbrev s_is_tie_within : Stmt := top 31
theorem sc_is_tie_within : FnScope ["value", "size"] ["value", "size"] (defScope s_is_tie_within) := ⟨rfl, rfl, rfl, by decide +kernel, rfl, by decide +kernel, by decide +kernel⟩
abbrev s_check_parts : Stmt := top 32
theorem sc_check_parts : FnScope ["first", "second", "length"] ["first", "second", "length"] (defScope s_check_parts) := ⟨rfl, rfl, rfl, by decide +kernel, rfl, by decide +kernel, by decide +kernel⟩
abbrev s_check_leading : Stmt := top 33
theorem sc_check_leading : FnScope ["amount", "down", "backward"] ["amount", "down", "backward"] (defScope s_check_leading) := ⟨rfl, rfl, rfl, by decide +kernel, rfl, by decide +kernel, by decide +kernel⟩
abbrev s_values_in : Stmt := top 34
theorem sc_values_in : FnScope ["text", "words", "backward", "numbers", "word"] ["text"] (defScope s_values_in) := ⟨rfl, rfl, rfl, by decide +kernel, rfl, by decide +kernel, by decide +kernel⟩
abbrev s_numbers_behind : Stmt := top 40
theorem sc_numbers_behind : FnScope ["line", "word", "many", "words", "numbers", "one"] ["line", "word", "many"] (defScope s_numbers_behind) := ⟨rfl, rfl, rfl, by decide +kernel, rfl, by decide +kernel, by decide +kernel⟩
abbrev s_tie_behind : Stmt := top 41
theorem sc_tie_behind : FnScope ["line", "word", "first", "_", "text", "tie"] ["line", "word"] (defScope s_tie_behind) := ⟨rfl, rfl, rfl, by decide +kernel, rfl, by decide +kernel, by decide +kernel⟩
abbrev s_size_in : Stmt := top 42
theorem sc_size_in : FnScope ["line", "numbers"] ["line"] (defScope s_size_in) := ⟨rfl, rfl, rfl, by decide +kernel, rfl, by decide +kernel, by decide +kernel⟩
abbrev s_tie_in : Stmt := top 43
theorem sc_tie_in : FnScope ["line", "size", "tie"] ["line", "size"] (defScope s_tie_in) := ⟨rfl, rfl, rfl, by decide +kernel, rfl, by decide +kernel, by decide +kernel⟩
abbrev s_note_in : Stmt := top 44
theorem sc_note_in : FnScope ["line", "size", "numbers"] ["line", "size"] (defScope s_note_in) := ⟨rfl, rfl, rfl, by decide +kernel, rfl, by decide +kernel, by decide +kernel⟩
abbrev s_B_init : Stmt := inClass (top 47) 0
theorem sc_B_init : FnScope ["self", "text", "size", "ties", "notes"] ["self", "text"] (defScope s_B_init) := ⟨rfl, rfl, rfl, by decide +kernel, rfl, by decide +kernel, by decide +kernel⟩
abbrev s_B_len : Stmt := inClass (top 47) 1
theorem sc_B_len : FnScope ["self"] ["self"] (defScope s_B_len) := ⟨rfl, rfl, rfl, by decide +kernel, rfl, by decide +kernel, by decide +kernel⟩
abbrev s_B_with_tie : Stmt := inClass (top 47) 5
theorem sc_B_with_tie : FnScope ["self", "tie"] ["self", "tie"] (defScope s_B_with_tie) := ⟨rfl, rfl, rfl, by decide +kernel, rfl, by decide +kernel, by decide +kernel⟩
abbrev s_B_without : Stmt := inClass (top 47) 6
theorem sc_B_without : FnScope ["self", "number", "ties", "at", "tie"] ["self", "number"] (defScope s_B_without) := ⟨rfl, rfl, rfl, by decide +kernel, rfl, by decide +kernel, by decide +kernel⟩
abbrev s_B_with_note : Stmt := inClass (top 47) 7
theorem sc_B_with_note : FnScope ["self", "place", "note"] ["self", "place", "note"] (defScope s_B_with_note) := ⟨rfl, rfl, rfl, by decide +kernel, rfl, by decide +kernel, by decide +kernel⟩
abbrev s_B_or : Stmt := inClass (top 47) 8
theorem sc_B_or : FnScope ["self", "other", "ties", "notes", "tie", "note"] ["self", "other"] (defScope s_B_or) := ⟨rfl, rfl, rfl, by decide +kernel, rfl, by decide +kernel, by decide +kernel⟩
abbrev s_B_add : Stmt := inClass (top 47) 9
theorem sc_B_add : FnScope ["self", "other", "size", "ties", "notes", "tie", "place", "note"] ["self", "other"] (defScope s_B_add) := ⟨rfl, rfl, rfl, by decide +kernel, rfl, by decide +kernel, by decide +kernel⟩
abbrev s_B_invert : Stmt := inClass (top 47) 10
theorem sc_B_invert : FnScope ["self", "ties", "notes", "tie", "place", "note"] ["self"] (defScope s_B_invert) := ⟨rfl, rfl, rfl, by decide +kernel, rfl, by decide +kernel, by decide +kernel⟩
abbrev s_B_neg : Stmt := inClass (top 47) 11
theorem sc_B_neg : FnScope ["self", "ties", "notes", "tie", "place", "note"] ["self"] (defScope s_B_neg) := ⟨rfl, rfl, rfl, by decide +kernel, rfl, by decide +kernel, by decide +kernel⟩
abbrev s_B_eq : Stmt := inClass (top 47) 12
theorem sc_B_eq : FnScope ["self", "other"] ["self", "other"] (defScope s_B_eq) := ⟨rfl, rfl, rfl, by decide +kernel, rfl, by decide +kernel, by decide +kernel⟩
abbrev s_contents : Stmt := top 48
theorem sc_contents : FnScope ["text", "lines", "size", "ties", "notes", "read"] ["text"] (defScope s_contents) := ⟨rfl, rfl, rfl, by decide +kernel, rfl, by decide +kernel, by decide +kernel⟩
abbrev s_first_ties : Stmt := top 49
theorem sc_first_ties : FnScope ["lines", "size", "ties", "line", "tie"] ["lines", "size"] (defScope s_first_ties) := ⟨rfl, rfl, rfl, by decide +kernel, rfl, by decide +kernel, by decide +kernel⟩
abbrev s_first_notes : Stmt := top 50
theorem sc_first_notes : FnScope ["lines", "size", "notes", "line", "note"] ["lines", "size"] (defScope s_first_notes) := ⟨rfl, rfl, rfl, by decide +kernel, rfl, by decide +kernel, by decide +kernel⟩
abbrev s_has_note : Stmt := top 51
theorem sc_has_note : FnScope ["notes", "place", "told", "_"] ["notes", "place"] (defScope s_has_note) := ⟨rfl, rfl, rfl, by decide +kernel, rfl, by decide +kernel, by decide +kernel⟩
abbrev s_check_notes : Stmt := top 52
theorem sc_check_notes : FnScope ["one", "other", "known", "place", "note"] ["one", "other"] (defScope s_check_notes) := ⟨rfl, rfl, rfl, by decide +kernel, rfl, by decide +kernel, by decide +kernel⟩
abbrev s_book_of : Stmt := top 53
theorem sc_book_of : FnScope ["size", "ties", "notes", "tie_lines", "note_lines", "tie", "place", "note"] ["size", "ties", "notes"] (defScope s_book_of) := ⟨rfl, rfl, rfl, by decide +kernel, rfl, by decide +kernel, by decide +kernel⟩
abbrev s_moved : Stmt := top 54
theorem sc_moved : FnScope ["tie", "by"] ["tie", "by"] (defScope s_moved) := ⟨rfl, rfl, rfl, by decide +kernel, rfl, by decide +kernel, by decide +kernel⟩
abbrev s_turned : Stmt := top 55
theorem sc_turned : FnScope ["tie", "size", "first", "second"] ["tie", "size"] (defScope s_turned) := ⟨rfl, rfl, rfl, by decide +kernel, rfl, by decide +kernel, by decide +kernel⟩
abbrev s_upside_down : Stmt := top 56
theorem sc_upside_down : FnScope ["tie"] ["tie"] (defScope s_upside_down) := ⟨rfl, rfl, rfl, by decide +kernel, rfl, by decide +kernel, by decide +kernel⟩
abbrev s_l_pot : Stmt := top 58
theorem sc_l_pot : FnScope ["_law_script", "_law_k", "_law_cell", "_law_own", "_law_small"] ["_law_script", "_law_k"] (defScope s_l_pot) := ⟨rfl, rfl, rfl, by decide +kernel, rfl, by decide +kernel, by decide +kernel⟩
abbrev s_l_take : Stmt := top 59
theorem sc_l_take : FnScope ["_law_pot_here", "_law_under", "_law_digit", "_law_prime", "_law_mixed"] ["_law_pot_here", "_law_under"] (defScope s_l_take) := ⟨rfl, rfl, rfl, by decide +kernel, rfl, by decide +kernel, by decide +kernel⟩
abbrev s_l_of : Stmt := top 60
theorem sc_l_of : FnScope ["_law_pot_here", "_law_some"] ["_law_pot_here", "_law_some"] (defScope s_l_of) := ⟨rfl, rfl, rfl, by decide +kernel, rfl, by decide +kernel, by decide +kernel⟩
abbrev s_l_cells : Stmt := top 61
theorem sc_l_cells : FnScope ["_law_script", "_law_most"] ["_law_script", "_law_most"] (defScope s_l_cells) := ⟨rfl, rfl, rfl, by decide +kernel, rfl, by decide +kernel, by decide +kernel⟩
abbrev s_l_amount : Stmt := top 62
theorem sc_l_amount : FnScope ["_law_pot_here"] ["_law_pot_here"] (defScope s_l_amount) := ⟨rfl, rfl, rfl, by decide +kernel, rfl, by decide +kernel, by decide +kernel⟩
abbrev s_l_row : Stmt := top 63
theorem sc_l_row : FnScope ["_law_pot_here", "_law_size", "_law_length", "_law_first", "_law_second", "_law_amount_here", "_law_is_down", "_law_is_back"] ["_law_pot_here", "_law_size"] (defScope s_l_row) := ⟨rfl, rfl, rfl, by decide +kernel, rfl, by decide +kernel, by decide +kernel⟩
abbrev s_l_far : Stmt := top 64
theorem sc_l_far : FnScope ["_law_row_here", "_law_far_here"] ["_law_row_here", "_law_far_here"] (defScope s_l_far) := ⟨rfl, rfl, rfl, by decide +kernel, rfl, by decide +kernel, by decide +kernel⟩
abbrev s_l_tie : Stmt := top 65
theorem sc_l_tie : FnScope ["_law_row_here"] ["_law_row_here"] (defScope s_l_tie) := ⟨rfl, rfl, rfl, by decide +kernel, rfl, by decide +kernel, by decide +kernel⟩
abbrev s_l_row_of : Stmt := top 66
theorem sc_l_row_of : FnScope ["_law_tie_here"] ["_law_tie_here"] (defScope s_l_row_of) := ⟨rfl, rfl, rfl, by decide +kernel, rfl, by decide +kernel, by decide +kernel⟩
abbrev s_l_text_of : Stmt := top 67
theorem sc_l_text_of : FnScope ["_law_row_here", "_law_words"] ["_law_row_here"] (defScope s_l_text_of) := ⟨rfl, rfl, rfl, by decide +kernel, rfl, by decide +kernel, by decide +kernel⟩
abbrev s_l_lore : Stmt := top 68
theorem sc_l_lore : FnScope ["_law_pot_here", "_law_most", "_law_ties", "_law_notes", "_law_lore_here", "_law_lap", "_law_left"] ["_law_pot_here", "_law_most", "_law_ties", "_law_notes"] (defScope s_l_lore) := ⟨rfl, rfl, rfl, by decide +kernel, rfl, by decide +kernel, by decide +kernel⟩
abbrev s_l_lines : Stmt := top 69
theorem sc_l_lines : FnScope ["_law_lore_here", "_law_lines_here", "_law_row_here", "_law_place", "_law_note"] ["_law_lore_here"] (defScope s_l_lines) := ⟨rfl, rfl, rfl, by decide +kernel, rfl, by decide +kernel, by decide +kernel⟩
abbrev s_l_book : Stmt := top 70
theorem sc_l_book : FnScope ["_law_lore_here"] ["_law_lore_here"] (defScope s_l_book) := ⟨rfl, rfl, rfl, by decide +kernel, rfl, by decide +kernel, by decide +kernel⟩
abbrev s_l_loose : Stmt := top 71
theorem sc_l_loose : FnScope ["_law_lore_here", "_law_lines_here", "_law_at", "_law_row_here"] ["_law_lore_here"] (defScope s_l_loose) := ⟨rfl, rfl, rfl, by decide +kernel, rfl, by decide +kernel, by decide +kernel⟩
abbrev s_l_with : Stmt := top 72
theorem sc_l_with : FnScope ["_law_lore_here", "_law_ties", "_law_notes"] ["_law_lore_here", "_law_ties", "_law_notes"] (defScope s_l_with) := ⟨rfl, rfl, rfl, by decide +kernel, rfl, by decide +kernel, by decide +kernel⟩
abbrev s_l_turned : Stmt := top 73
theorem sc_l_turned : FnScope ["_law_lore_here", "_law_size", "_law_ties", "_law_row_here", "_law_place", "_law_note"] ["_law_lore_here"] (defScope s_l_turned) := ⟨rfl, rfl, rfl, by decide +kernel, rfl, by decide +kernel, by decide +kernel⟩
abbrev s_l_upside : Stmt := top 74
theorem sc_l_upside : FnScope ["_law_lore_here", "_law_ties", "_law_row_here", "_law_place", "_law_note"] ["_law_lore_here"] (defScope s_l_upside) := ⟨rfl, rfl, rfl, by decide +kernel, rfl, by decide +kernel, by decide +kernel⟩
abbrev s_l_grown : Stmt := top 75
theorem sc_l_grown : FnScope ["_law_pot_here", "_law_lore_here", "_law_first", "_law_second", "_law_size", "_law_row_here", "_law_at"] ["_law_pot_here"] (defScope s_l_grown) := ⟨rfl, rfl, rfl, by decide +kernel, rfl, by decide +kernel, by decide +kernel⟩
abbrev s_l_are_more_right : Stmt := top 76
theorem sc_l_are_more_right : FnScope ["_law_pot_here", "_law_lore_here", "_law_loose_here", "_law_row_here", "_law_left", "_law_at", "_law_ties", "_law_place", "_law_note", "_law_due", "_law_one"] ["_law_pot_here", "_law_lore_here", "_law_loose_here"] (defScope s_l_are_more_right) := ⟨rfl, rfl, rfl, by decide +kernel, rfl, by decide +kernel, by decide +kernel⟩
abbrev s_l_are_joined_right : Stmt := top 77
theorem sc_l_are_joined_right : FnScope ["_law_pot_here", "_law_lore_here", "_law_loose_here", "_law_beside", "_law_side", "_law_more", "_law_size", "_law_notes", "_law_both", "_law_row_here", "_law_place", "_law_note"] ["_law_pot_here", "_law_lore_here", "_law_loose_here"] (defScope s_l_are_joined_right) := ⟨rfl, rfl, rfl, by decide +kernel, rfl, by decide +kernel, by decide +kernel⟩
abbrev s_l_right : Stmt := top 78
theorem sc_l_right : FnScope ["_law_pot_here", "_law_lore_here", "_law_plain", "_law_page", "_law_loose_here", "_law_rows", "_law_tie_here"] ["_law_pot_here"] (defScope s_l_right) := ⟨rfl, rfl, rfl, by decide +kernel, rfl, by decide +kernel, by decide +kernel⟩
abbrev s_law : Stmt := top 79
theorem sc_law : FnScope ["_law_script", "_law_k", "_law_pot_here", "_law_lap"] ["_law_script"] (defScope s_law) := ⟨rfl, rfl, rfl, by decide +kernel, rfl, by decide +kernel, by decide +kernel⟩
structure Zs where
  c : Nat → Addr
  f_E_init : Addr
  d_E_init : FuncData
  f_is_whole : Addr
  d_is_whole : FuncData
  f_is_from : Addr
  d_is_from : FuncData
  f_is_between : Addr
  d_is_between : FuncData
  f_written : Addr
  d_written : FuncData
  f_number_in : Addr
  d_number_in : FuncData
  f_number_of : Addr
  d_number_of : FuncData
  f_T_init : Addr
  d_T_init : FuncData
  f_T_of : Addr
  d_T_of : FuncData
  f_T_eq : Addr
  d_T_eq : FuncData
  f_is_tie_within : Addr
  d_is_tie_within : FuncData
  f_check_parts : Addr
  d_check_parts : FuncData
  f_check_leading : Addr
  d_check_leading : FuncData
  f_values_in : Addr
  d_values_in : FuncData
  f_numbers_behind : Addr
  d_numbers_behind : FuncData
  f_tie_behind : Addr
  d_tie_behind : FuncData
  f_size_in : Addr
  d_size_in : FuncData
  f_tie_in : Addr
  d_tie_in : FuncData
  f_note_in : Addr
  d_note_in : FuncData
  f_B_init : Addr
  d_B_init : FuncData
  f_B_len : Addr
  d_B_len : FuncData
  f_B_with_tie : Addr
  d_B_with_tie : FuncData
  f_B_without : Addr
  d_B_without : FuncData
  f_B_with_note : Addr
  d_B_with_note : FuncData
  f_B_or : Addr
  d_B_or : FuncData
  f_B_add : Addr
  d_B_add : FuncData
  f_B_invert : Addr
  d_B_invert : FuncData
  f_B_neg : Addr
  d_B_neg : FuncData
  f_B_eq : Addr
  d_B_eq : FuncData
  f_contents : Addr
  d_contents : FuncData
  f_first_ties : Addr
  d_first_ties : FuncData
  f_first_notes : Addr
  d_first_notes : FuncData
  f_has_note : Addr
  d_has_note : FuncData
  f_check_notes : Addr
  d_check_notes : FuncData
  f_book_of : Addr
  d_book_of : FuncData
  f_moved : Addr
  d_moved : FuncData
  f_turned : Addr
  d_turned : FuncData
  f_upside_down : Addr
  d_upside_down : FuncData
  f_l_pot : Addr
  d_l_pot : FuncData
  f_l_take : Addr
  d_l_take : FuncData
  f_l_of : Addr
  d_l_of : FuncData
  f_l_cells : Addr
  d_l_cells : FuncData
  f_l_amount : Addr
  d_l_amount : FuncData
  f_l_row : Addr
  d_l_row : FuncData
  f_l_far : Addr
  d_l_far : FuncData
  f_l_tie : Addr
  d_l_tie : FuncData
  f_l_row_of : Addr
  d_l_row_of : FuncData
  f_l_text_of : Addr
  d_l_text_of : FuncData
  f_l_lore : Addr
  d_l_lore : FuncData
  f_l_lines : Addr
  d_l_lines : FuncData
  f_l_book : Addr
  d_l_book : FuncData
  f_l_loose : Addr
  d_l_loose : FuncData
  f_l_with : Addr
  d_l_with : FuncData
  f_l_turned : Addr
  d_l_turned : FuncData
  f_l_upside : Addr
  d_l_upside : FuncData
  f_l_grown : Addr
  d_l_grown : FuncData
  f_l_are_more_right : Addr
  d_l_are_more_right : FuncData
  f_l_are_joined_right : Addr
  d_l_are_joined_right : FuncData
  f_l_right : Addr
  d_l_right : FuncData
  f_law : Addr
  d_law : FuncData
  cC : Addr
  cB : Addr
  t_GREATEST : Tok
  t__DIGITS : Tok
  t__CHUNK : Tok
  t_MOST : Tok
  pS : Addr
/-- where the top has put each def, and what it says of them -/
structure Txt (K : PySem.W.Frag) (mg : Str → Option Value) (Z : Zs) : Prop where
  F_E_init : Fun K "__init__" "TuneError.__init__" s_E_init Z.f_E_init Z.d_E_init
  bn_E_init : Binds K Z.d_E_init ["self", "value"] []
  k_E_init : PySem.W.keepIn K (.ref Z.f_E_init) = true
  i_E_init : PySem.W.isFn K (.ref Z.f_E_init) = true
  F_is_whole : Fun K "is_whole" "is_whole" s_is_whole Z.f_is_whole Z.d_is_whole
  bn_is_whole : Binds K Z.d_is_whole ["value"] []
  k_is_whole : PySem.W.keepIn K (.ref Z.f_is_whole) = true
  g_is_whole : mg "is_whole" = some (.ref Z.f_is_whole)
  F_is_from : Fun K "is_from" "is_from" s_is_from Z.f_is_from Z.d_is_from
  bn_is_from : Binds K Z.d_is_from ["value", "least"] []
  k_is_from : PySem.W.keepIn K (.ref Z.f_is_from) = true
  g_is_from : mg "is_from" = some (.ref Z.f_is_from)
  F_is_between : Fun K "is_between" "is_between" s_is_between Z.f_is_between Z.d_is_between
  bn_is_between : Binds K Z.d_is_between ["value", "least", "greatest"] []
  k_is_between : PySem.W.keepIn K (.ref Z.f_is_between) = true
  g_is_between : mg "is_between" = some (.ref Z.f_is_between)
  F_written : Fun K "written" "written" s_written Z.f_written Z.d_written
  bn_written : Binds K Z.d_written ["number"] []
  k_written : PySem.W.keepIn K (.ref Z.f_written) = true
  g_written : mg "written" = some (.ref Z.f_written)
  F_number_in : Fun K "number_in" "number_in" s_number_in Z.f_number_in Z.d_number_in
  bn_number_in : Binds K Z.d_number_in ["word"] []
  k_number_in : PySem.W.keepIn K (.ref Z.f_number_in) = true
  g_number_in : mg "number_in" = some (.ref Z.f_number_in)
  F_number_of : Fun K "_number_of" "_number_of" s_number_of Z.f_number_of Z.d_number_of
  bn_number_of : Binds K Z.d_number_of ["digits"] []
  k_number_of : PySem.W.keepIn K (.ref Z.f_number_of) = true
  g_number_of : mg "_number_of" = some (.ref Z.f_number_of)
  F_T_init : FunD K "__init__" "Tie.__init__" (defArgs s_T_init) (defBody s_T_init) (defScope s_T_init) [.int 0] [("down", .bl false), ("backward", .bl false)] Z.f_T_init Z.d_T_init
  k_T_init : PySem.W.keepIn K (.ref Z.f_T_init) = true
  i_T_init : PySem.W.isFn K (.ref Z.f_T_init) = true
  a_T_init : PySem.W.findIn K (.ref Z.cC) "__init__" = some (some (.ref Z.f_T_init))
  F_T_of : Fun K "of" "Tie.of" s_T_of Z.f_T_of Z.d_T_of
  bn_T_of : Binds K Z.d_T_of ["text"] []
  k_T_of : PySem.W.keepIn K (.ref Z.f_T_of) = true
  i_T_of : PySem.W.isFn K (.ref Z.f_T_of) = true
  F_T_eq : Fun K "__eq__" "Tie.__eq__" s_T_eq Z.f_T_eq Z.d_T_eq
  bn_T_eq : Binds K Z.d_T_eq ["self", "other"] []
  k_T_eq : PySem.W.keepIn K (.ref Z.f_T_eq) = true
  i_T_eq : PySem.W.isFn K (.ref Z.f_T_eq) = true
  a_T_eq : PySem.W.findIn K (.ref Z.cC) "__eq__" = some (some (.ref Z.f_T_eq))
  F_is_tie_within : Fun K "is_tie_within" "is_tie_within" s_is_tie_within Z.f_is_tie_within Z.d_is_tie_within
  bn_is_tie_within : Binds K Z.d_is_tie_within ["value", "size"] []
  k_is_tie_within : PySem.W.keepIn K (.ref Z.f_is_tie_within) = true
  g_is_tie_within : mg "is_tie_within" = some (.ref Z.f_is_tie_within)
  F_check_parts : Fun K "_check_parts" "_check_parts" s_check_parts Z.f_check_parts Z.d_check_parts
  bn_check_parts : Binds K Z.d_check_parts ["first", "second", "length"] []
  k_check_parts : PySem.W.keepIn K (.ref Z.f_check_parts) = true
  g_check_parts : mg "_check_parts" = some (.ref Z.f_check_parts)
  F_check_leading : Fun K "_check_leading" "_check_leading" s_check_leading Z.f_check_leading Z.d_check_leading
  bn_check_leading : Binds K Z.d_check_leading ["amount", "down", "backward"] []
  k_check_leading : PySem.W.keepIn K (.ref Z.f_check_leading) = true
  g_check_leading : mg "_check_leading" = some (.ref Z.f_check_leading)
  F_values_in : Fun K "_values_in" "_values_in" s_values_in Z.f_values_in Z.d_values_in
  bn_values_in : Binds K Z.d_values_in ["text"] []
  k_values_in : PySem.W.keepIn K (.ref Z.f_values_in) = true
  g_values_in : mg "_values_in" = some (.ref Z.f_values_in)
  F_numbers_behind : Fun K "numbers_behind" "numbers_behind" s_numbers_behind Z.f_numbers_behind Z.d_numbers_behind
  bn_numbers_behind : Binds K Z.d_numbers_behind ["line", "word", "many"] []
  k_numbers_behind : PySem.W.keepIn K (.ref Z.f_numbers_behind) = true
  g_numbers_behind : mg "numbers_behind" = some (.ref Z.f_numbers_behind)
  F_tie_behind : Fun K "tie_behind" "tie_behind" s_tie_behind Z.f_tie_behind Z.d_tie_behind
  bn_tie_behind : Binds K Z.d_tie_behind ["line", "word"] []
  k_tie_behind : PySem.W.keepIn K (.ref Z.f_tie_behind) = true
  g_tie_behind : mg "tie_behind" = some (.ref Z.f_tie_behind)
  F_size_in : Fun K "size_in" "size_in" s_size_in Z.f_size_in Z.d_size_in
  bn_size_in : Binds K Z.d_size_in ["line"] []
  k_size_in : PySem.W.keepIn K (.ref Z.f_size_in) = true
  g_size_in : mg "size_in" = some (.ref Z.f_size_in)
  F_tie_in : Fun K "tie_in" "tie_in" s_tie_in Z.f_tie_in Z.d_tie_in
  bn_tie_in : Binds K Z.d_tie_in ["line", "size"] []
  k_tie_in : PySem.W.keepIn K (.ref Z.f_tie_in) = true
  g_tie_in : mg "tie_in" = some (.ref Z.f_tie_in)
  F_note_in : Fun K "note_in" "note_in" s_note_in Z.f_note_in Z.d_note_in
  bn_note_in : Binds K Z.d_note_in ["line", "size"] []
  k_note_in : PySem.W.keepIn K (.ref Z.f_note_in) = true
  g_note_in : mg "note_in" = some (.ref Z.f_note_in)
  F_B_init : Fun K "__init__" "Book.__init__" s_B_init Z.f_B_init Z.d_B_init
  bn_B_init : Binds K Z.d_B_init ["self", "text"] []
  k_B_init : PySem.W.keepIn K (.ref Z.f_B_init) = true
  i_B_init : PySem.W.isFn K (.ref Z.f_B_init) = true
  a_B_init : PySem.W.findIn K (.ref Z.cB) "__init__" = some (some (.ref Z.f_B_init))
  F_B_len : Fun K "__len__" "Book.__len__" s_B_len Z.f_B_len Z.d_B_len
  bn_B_len : Binds K Z.d_B_len ["self"] []
  k_B_len : PySem.W.keepIn K (.ref Z.f_B_len) = true
  i_B_len : PySem.W.isFn K (.ref Z.f_B_len) = true
  a_B_len : PySem.W.findIn K (.ref Z.cB) "__len__" = some (some (.ref Z.f_B_len))
  F_B_with_tie : Fun K "with_tie" "Book.with_tie" s_B_with_tie Z.f_B_with_tie Z.d_B_with_tie
  bn_B_with_tie : Binds K Z.d_B_with_tie ["self", "tie"] []
  k_B_with_tie : PySem.W.keepIn K (.ref Z.f_B_with_tie) = true
  i_B_with_tie : PySem.W.isFn K (.ref Z.f_B_with_tie) = true
  a_B_with_tie : PySem.W.findIn K (.ref Z.cB) "with_tie" = some (some (.ref Z.f_B_with_tie))
  F_B_without : Fun K "without" "Book.without" s_B_without Z.f_B_without Z.d_B_without
  bn_B_without : Binds K Z.d_B_without ["self", "number"] []
  k_B_without : PySem.W.keepIn K (.ref Z.f_B_without) = true
  i_B_without : PySem.W.isFn K (.ref Z.f_B_without) = true
  a_B_without : PySem.W.findIn K (.ref Z.cB) "without" = some (some (.ref Z.f_B_without))
  F_B_with_note : Fun K "with_note" "Book.with_note" s_B_with_note Z.f_B_with_note Z.d_B_with_note
  bn_B_with_note : Binds K Z.d_B_with_note ["self", "place", "note"] []
  k_B_with_note : PySem.W.keepIn K (.ref Z.f_B_with_note) = true
  i_B_with_note : PySem.W.isFn K (.ref Z.f_B_with_note) = true
  a_B_with_note : PySem.W.findIn K (.ref Z.cB) "with_note" = some (some (.ref Z.f_B_with_note))
  F_B_or : Fun K "__or__" "Book.__or__" s_B_or Z.f_B_or Z.d_B_or
  bn_B_or : Binds K Z.d_B_or ["self", "other"] []
  k_B_or : PySem.W.keepIn K (.ref Z.f_B_or) = true
  i_B_or : PySem.W.isFn K (.ref Z.f_B_or) = true
  a_B_or : PySem.W.findIn K (.ref Z.cB) "__or__" = some (some (.ref Z.f_B_or))
  F_B_add : Fun K "__add__" "Book.__add__" s_B_add Z.f_B_add Z.d_B_add
  bn_B_add : Binds K Z.d_B_add ["self", "other"] []
  k_B_add : PySem.W.keepIn K (.ref Z.f_B_add) = true
  i_B_add : PySem.W.isFn K (.ref Z.f_B_add) = true
  a_B_add : PySem.W.findIn K (.ref Z.cB) "__add__" = some (some (.ref Z.f_B_add))
  F_B_invert : Fun K "__invert__" "Book.__invert__" s_B_invert Z.f_B_invert Z.d_B_invert
  bn_B_invert : Binds K Z.d_B_invert ["self"] []
  k_B_invert : PySem.W.keepIn K (.ref Z.f_B_invert) = true
  i_B_invert : PySem.W.isFn K (.ref Z.f_B_invert) = true
  a_B_invert : PySem.W.findIn K (.ref Z.cB) "__invert__" = some (some (.ref Z.f_B_invert))
  F_B_neg : Fun K "__neg__" "Book.__neg__" s_B_neg Z.f_B_neg Z.d_B_neg
  bn_B_neg : Binds K Z.d_B_neg ["self"] []
  k_B_neg : PySem.W.keepIn K (.ref Z.f_B_neg) = true
  i_B_neg : PySem.W.isFn K (.ref Z.f_B_neg) = true
  a_B_neg : PySem.W.findIn K (.ref Z.cB) "__neg__" = some (some (.ref Z.f_B_neg))
  F_B_eq : Fun K "__eq__" "Book.__eq__" s_B_eq Z.f_B_eq Z.d_B_eq
  bn_B_eq : Binds K Z.d_B_eq ["self", "other"] []
  k_B_eq : PySem.W.keepIn K (.ref Z.f_B_eq) = true
  i_B_eq : PySem.W.isFn K (.ref Z.f_B_eq) = true
  a_B_eq : PySem.W.findIn K (.ref Z.cB) "__eq__" = some (some (.ref Z.f_B_eq))
  F_contents : Fun K "_contents" "_contents" s_contents Z.f_contents Z.d_contents
  bn_contents : Binds K Z.d_contents ["text"] []
  k_contents : PySem.W.keepIn K (.ref Z.f_contents) = true
  g_contents : mg "_contents" = some (.ref Z.f_contents)
  F_first_ties : Fun K "_first_ties" "_first_ties" s_first_ties Z.f_first_ties Z.d_first_ties
  bn_first_ties : Binds K Z.d_first_ties ["lines", "size"] []
  k_first_ties : PySem.W.keepIn K (.ref Z.f_first_ties) = true
  g_first_ties : mg "_first_ties" = some (.ref Z.f_first_ties)
  F_first_notes : Fun K "_first_notes" "_first_notes" s_first_notes Z.f_first_notes Z.d_first_notes
  bn_first_notes : Binds K Z.d_first_notes ["lines", "size"] []
  k_first_notes : PySem.W.keepIn K (.ref Z.f_first_notes) = true
  g_first_notes : mg "_first_notes" = some (.ref Z.f_first_notes)
  F_has_note : Fun K "_has_note" "_has_note" s_has_note Z.f_has_note Z.d_has_note
  bn_has_note : Binds K Z.d_has_note ["notes", "place"] []
  k_has_note : PySem.W.keepIn K (.ref Z.f_has_note) = true
  g_has_note : mg "_has_note" = some (.ref Z.f_has_note)
  F_check_notes : Fun K "_check_notes" "_check_notes" s_check_notes Z.f_check_notes Z.d_check_notes
  bn_check_notes : Binds K Z.d_check_notes ["one", "other"] []
  k_check_notes : PySem.W.keepIn K (.ref Z.f_check_notes) = true
  g_check_notes : mg "_check_notes" = some (.ref Z.f_check_notes)
  F_book_of : Fun K "_book_of" "_book_of" s_book_of Z.f_book_of Z.d_book_of
  bn_book_of : Binds K Z.d_book_of ["size", "ties", "notes"] []
  k_book_of : PySem.W.keepIn K (.ref Z.f_book_of) = true
  g_book_of : mg "_book_of" = some (.ref Z.f_book_of)
  F_moved : Fun K "_moved" "_moved" s_moved Z.f_moved Z.d_moved
  bn_moved : Binds K Z.d_moved ["tie", "by"] []
  k_moved : PySem.W.keepIn K (.ref Z.f_moved) = true
  g_moved : mg "_moved" = some (.ref Z.f_moved)
  F_turned : Fun K "_turned" "_turned" s_turned Z.f_turned Z.d_turned
  bn_turned : Binds K Z.d_turned ["tie", "size"] []
  k_turned : PySem.W.keepIn K (.ref Z.f_turned) = true
  g_turned : mg "_turned" = some (.ref Z.f_turned)
  F_upside_down : Fun K "_upside_down" "_upside_down" s_upside_down Z.f_upside_down Z.d_upside_down
  bn_upside_down : Binds K Z.d_upside_down ["tie"] []
  k_upside_down : PySem.W.keepIn K (.ref Z.f_upside_down) = true
  g_upside_down : mg "_upside_down" = some (.ref Z.f_upside_down)
  F_l_pot : Fun K "_law_pot" "_law_pot" s_l_pot Z.f_l_pot Z.d_l_pot
  bn_l_pot : Binds K Z.d_l_pot ["_law_script", "_law_k"] []
  k_l_pot : PySem.W.keepIn K (.ref Z.f_l_pot) = true
  g_l_pot : mg "_law_pot" = some (.ref Z.f_l_pot)
  F_l_take : Fun K "_law_take" "_law_take" s_l_take Z.f_l_take Z.d_l_take
  bn_l_take : Binds K Z.d_l_take ["_law_pot_here", "_law_under"] []
  k_l_take : PySem.W.keepIn K (.ref Z.f_l_take) = true
  g_l_take : mg "_law_take" = some (.ref Z.f_l_take)
  F_l_of : Fun K "_law_of" "_law_of" s_l_of Z.f_l_of Z.d_l_of
  bn_l_of : Binds K Z.d_l_of ["_law_pot_here", "_law_some"] []
  k_l_of : PySem.W.keepIn K (.ref Z.f_l_of) = true
  g_l_of : mg "_law_of" = some (.ref Z.f_l_of)
  F_l_cells : Fun K "_law_cells" "_law_cells" s_l_cells Z.f_l_cells Z.d_l_cells
  bn_l_cells : Binds K Z.d_l_cells ["_law_script", "_law_most"] []
  k_l_cells : PySem.W.keepIn K (.ref Z.f_l_cells) = true
  g_l_cells : mg "_law_cells" = some (.ref Z.f_l_cells)
  F_l_amount : Fun K "_law_amount" "_law_amount" s_l_amount Z.f_l_amount Z.d_l_amount
  bn_l_amount : Binds K Z.d_l_amount ["_law_pot_here"] []
  k_l_amount : PySem.W.keepIn K (.ref Z.f_l_amount) = true
  g_l_amount : mg "_law_amount" = some (.ref Z.f_l_amount)
  F_l_row : Fun K "_law_row" "_law_row" s_l_row Z.f_l_row Z.d_l_row
  bn_l_row : Binds K Z.d_l_row ["_law_pot_here", "_law_size"] []
  k_l_row : PySem.W.keepIn K (.ref Z.f_l_row) = true
  g_l_row : mg "_law_row" = some (.ref Z.f_l_row)
  F_l_far : Fun K "_law_far" "_law_far" s_l_far Z.f_l_far Z.d_l_far
  bn_l_far : Binds K Z.d_l_far ["_law_row_here", "_law_far_here"] []
  k_l_far : PySem.W.keepIn K (.ref Z.f_l_far) = true
  g_l_far : mg "_law_far" = some (.ref Z.f_l_far)
  F_l_tie : Fun K "_law_tie" "_law_tie" s_l_tie Z.f_l_tie Z.d_l_tie
  bn_l_tie : Binds K Z.d_l_tie ["_law_row_here"] []
  k_l_tie : PySem.W.keepIn K (.ref Z.f_l_tie) = true
  g_l_tie : mg "_law_tie" = some (.ref Z.f_l_tie)
  F_l_row_of : Fun K "_law_row_of" "_law_row_of" s_l_row_of Z.f_l_row_of Z.d_l_row_of
  bn_l_row_of : Binds K Z.d_l_row_of ["_law_tie_here"] []
  k_l_row_of : PySem.W.keepIn K (.ref Z.f_l_row_of) = true
  g_l_row_of : mg "_law_row_of" = some (.ref Z.f_l_row_of)
  F_l_text_of : Fun K "_law_text_of" "_law_text_of" s_l_text_of Z.f_l_text_of Z.d_l_text_of
  bn_l_text_of : Binds K Z.d_l_text_of ["_law_row_here"] []
  k_l_text_of : PySem.W.keepIn K (.ref Z.f_l_text_of) = true
  g_l_text_of : mg "_law_text_of" = some (.ref Z.f_l_text_of)
  F_l_lore : Fun K "_law_lore" "_law_lore" s_l_lore Z.f_l_lore Z.d_l_lore
  bn_l_lore : Binds K Z.d_l_lore ["_law_pot_here", "_law_most", "_law_ties", "_law_notes"] []
  k_l_lore : PySem.W.keepIn K (.ref Z.f_l_lore) = true
  g_l_lore : mg "_law_lore" = some (.ref Z.f_l_lore)
  F_l_lines : Fun K "_law_lines" "_law_lines" s_l_lines Z.f_l_lines Z.d_l_lines
  bn_l_lines : Binds K Z.d_l_lines ["_law_lore_here"] []
  k_l_lines : PySem.W.keepIn K (.ref Z.f_l_lines) = true
  g_l_lines : mg "_law_lines" = some (.ref Z.f_l_lines)
  F_l_book : Fun K "_law_book" "_law_book" s_l_book Z.f_l_book Z.d_l_book
  bn_l_book : Binds K Z.d_l_book ["_law_lore_here"] []
  k_l_book : PySem.W.keepIn K (.ref Z.f_l_book) = true
  g_l_book : mg "_law_book" = some (.ref Z.f_l_book)
  F_l_loose : Fun K "_law_loose" "_law_loose" s_l_loose Z.f_l_loose Z.d_l_loose
  bn_l_loose : Binds K Z.d_l_loose ["_law_lore_here"] []
  k_l_loose : PySem.W.keepIn K (.ref Z.f_l_loose) = true
  g_l_loose : mg "_law_loose" = some (.ref Z.f_l_loose)
  F_l_with : Fun K "_law_with" "_law_with" s_l_with Z.f_l_with Z.d_l_with
  bn_l_with : Binds K Z.d_l_with ["_law_lore_here", "_law_ties", "_law_notes"] []
  k_l_with : PySem.W.keepIn K (.ref Z.f_l_with) = true
  g_l_with : mg "_law_with" = some (.ref Z.f_l_with)
  F_l_turned : Fun K "_law_turned" "_law_turned" s_l_turned Z.f_l_turned Z.d_l_turned
  bn_l_turned : Binds K Z.d_l_turned ["_law_lore_here"] []
  k_l_turned : PySem.W.keepIn K (.ref Z.f_l_turned) = true
  g_l_turned : mg "_law_turned" = some (.ref Z.f_l_turned)
  F_l_upside : Fun K "_law_upside" "_law_upside" s_l_upside Z.f_l_upside Z.d_l_upside
  bn_l_upside : Binds K Z.d_l_upside ["_law_lore_here"] []
  k_l_upside : PySem.W.keepIn K (.ref Z.f_l_upside) = true
  g_l_upside : mg "_law_upside" = some (.ref Z.f_l_upside)
  F_l_grown : Fun K "_law_grown" "_law_grown" s_l_grown Z.f_l_grown Z.d_l_grown
  bn_l_grown : Binds K Z.d_l_grown ["_law_pot_here"] []
  k_l_grown : PySem.W.keepIn K (.ref Z.f_l_grown) = true
  g_l_grown : mg "_law_grown" = some (.ref Z.f_l_grown)
  F_l_are_more_right : Fun K "_law_are_more_right" "_law_are_more_right" s_l_are_more_right Z.f_l_are_more_right Z.d_l_are_more_right
  bn_l_are_more_right : Binds K Z.d_l_are_more_right ["_law_pot_here", "_law_lore_here", "_law_loose_here"] []
  k_l_are_more_right : PySem.W.keepIn K (.ref Z.f_l_are_more_right) = true
  g_l_are_more_right : mg "_law_are_more_right" = some (.ref Z.f_l_are_more_right)
  F_l_are_joined_right : Fun K "_law_are_joined_right" "_law_are_joined_right" s_l_are_joined_right Z.f_l_are_joined_right Z.d_l_are_joined_right
  bn_l_are_joined_right : Binds K Z.d_l_are_joined_right ["_law_pot_here", "_law_lore_here", "_law_loose_here"] []
  k_l_are_joined_right : PySem.W.keepIn K (.ref Z.f_l_are_joined_right) = true
  g_l_are_joined_right : mg "_law_are_joined_right" = some (.ref Z.f_l_are_joined_right)
  F_l_right : Fun K "_law_right" "_law_right" s_l_right Z.f_l_right Z.d_l_right
  bn_l_right : Binds K Z.d_l_right ["_law_pot_here"] []
  k_l_right : PySem.W.keepIn K (.ref Z.f_l_right) = true
  g_l_right : mg "_law_right" = some (.ref Z.f_l_right)
  F_law : Fun K "law" "law" s_law Z.f_law Z.d_law
  bn_law : Binds K Z.d_law ["_law_script"] []
  k_law : PySem.W.keepIn K (.ref Z.f_law) = true
  g_law : mg "law" = some (.ref Z.f_law)
  b_isinstance : mg "isinstance" = none
  b_int : mg "int" = none
  b_bool : mg "bool" = none
  b_str : mg "str" = none
  b_range : mg "range" = none
  b_len : mg "len" = none
  b_max : mg "max" = none
  b_tuple : mg "tuple" = none
  b_enumerate : mg "enumerate" = none
  b_dict : mg "dict" = none
  b_abs : mg "abs" = none
  b_list : mg "list" = none
  b_min : mg "min" = none
  b_repr : mg "repr" = none
  b_all : mg "all" = none
  c_GREATEST : mg "GREATEST" = some (.int 1000000000000000000000000000000 Z.t_GREATEST)
  c__DIGITS : mg "_DIGITS" = some (.int 64 Z.t__DIGITS)
  c__CHUNK : mg "_CHUNK" = some (.int 10000000000000000000000000000000000000000000000000000000000000000 Z.t__CHUNK)
  c_MOST : mg "MOST" = some (.int 12 Z.t_MOST)
  cl : Cls K Z.cC
  g_C : mg "Tie" = some (.ref Z.cC)
  mkC : PySem.W.makesIn K Z.cC = true
  kC : PySem.W.keepIn K (.ref Z.cC) = true
  n_first : NoAttr K Z.cC "first"
  n_second : NoAttr K Z.cC "second"
  n_length : NoAttr K Z.cC "length"
  n_amount : NoAttr K Z.cC "amount"
  n_down : NoAttr K Z.cC "down"
  n_backward : NoAttr K Z.cC "backward"
  n_text : NoAttr K Z.cC "text"
  clB : Cls K Z.cB
  g_Bk : mg "Book" = some (.ref Z.cB)
  mkBc : PySem.W.makesIn K Z.cB = true
  kB : PySem.W.keepIn K (.ref Z.cB) = true
  nB_text : NoAttr K Z.cB "text"
  nB_size : NoAttr K Z.cB "size"
  nB_ties : NoAttr K Z.cB "ties"
  nB_notes : NoAttr K Z.cB "notes"
  g_Full : mg "Full" = some (.ref (Z.c 0))
  g_OtherNote : mg "OtherNote" = some (.ref (Z.c 1))
  g_OtherSize : mg "OtherSize" = some (.ref (Z.c 2))
  g_BadSize : mg "BadSize" = some (.ref (Z.c 3))
  g_BadTie : mg "BadTie" = some (.ref (Z.c 4))
  g_NoTie : mg "NoTie" = some (.ref (Z.c 5))
  g_NoPlace : mg "NoPlace" = some (.ref (Z.c 6))
  g_BadNote : mg "BadNote" = some (.ref (Z.c 7))
  g_TuneError : mg "TuneError" = some (.ref (Z.c 8))
  ex : ∀ i, i < 9 → ExcT K (Z.c 8) Z.f_E_init (Z.c i)
  nd : ∀ i j, i < 9 → j < 9 → Z.c i = Z.c j → i = j
  z_ve : PySem.W.findCls K (.type "ValueError") (.type "type") "__init__" = some (.val (.builtin "ValueError.__init__"))
  t_E_init : PySem.W.typeIn K (.ref Z.f_E_init) = some (.type "function")
  b_ValueError : mg "ValueError" = none
  z_cls : PySem.W.findIn K (.ref Z.cC) "__class__" = some (some (.builtin "object.__class__"))
  z_mro : PySem.W.mroIn K Z.cC (.type "object") = some true
  z_kit : PySem.W.kitOne K (.ref Z.cC) (.ref Z.cC) = some true
  z_ty : PySem.W.typeIn K (.ref Z.cC) = some (.type "type")
  z_clsB : PySem.W.findIn K (.ref Z.cB) "__class__" = some (some (.builtin "object.__class__"))
  z_mroB : PySem.W.mroIn K Z.cB (.type "object") = some true
  z_kitB : PySem.W.kitOne K (.ref Z.cB) (.ref Z.cB) = some true
  z_tyB : PySem.W.typeIn K (.ref Z.cB) = some (.type "type")
  z_get : PySem.W.specialIn K (.builtin "object.__class__") "__get__" = some (some (.builtin "getset_descriptor.__get__"))
  z_tk : PySem.W.takesIn K (.builtin "object.__class__") = some true
  z_read : ClX.CRead K Z.cC (.type "type")
  z_sta : CSta K Z.cC (.type "type") "of" Z.pS Z.f_T_of
  z_subN : PySem.W.subIn K (.type "NoneType") (.ref Z.cC) = some false
  z_kitN : PySem.W.kitOne K (.type "NoneType") (.ref Z.cC) = some false
  z_subT : PySem.W.subIn K (.type "tuple") (.ref Z.cC) = some false
  z_kitT : PySem.W.kitOne K (.type "tuple") (.ref Z.cC) = some false
  z_notT : PySem.W.notFirst K Z.cC (.type "tuple") = true
  z_firstB : PySem.W.selfFirst K Z.cB = true
  z_notTB : PySem.W.notFirst K Z.cB (.type "tuple") = true
  z_neB : PySem.W.findIn K (.ref Z.cB) "__ne__" = some (some (.builtin "object.__ne__"))
end TT

set_option Elab.async false
set_option linter.all false
set_option maxRecDepth 100000
set_option maxHeartbeats 4000000
namespace TT
open PySem PySem.Spec PyProof.Rows L2
/-! ### the law's draws -/
/-- a pot of draws stands at p: n numbers were mixed so far -/
def Pot (H : Hp) (p : Addr) (n : Nat) : Prop := ∃ own mix : Int, H p = some (.lst [.int own, .int mix, .int (n : Int)]) ∧ 0 ≤ own ∧ own < 10 ^ 300 ∧ 0 ≤ mix ∧ mix < 2305843009213693951
/-- all that was tracked but the object at p is as it was -/
def Keep (p : Addr) (H H' : Hp) : Prop := ∀ b o, b ≠ p → H b = some o → H' b = some o
theorem Keep.rfl' {p : Addr} {H : Hp} : Keep p H H := fun _ _ _ h => h
theorem Keep.trans {p : Addr} {H H1 H2 : Hp} (a : Keep p H H1) (b : Keep p H1 H2) : Keep p H H2 := fun c o n h => b c o n (a c o n h)
theorem Keep.of {p : Addr} {H H1 : Hp} (a : Same H H1) : Keep p H H1 := fun c o _ h => a c o h
theorem Keep.upd {p : Addr} {H H1 : Hp} {o : HO} (a : Keep p H H1) : Keep p H (upd H1 p o) := fun c u n h => by rw [upd_ne n]; exact a c u n h
theorem Keep.new {p q : Addr} {H H1 : Hp} {o : HO} (a : Keep p H H1) (h : H1 q = none) : Keep p H (L2.upd H1 q o) := fun c u n e => by
  have := a c u n e
  rw [upd_ne (ne_of_none this h)]
  exact this
theorem Same.new {q : Addr} {H H1 : Hp} {o : HO} (a : Same H H1) (h : H1 q = none) : Same H (L2.upd H1 q o) := fun c u e => by
  have := a c u e
  rw [upd_ne (ne_of_none this h)]
  exact this
theorem lt200 {u : Int} (h0 : 0 < u) (h : u < 10 ^ 60) : u.natAbs < 2 ^ 200 := by
  have : (10 : Int) ^ 60 < 2 ^ 200 := by decide
  omega
theorem bits62 {y : Int} (h0 : 0 ≤ y) (h : y < 2 ^ 62) : Builtin.Int.intBits y ≤ 64 := intBits_le_64 (by omega) (by omega)
theorem prime_at (i : Int) (h0 : 0 ≤ i) (h : i < 5) : ∃ v : Int, atI [V.int 2147483647, V.int 2147483629, V.int 2147483587, V.int 2147483579, V.int 2147483563] i = some (.int v) ∧ 2 ≤ v ∧ v ≤ 2147483648 := by
  have : i = 0 ∨ i = 1 ∨ i = 2 ∨ i = 3 ∨ i = 4 := by omega
  rcases this with rfl | rfl | rfl | rfl | rfl <;> exact ⟨_, rfl, by decide, by decide⟩
def sp_l_take : Sp := fun vs H Q _ => ∃ (p : Addr) (n : Nat) (u : Int), vs = [.ref p, .int u] ∧ Pot H p n ∧ n < 1000000 ∧ 0 < u ∧ u < 10 ^ 60 ∧
  ∀ (d : Int) (n' : Nat) (H' : Hp), 0 ≤ d → d < u → n' ≤ n + 1 → Pot H' p n' → Keep p H H' → Q (.int d) H'
section
variable {P : Program} {w : World} {K : PySem.W.Frag} {mg : Str → Option Value} {base : Heap} {Z : Zs}
theorem ok_l_take (T : Txt K mg Z) : FnOk P w K mg base CX0 1 Z.f_l_take Z.d_l_take ["_law_pot_here", "_law_under"] sp_l_take := by
  refine T.F_l_take.ok sc_l_take (fun vs H Q E h => ?_) (fun cdv A outer s H vs Q E hr h => ?_)
  · obtain ⟨p, n, u, rfl, _⟩ := h
    rfl
  · obtain ⟨p, n, u, rfl, ⟨own, mix, hp, o0, o1, m0, m1⟩, hn, u0, u1, k⟩ := h
    refine ⟨_, (pss_cons (ps_if (pt_cmpR op_gt (pe_ix ix_list (pv 0) pe_int (fun _ _ => rfl)) pe_int (nomark _)) (pss_cons (ps_set (i := 2) sc_l_take.nd rfl (Or.inl rfl) (pe_op op_mod (pe_callTy call_int1 (by rfl) T.b_int (by decide +kernel) (pa_cons (pe_ix ix_list (pv 0) pe_int (fun _ _ => rfl)) pa_nil)) (pv 1)))
      (pss_cons (ps_asg (pe_op op_fdivW (pe_ix ix_list (pv 0) pe_int (fun _ _ => rfl)) (pv 1)) (pg_sub (pv 0) pe_int set_list))
      (pss_one (ps_ret (pv 2))))) pss_nil)
      (pss_cons (ps_asg (pe_op op_add (pe_ix ix_list (pv 0) pe_int (fun _ _ => rfl)) pe_int) (pg_sub (pv 0) pe_int set_list))
      (pss_cons (ps_set (i := 3) sc_l_take.nd rfl (Or.inl rfl) (pe_ix ix_list (pe_lst (pa_cons pe_int (pa_cons pe_int (pa_cons pe_int (pa_cons pe_int (pa_cons pe_int pa_nil)))))) (pe_op op_mod (pe_callTy call_int1 (by rfl) T.b_int (by decide +kernel) (pa_cons (pe_ix ix_list (pv 0) pe_int (fun _ _ => rfl)) pa_nil)) pe_int) (fun _ _ => rfl)))
      (pss_cons (ps_set (i := 4) sc_l_take.nd rfl (Or.inl rfl) (pe_op op_mod (pe_callTy call_int1 (by rfl) T.b_int (by decide +kernel) (pa_cons (pe_op op_powW (pe_callTy call_int1 (by rfl) T.b_int (by decide +kernel) (pa_cons (pe_op op_add (pe_op op_add (pe_ix ix_list (pv 0) pe_int (fun _ _ => rfl)) (pe_op op_mul (pe_op op_mul pe_int (pe_ix ix_list (pv 0) pe_int (fun _ _ => rfl))) (pe_ix ix_list (pv 0) pe_int (fun _ _ => rfl)))) pe_int) pa_nil)) pe_int) pa_nil)) (pv 3)))
      (pss_cons (ps_set (i := 4) sc_l_take.nd rfl (Or.inl rfl) (pe_op op_mod (pe_callTy call_int1 (by rfl) T.b_int (by decide +kernel) (pa_cons (pe_op op_mul (pv 4) (pe_op op_add (pe_op op_mod (pe_callTy call_int1 (by rfl) T.b_int (by decide +kernel) (pa_cons (pv 4) pa_nil)) pe_int) (pe_op op_mul pe_int (pe_ix ix_list (pv 0) pe_int (fun _ _ => rfl))))) pa_nil)) pe_int))
      (pss_one (ps_ret (pe_op op_mod (pe_callTy call_int1 (by rfl) T.b_int (by decide +kernel) (pa_cons (pe_op op_fdivW (pv 4) pe_int) pa_nil)) (pv 1))))))))), ?_⟩
    refine ⟨_, rfl, p, _, _, _, rfl, rfl, SqL.of hp, rfl, _, _, rfl, rfl, _, rfl, ?_⟩
    refine ite2 (fun c => ?_) (fun c => ?_)
    · have c' : 0 < own := of_decide_eq_true c
      have q0 : 0 ≤ own / u := Int.ediv_nonneg o0 (Int.le_of_lt u0)
      have q1 : own / u < 10 ^ 300 := Int.lt_of_le_of_lt (Int.ediv_le_self _ o0) o1
      refine ⟨_, rfl, p, _, _, _, rfl, rfl, SqL.of hp, rfl, .inl ⟨_, rfl, _, rfl, _, _, rfl, rfl, u0, ?_⟩⟩
      refine ⟨_, rfl, p, _, _, _, rfl, rfl, SqL.of hp, rfl, _, rfl, _, _, rfl, rfl, wide_div u0 (b := 200) (lt200 u0 u1) (by decide) (by decide), _, rfl, p, _, _, _, rfl, rfl, hp, rfl, _, rfl, ?_⟩
      exact k _ n _ (Int.emod_nonneg _ (by omega)) (Int.emod_lt_of_pos _ u0) (Nat.le_succ _) ⟨own / u, mix, upd_same, q0, q1, m0, m1⟩ Keep.rfl'.upd
    · refine ⟨_, rfl, p, _, _, _, rfl, rfl, SqL.of hp, rfl, _, _, rfl, rfl, _, rfl, p, _, _, _, rfl, rfl, hp, rfl, ?_⟩
      obtain ⟨H1, hH1⟩ : ∃ H1, H1 = upd H p (.lst [V.int own, V.int mix, V.int ((n : Int) + 1)]) := ⟨_, rfl⟩
      have hp1 : H1 p = some (.lst [V.int own, V.int mix, V.int ((n : Int) + 1)]) := by rw [hH1]; exact upd_same
      have kp1 : Keep p H H1 := by rw [hH1]; exact Keep.rfl'.upd
      refine Eq.mp (congrArg _ hH1) ?_
      -- the primes
      refine ⟨by show 5 ≤ sizeLine; decide, fun q hq => ?_⟩
      have npq : p ≠ q := ne_of_none hp1 hq
      have hp2 : (upd H1 q (.lst [V.int 2147483647, V.int 2147483629, V.int 2147483587, V.int 2147483579, V.int 2147483563])) p = some (.lst [V.int own, V.int mix, V.int ((n : Int) + 1)]) := by rw [upd_ne npq]; exact hp1
      refine ⟨_, rfl, p, _, _, _, rfl, rfl, SqL.of hp2, rfl, .inl ⟨_, rfl, _, _, rfl, rfl, by show (0 : Int) < 5; decide, ?_⟩⟩
      obtain ⟨v, hv, v0, v1⟩ := prime_at (((n : Int) + 1) % 5) (Int.emod_nonneg _ (by decide)) (Int.emod_lt_of_pos _ (by decide))
      refine ⟨q, _, _, _, rfl, rfl, SqL.of upd_same, hv, ?_⟩
      generalize hH2 : upd H1 q (.lst [V.int 2147483647, V.int 2147483629, V.int 2147483587, V.int 2147483579, V.int 2147483563]) = H2 at hp2 ⊢
      have kp2 : Keep p H H2 := by rw [← hH2]; exact kp1.new hq
      -- mixed
      refine ⟨_, rfl, p, _, _, _, rfl, rfl, SqL.of hp2, rfl, _, rfl, p, _, _, _, rfl, rfl, SqL.of hp2, rfl, _, _, rfl, rfl, .inl (by constructor <;> decide), _, rfl, p, _, _, _, rfl, rfl, SqL.of hp2, rfl, _, _, rfl, rfl, .inr (by constructor <;> omega), _, _, rfl, rfl, _, _, rfl, rfl, .inl ⟨_, rfl, ?_⟩⟩
      have b1 : 0 ≤ 100169 * ((n : Int) + 1) * ((n : Int) + 1) ∧ 100169 * ((n : Int) + 1) * ((n : Int) + 1) ≤ 100169 * 1000000 * 1000000 := by
        have h1 : 0 ≤ (n : Int) + 1 := by omega
        have h2 : (n : Int) + 1 ≤ 1000000 := by omega
        refine ⟨Int.mul_nonneg (Int.mul_nonneg (by decide) h1) h1, ?_⟩
        exact Int.mul_le_mul (Int.mul_le_mul_of_nonneg_left h2 (by decide)) h2 h1 (by decide)
      generalize hz : 100169 * ((n : Int) + 1) * ((n : Int) + 1) = z at b1 ⊢
      have b2 : 0 ≤ mix + z + 53 ∧ mix + z + 53 < 2 ^ 62 := by constructor <;> omega
      generalize mix + z + 53 = y at b2 ⊢
      refine ⟨_, _, rfl, rfl, ⟨by decide, ?_⟩, .inl ⟨_, rfl, ?_⟩⟩
      · have := bits62 b2.1 b2.2
        show ((Builtin.Int.intBits y : Nat) : Int) * 3 ≤ 2 ^ 27
        omega
      refine ⟨_, rfl, _, _, rfl, rfl, by omega, ?_⟩
      have b3 : 0 ≤ y ^ (3 : Int).toNat % v ∧ y ^ (3 : Int).toNat % v < 2147483648 := ⟨Int.emod_nonneg _ (by omega), Int.lt_of_lt_of_le (Int.emod_lt_of_pos _ (by omega)) (by omega)⟩
      refine ⟨_, rfl, _, rfl, .inl ⟨_, rfl, _, _, rfl, rfl, by show (0 : Int) < 10039; decide, _, rfl, p, _, _, _, rfl, rfl, SqL.of hp2, rfl, _, _, rfl, rfl, .inl (by constructor <;> decide), _, _, rfl, rfl, _, _, rfl, rfl, .inl (by constructor <;> omega), .inl ⟨_, rfl, _, _, rfl, rfl, (by decide : (0 : Int) < 2305843009213693907), ?_⟩⟩⟩
      refine ⟨_, rfl, _, _, rfl, rfl, wide_div (j := 127) (by decide) (b := 200) (by decide) (by decide) (by decide), .inl ⟨_, rfl, _, rfl, _, _, rfl, rfl, u0, ?_⟩⟩
      exact k _ (n + 1) _ (Int.emod_nonneg _ (by omega)) (Int.emod_lt_of_pos _ u0) (Nat.le_refl _) ⟨own, mix, hp2, o0, o1, m0, m1⟩ kp2
end
end TT

set_option Elab.async false
set_option linter.all false
set_option maxRecDepth 100000
set_option maxHeartbeats 4000000
namespace TT
open PySem PySem.Spec PyProof.Rows L2
def sp_l_of : Sp := fun vs H Q _ => ∃ (p a : Addr) (n : Nat) (xs : List V), vs = [.ref p, .ref a] ∧ Pot H p n ∧ n < 1000000 ∧ H a = some (.lst xs) ∧ a ≠ p ∧ 0 < xs.length ∧ xs.length ≤ 1000 ∧
  ∀ (v : V) (n' : Nat) (H' : Hp), v ∈ xs → n' ≤ n + 1 → Pot H' p n' → Keep p H H' → Q v H'
def sp_l_cells (K : PySem.W.Frag) : Sp := fun vs H Q _ => ∃ (a : Addr) (ns : List Int) (most : Int), vs = [.ref a, .int most] ∧ SqL K H a (ns.map V.int) ∧ ns.length ≤ 63 ∧ 1 ≤ most ∧ most ≤ 63 ∧
  ∀ (q : Addr) (m : Int), H q = none → 1 ≤ m → m ≤ 63 → Q (.ref q) (upd H q (.lst (rgV 0 m)))
def sp_l_pot (K : PySem.W.Frag) : Sp := fun vs H Q _ => ∃ (a : Addr) (ns : List Int) (i : Int), vs = [.ref a, .int i] ∧ SqL K H a (ns.map V.int) ∧ ns.length ≤ 63 ∧ 0 ≤ i ∧ i < 100 ∧
  ∀ (p : Addr) (H' : Hp), H p = none → Same H H' → Pot H' p 0 → Q (.ref p) H'
theorem at_mem {xs : List V} {i : Int} (h0 : 0 ≤ i) (h : i < (xs.length : Int)) : ∃ v, atI xs i = some v ∧ v ∈ xs := by
  obtain ⟨j, rfl⟩ : ∃ j : Nat, i = (j : Int) := ⟨i.toNat, by omega⟩
  have hj : j < xs.length := by omega
  exact ⟨xs[j], atI_nat (List.getElem?_eq_getElem hj), List.getElem_mem hj⟩
theorem ite01 (b : Bool) : -(2 ^ 64) < (if b = true then (1 : Int) else 0) ∧ (if b = true then (1 : Int) else 0) < 2 ^ 64 := by cases b <;> constructor <;> decide
theorem share {T : Int → Prop} {G : Prop} (h : (∀ z, T z) → G) (t : ∀ z, T z) : G := h t
section
variable {P : Program} {w : World} {K : PySem.W.Frag} {mg : Str → Option Value} {base : Heap} {Z : Zs}
theorem ok_l_of (T : Txt K mg Z) : FnOk P w K mg base CX0 2 Z.f_l_of Z.d_l_of ["_law_pot_here", "_law_some"] sp_l_of := by
  refine T.F_l_of.ok sc_l_of (fun vs H Q E h => ?_) (fun cdv A outer s H vs Q E hr h => ?_)
  · obtain ⟨p, a, n, xs, rfl, _⟩ := h
    rfl
  · obtain ⟨p, a, n, xs, rfl, hp, hn, ha, hne, l0, l1, k⟩ := h
    refine ⟨_, (pss_one (ps_ret (pe_ix ix_list (pv 1) (pe_call (ok_l_take T) (hr.mono (by decide)) rfl T.g_l_take T.k_l_take T.bn_l_take .nil pass0 (pa_cons (pv 0) (pa_cons (pe_callB  call_len (by rfl) T.b_len (by decide +kernel) (pa_cons (pv 1) pa_nil)) pa_nil))) (fun _ _ => rfl)))), ?_⟩
    have big : (xs.length : Int) < 10 ^ 60 := by
      have : (1000 : Int) < 10 ^ 60 := by decide
      omega
    refine ⟨_, rfl, _, rfl, _, rfl, _, _, rfl, .inl ⟨_, SqL.of ha, rfl⟩, p, n, _, rfl, hp, hn, by omega, big, fun d n' H' d0 d1 hn' hp' kp => ?_⟩
    obtain ⟨v, hv, hm⟩ := at_mem d0 d1
    exact ⟨a, xs, d, v, rfl, rfl, SqL.of (kp _ _ hne ha), hv, k v n' H' hm hn' hp' kp⟩
theorem ok_l_cells (T : Txt K mg Z) : FnOk P w K mg base CX0 1 Z.f_l_cells Z.d_l_cells ["_law_script", "_law_most"] (sp_l_cells K) := by
  refine T.F_l_cells.ok sc_l_cells (fun vs H Q E h => ?_) (fun cdv A outer s H vs Q E hr h => ?_)
  · obtain ⟨a, ns, m, rfl, _⟩ := h
    rfl
  · obtain ⟨a, ns, m, rfl, hS, hl, m0, m1, k⟩ := h
    refine ⟨_, (pss_one (ps_ret (pe_listRg rfl rfl T.b_list (prg_1 rfl T.b_range (pe_callB  (call_max2 rfl) (by rfl) T.b_max (by decide +kernel) (pa_cons pe_int (pa_cons (pe_callB  (call_min2 rfl) (by rfl) T.b_min (by decide +kernel) (pa_cons (pv 1) (pa_cons (pe_callB  call_len (by rfl) T.b_len (by decide +kernel) (pa_cons (pv 0) pa_nil)) pa_nil))) pa_nil))))))), ?_⟩
    refine ⟨_, rfl, _, rfl, _, _, rfl, .inl ⟨_, hS, rfl⟩, _, _, rfl, _, _, rfl, ?_⟩
    rw [List.length_map]
    have b : 1 ≤ (if (if (ns.length : Int) < m then (ns.length : Int) else m) > 1 then (if (ns.length : Int) < m then (ns.length : Int) else m) else 1) ∧ (if (if (ns.length : Int) < m then (ns.length : Int) else m) > 1 then (if (ns.length : Int) < m then (ns.length : Int) else m) else 1) ≤ 63 := by
      constructor <;> split <;> first | omega | (split <;> omega)
    exact ⟨_, rfl, RgOk.of_le (by decide) (by omega) (by decide) (by omega), fun q hq => k q _ hq b.1 b.2⟩
theorem own_bound (x : Int) (b : Bool) : 0 ≤ x % ((10 : Int) ^ (60 : Int).toNat) ^ (5 : Int).toNat * (if b = true then 1 else 0) ∧ x % ((10 : Int) ^ (60 : Int).toNat) ^ (5 : Int).toNat * (if b = true then 1 else 0) < 10 ^ 300 := by
  have e : ((10 : Int) ^ (60 : Int).toNat) ^ (5 : Int).toNat = 10 ^ 300 := by decide
  rw [e]
  have h1 := Int.emod_nonneg x (b := 10 ^ 300) (by decide)
  have h2 := Int.emod_lt_of_pos x (b := 10 ^ 300) (by decide)
  cases b
  · simp only [Bool.false_eq_true, if_false, Int.mul_zero]
    exact ⟨Int.le_refl _, by decide⟩
  · simp only [if_true, Int.mul_one]
    exact ⟨h1, h2⟩
theorem ok_l_pot (T : Txt K mg Z) : FnOk P w K mg base CX0 1 Z.f_l_pot Z.d_l_pot ["_law_script", "_law_k"] (sp_l_pot K) := by
  refine T.F_l_pot.ok sc_l_pot (fun vs H Q E h => ?_) (fun cdv A outer s H vs Q E hr h => ?_)
  · obtain ⟨a, ns, i, rfl, _⟩ := h
    rfl
  · obtain ⟨a, ns, i, rfl, hS, hl, i0, i1, k⟩ := h
    refine ⟨_, (pss_cons (ps_set (i := 2) sc_l_pot.nd rfl (Or.inl rfl) (pe_ifExp (pt_cmpR op_lt (pv 1) (pe_callB  call_len (by rfl) T.b_len (by decide +kernel) (pa_cons (pv 0) pa_nil)) (nomark _)) (pe_ix ix_list (pv 0) (pv 1) (fun _ _ => rfl)) (pe_op op_add (pe_op op_mul pe_int (pv 1)) pe_int)))
      (pss_cons (ps_set (i := 3) sc_l_pot.nd rfl (Or.inl rfl) (pe_op op_mul (pe_op op_mod (pe_callTy call_int1 (by rfl) T.b_int (by decide +kernel) (pa_cons (pe_callB  call_abs (by rfl) T.b_abs (by decide +kernel) (pa_cons (pv 2) pa_nil)) pa_nil)) (pe_op op_powW (pe_op op_powW pe_int pe_int) pe_int)) (pe_callTy call_int1 (by rfl) T.b_int (by decide +kernel) (pa_cons (pe_cmpR op_ge (pe_callB  call_abs (by rfl) T.b_abs (by decide +kernel) (pa_cons (pv 2) pa_nil)) (pe_op op_powW pe_int pe_int) (nomark _)) pa_nil))))
      (pss_cons (ps_set (i := 4) sc_l_pot.nd rfl (Or.inl rfl) (pe_op op_mod (pe_callTy call_int1 (by rfl) T.b_int (by decide +kernel) (pa_cons (pv 2) pa_nil)) pe_int))
      (pss_one (ps_ret (pe_lst (pa_cons (pv 3) (pa_cons (pe_op op_mod (pe_callTy call_int1 (by rfl) T.b_int (by decide +kernel) (pa_cons (pe_op op_add (pe_op op_add (pe_op op_mul (pv 4) pe_int) (pe_op op_mul (pe_op op_mul pe_int (pv 1)) (pv 1))) pe_int) pa_nil)) pe_int) (pa_cons pe_int pa_nil))))))))), ?_⟩
    refine ⟨_, rfl, _, rfl, _, _, rfl, .inl ⟨_, hS, rfl⟩, _, _, rfl, rfl, _, rfl, ?_⟩
    rw [List.length_map]
    refine' share (fun tail => ite2 (fun c => ?b1) (fun c => ?b2)) ?b3
    case b1 =>
      have c' : i < (ns.length : Int) := of_decide_eq_true c
      obtain ⟨v, hv, hm⟩ := at_mem (xs := ns.map V.int) i0 (by rw [List.length_map]; exact c')
      obtain ⟨z, _, rfl⟩ := List.mem_map.mp hm
      exact ⟨_, rfl, _, rfl, a, _, _, _, rfl, rfl, hS, hv, tail z⟩
    case b2 => exact ⟨_, rfl, _, _, rfl, rfl, .inl (by constructor <;> decide), _, _, rfl, rfl, tail _⟩
    case b3 =>
      intro z
      refine ⟨_, rfl, _, rfl, .inl ⟨_, rfl, _, _, rfl, rfl, ⟨by decide, by decide +kernel⟩, _, _, rfl, rfl, ⟨by decide, by decide +kernel⟩, _, _, rfl, rfl, (by decide +kernel : (0 : Int) < ((10 : Int) ^ (60 : Int).toNat) ^ (5 : Int).toNat), ?_⟩⟩
      refine ⟨_, rfl, _, rfl, _, _, rfl, rfl, ⟨by decide, by decide +kernel⟩, _, _, rfl, rfl, .inr ⟨_, rfl, _, _, rfl, rfl, .inr (ite01 _), ?_⟩⟩
      have ob := own_bound (if z < 0 then -z else z) (decide ((10 : Int) ^ (18 : Int).toNat ≤ (if z < 0 then -z else z)))
      refine ⟨_, rfl, .inl ⟨_, rfl, _, _, rfl, rfl, by show (0 : Int) < 2305843009213693951; decide, ?_⟩⟩
      refine ⟨_, rfl, _, rfl, _, _, rfl, rfl, .inr (by constructor <;> decide), _, rfl, _, _, rfl, rfl, .inl (by constructor <;> decide), _, rfl, _, _, rfl, rfl, .inr (by constructor <;> omega), _, _, rfl, rfl, _, _, rfl, rfl, .inl ⟨_, rfl, _, _, rfl, rfl, by show (0 : Int) < 2305843009213693921; decide, ?_⟩⟩
      refine ⟨by show 3 ≤ sizeLine; decide, fun p hp => k p _ hp (Same.new (Same.refl H) hp) ⟨_, _, upd_same, ob.1, ob.2, Int.emod_nonneg _ (by decide), ?_⟩⟩
      exact Int.lt_trans (Int.emod_lt_of_pos _ (by decide)) (by decide)
end
end TT

set_option Elab.async false
set_option linter.all false
set_option maxRecDepth 100000
set_option maxHeartbeats 4000000
namespace TT
open PySem PySem.Spec PyProof.Rows L2
theorem Pot.new {H : Hp} {p q : Addr} {n : Nat} {o : HO} (h : Pot H p n) (hq : H q = none) : Pot (upd H q o) p n := by
  obtain ⟨a, m, e, r⟩ := h
  exact ⟨a, m, by rw [upd_ne (ne_of_none e hq)]; exact e, r⟩
theorem free_of {H H' : Hp} {p q : Addr} {n m : Nat} (k : Keep p H H') (hp : Pot H p n) (hq : H' q = none) (hp' : Pot H' p m) : H q = none := by
  cases e : H q with
  | none => rfl
  | some o =>
    have ne : q ≠ p := by
      rintro rfl
      obtain ⟨_, _, z, _⟩ := hp'
      rw [hq] at z; cases z
    rw [k q o ne e] at hq
    cases hq
/-! ### rows: the law's own picture of a tie -/
/-- the six values of a tie -/
structure Row where
  f : Int
  s : Int
  l : Int
  a : Int
  d : Bool
  b : Bool
/-- such as a tie may have: places within 10 ^ 30, amounts below 10 ^ 36 -/
structure Row.Ok (r : Row) : Prop where
  f0 : 0 ≤ r.f
  s0 : 0 ≤ r.s
  l0 : 1 ≤ r.l
  fe : r.f + r.l ≤ 10 ^ 30
  se : r.s + r.l ≤ 10 ^ 30
  al : -(10 ^ 60) < r.a
  ah : r.a < 10 ^ 60
  bk : r.b = true → 1 < r.l
def Row.vs (r : Row) : List V := [.int r.f, .int r.s, .int r.l, .int r.a, .bl r.d, .bl r.b]
def Row.dat (r : Row) : PyData := .tuple [.int r.f, .int r.s, .int r.l, .int r.a, .bool r.d, .bool r.b]
/-- a row as a tuple stands at q -/
def RowAt (H : Hp) (q : Addr) (r : Row) : Prop := H q = some (.tup r.vs)
theorem Keep.row {p q : Addr} {H H' : Hp} {r : Row} {n : Nat} (k : Keep p H H') (hp : Pot H p n) (h : RowAt H q r) : RowAt H' q r := by
  refine k _ _ ?_ h
  obtain ⟨_, _, e, _⟩ := hp
  exact ne_of h e (fun z => by cases z)
def sp_l_amount : Sp := fun vs H Q _ => ∃ (p : Addr) (n : Nat), vs = [.ref p] ∧ Pot H p n ∧ n < 1000000 ∧
  ∀ (v : Int) (n' : Nat) (H' : Hp), -(10 ^ 36) < v → v < 10 ^ 36 → n' ≤ n + 1 → Pot H' p n' → Keep p H H' → Q (.int v) H'
def sp_l_row : Sp := fun vs H Q _ => ∃ (p : Addr) (n : Nat) (z : Int), vs = [.ref p, .int z] ∧ Pot H p n ∧ n + 6 < 1000000 ∧ 1 ≤ z ∧ z ≤ 1000 ∧
  ∀ (r : Row) (q : Addr) (n' : Nat) (H' : Hp), r.Ok → r.f + r.l ≤ z → r.s + r.l ≤ z → -(10 ^ 36) < r.a → r.a < 10 ^ 36 → n' ≤ n + 6 → Pot H' p n' → Keep p H H' → RowAt H' q r → H q = none → Q (.ref q) H'
section
variable {P : Program} {w : World} {K : PySem.W.Frag} {mg : Str → Option Value} {base : Heap} {Z : Zs}
theorem ok_l_amount (T : Txt K mg Z) : FnOk P w K mg base CX0 3 Z.f_l_amount Z.d_l_amount ["_law_pot_here"] sp_l_amount := by
  refine T.F_l_amount.ok sc_l_amount (fun vs H Q E h => ?_) (fun cdv A outer s H vs Q E hr h => ?_)
  · obtain ⟨p, n, rfl, _⟩ := h
    rfl
  · obtain ⟨p, n, rfl, hp, hn, k⟩ := h
    refine ⟨_, (pss_one (ps_ret (pe_call (ok_l_of T) (hr.mono (by decide)) rfl T.g_l_of T.k_l_of T.bn_l_of .nil pass0 (pa_cons (pv 0) (pa_cons (pe_lst (pa_cons pe_int (pa_cons pe_int (pa_cons pe_int (pa_cons (pe_un un_neg pe_int) (pa_cons pe_int (pa_cons pe_int (pa_cons (pe_un un_neg pe_int) (pa_cons pe_int (pa_cons (pe_op op_powW pe_int pe_int) pa_nil)))))))))) pa_nil))))), ?_⟩
    refine ⟨_, rfl, _, rfl, _, rfl, _, _, rfl, rfl, ⟨by decide, by decide +kernel⟩, by show 9 ≤ sizeLine; decide, fun a ha => ?_⟩
    have hpa : p ≠ a := by
      obtain ⟨_, _, e, _⟩ := hp
      exact ne_of_none e ha
    have hp2 : Pot (upd H a (.lst [.int 0, .int 0, .int 1, .int (-1), .int 2, .int 5, .int (-7), .int 12, .int ((10 : Int) ^ (35 : Int).toNat)])) p n := by
      obtain ⟨o, m, e, r⟩ := hp
      exact ⟨o, m, by rw [upd_ne hpa]; exact e, r⟩
    refine ⟨p, a, n, _, rfl, hp2, hn, upd_same, hpa.symm, by decide, by decide, fun v n' H' hv hn' hp' kp => ?_⟩
    have kp' : Keep p H H' := (Keep.new Keep.rfl' ha).trans kp
    simp only [List.mem_cons, List.not_mem_nil, or_false] at hv
    rcases hv with rfl | rfl | rfl | rfl | rfl | rfl | rfl | rfl | rfl <;> exact k _ n' H' (by decide) (by decide) hn' hp' kp'
theorem ok_l_row (T : Txt K mg Z) : FnOk P w K mg base CX0 4 Z.f_l_row Z.d_l_row ["_law_pot_here", "_law_size"] sp_l_row := by
  refine T.F_l_row.ok sc_l_row (fun vs H Q E h => ?_) (fun cdv A outer s H vs Q E hr h => ?_)
  · obtain ⟨p, n, z, rfl, _⟩ := h
    rfl
  · obtain ⟨p, n, z, rfl, hp, hn, z0, z1, k⟩ := h
    refine ⟨_, (pss_cons (ps_set (i := 2) sc_l_row.nd rfl (Or.inl rfl) (pe_op op_add pe_int (pe_call (ok_l_take T) (hr.mono (by decide)) rfl T.g_l_take T.k_l_take T.bn_l_take .nil pass0 (pa_cons (pv 0) (pa_cons (pv 1) pa_nil)))))
      (pss_cons (ps_par (i := 3) (j := 4) (by rfl) sc_l_row.nd rfl rfl (by decide) rfl rfl (pa_cons (pe_call (ok_l_take T) (hr.mono (by decide)) rfl T.g_l_take T.k_l_take T.bn_l_take .nil pass0 (pa_cons (pv 0) (pa_cons (pe_op op_add (pe_op op_sub (pv 1) (pv 2)) pe_int) pa_nil))) (pa_cons (pe_call (ok_l_take T) (hr.mono (by decide)) rfl T.g_l_take T.k_l_take T.bn_l_take .nil pass0 (pa_cons (pv 0) (pa_cons (pe_op op_add (pe_op op_sub (pv 1) (pv 2)) pe_int) pa_nil))) pa_nil)) (by rfl))
      (pss_cons (ps_par3 (i := 5) (j := 6) (l := 7) rfl sc_l_row.nd rfl rfl rfl (by decide) (by decide) (by decide) rfl rfl rfl (pa_cons (pe_call (ok_l_amount T) (hr.mono (by decide)) rfl T.g_l_amount T.k_l_amount T.bn_l_amount .nil pass0 (pa_cons (pv 0) pa_nil)) (pa_cons (pe_cmpR op_eq (pe_call (ok_l_take T) (hr.mono (by decide)) rfl T.g_l_take T.k_l_take T.bn_l_take .nil pass0 (pa_cons (pv 0) (pa_cons pe_int pa_nil))) pe_int (nomark _)) (pa_cons (pe_cmpR op_eq (pe_call (ok_l_take T) (hr.mono (by decide)) rfl T.g_l_take T.k_l_take T.bn_l_take .nil pass0 (pa_cons (pv 0) (pa_cons pe_int pa_nil))) pe_int (nomark _)) pa_nil))) (by rfl))
      (pss_one (ps_ret (pe_tup (pa_cons (pv 3) (pa_cons (pv 4) (pa_cons (pv 2) (pa_cons (pv 5) (pa_cons (pv 6) (pa_cons (pe_and (pv 7) (pe_one (pe_cmpR op_gt (pv 2) pe_int (nomark _)))) pa_nil)))))))))))), ?_⟩
    have big : (1001 : Int) < 10 ^ 60 := by decide
    refine ⟨_, rfl, _, rfl, p, n, _, rfl, hp, by omega, by omega, by omega, fun d1 n1 H1 a0 a1 hn1 hp1 k1 => ?_⟩
    refine ⟨_, _, rfl, rfl, ?_⟩
    refine ⟨_, rfl, _, rfl, _, rfl, _, _, rfl, rfl, _, _, rfl, rfl, p, n1, _, rfl, hp1, by omega, by show 0 < z - (1 + d1) + 1; omega, by show z - (1 + d1) + 1 < 10 ^ 60; omega, fun d2 n2 H2 b0 b1 hn2 hp2 k2 => ?_⟩
    refine ⟨_, rfl, _, rfl, _, rfl, _, _, rfl, rfl, _, _, rfl, rfl, p, n2, _, rfl, hp2, by omega, by show 0 < z - (1 + d1) + 1; omega, by show z - (1 + d1) + 1 < 10 ^ 60; omega, fun d3 n3 H3 c0 c1 hn3 hp3 k3 => ?_⟩
    refine ⟨_, _, rfl, ?_⟩
    refine ⟨_, rfl, p, n3, rfl, hp3, by omega, fun am n4 H4 e0 e1 hn4 hp4 k4 => ?_⟩
    refine ⟨_, rfl, p, n4, _, rfl, hp4, by omega, by decide, by decide, fun d5 n5 H5 _ _ hn5 hp5 k5 => ?_⟩
    refine ⟨rfl, ?_⟩
    refine ⟨_, rfl, p, n5, _, rfl, hp5, by omega, by decide, by decide, fun d6 n6 H6 _ _ hn6 hp6 k6 => ?_⟩
    refine ⟨rfl, ?_⟩
    refine ⟨_, _, _, rfl, ?_⟩
    refine ⟨_, rfl, _, rfl, _, rfl, _, rfl, _, rfl, _, rfl, _, rfl, ?_⟩
    have rok : ∀ bk : Bool, (bk = true → 1 < 1 + d1) → Row.Ok ⟨d2, d3, 1 + d1, am, decide (V.int d5 = V.int 0), bk⟩ := fun bk hb =>
      ⟨b0, c0, by show 1 ≤ 1 + d1; omega, by show d2 + (1 + d1) ≤ 10 ^ 30; omega, by show d3 + (1 + d1) ≤ 10 ^ 30; omega, by show -(10 ^ 60) < am; omega, by show am < 10 ^ 60; omega, hb⟩
    have kp : Keep p H H6 := ((((k1.trans k2).trans k3).trans k4).trans k5).trans k6
    refine ite2 (fun c => ?_) (fun c => ?_)
    · refine ⟨_, rfl, _, _, rfl, rfl, by show 6 ≤ sizeLine; decide, fun q hq => ?_⟩
      have nq : H q = none := free_of kp hp hq hp6
      refine k _ q n6 _ (rok (decide (1 < 1 + d1)) fun h => of_decide_eq_true h) (by show d2 + (1 + d1) ≤ z; omega) (by show d3 + (1 + d1) ≤ z; omega) e0 e1 (by omega) (hp6.new hq) (kp.new hq) upd_same nq
    · refine ⟨by show 6 ≤ sizeLine; decide, fun q hq => ?_⟩
      have nq : H q = none := free_of kp hp hq hp6
      refine k _ q n6 _ (rok false fun h => by cases h) (by show d2 + (1 + d1) ≤ z; omega) (by show d3 + (1 + d1) ≤ z; omega) e0 e1 (by omega) (hp6.new hq) (kp.new hq) upd_same nq
end
end TT

set_option Elab.async false
set_option linter.all false
set_option maxRecDepth 100000
set_option maxHeartbeats 4000000
namespace TT
open PySem PySem.Spec PyProof.Rows L2
/-! ### integers -/
/-- whether a value is an int and no bool -/
def Whole (K : PySem.W.Frag) (H : Hp) (x : V) (b : Bool) : Prop := ∃ (t : Value) (b1 b2 : Bool), TyX K H x t ∧ PySem.W.kitOne K t (.type "int") = some b1 ∧ PySem.W.kitOne K t (.type "bool") = some b2 ∧ (b1 && !b2) = b
theorem whole_int {K : PySem.W.Frag} {H : Hp} (i : Int) : Whole K H (.int i) true := ⟨_, true, false, .base (.int i), kit_ty (by decide +kernel), kit_ty (by decide +kernel), rfl⟩
def sp_is_whole (K : PySem.W.Frag) : Sp := fun vs H Q _ => ∃ (x : V) (b : Bool), vs = [x] ∧ Whole K H x b ∧ Q (.bl b) H
def sp_is_from (K : PySem.W.Frag) : Sp := fun vs H Q _ => (∃ v l : Int, vs = [.int v, .int l] ∧ Q (.bl (decide (l ≤ v))) H) ∨ ∃ x l : V, vs = [x, l] ∧ Whole K H x false ∧ Q (.bl false) H
def sp_is_between (K : PySem.W.Frag) : Sp := fun vs H Q _ => (∃ v l g : Int, vs = [.int v, .int l, .int g] ∧ Q (.bl (decide (l ≤ v) && decide (v ≤ g))) H) ∨ ∃ x l g : V, vs = [x, l, g] ∧ Whole K H x false ∧ Q (.bl false) H
/-- written(n), n below 10 ^ 64 in size: as Python writes it -/
def shownInt (n : Int) : Str := if n < 0 then Str.ofString "-" ++ Str.ofString (toString (-n)) else Str.ofString (toString n)
def sp_written0 : Sp := fun vs H Q _ => ∃ n : Int, vs = [.int n] ∧ 0 ≤ n ∧ n < 10 ^ 64 ∧ ∀ H', Same H H' → Q (.str (Str.ofString (toString n))) H'
def sp_written : Sp := fun vs H Q _ => ∃ n : Int, vs = [.int n] ∧ -(10 ^ 64) < n ∧ n < 10 ^ 64 ∧ ∀ H', Same H H' → Q (.str (shownInt n)) H'
theorem FnOk.or {P : Program} {w : World} {K : PySem.W.Frag} {mg : Str → Option Value} {base : Heap} {CX : CXT} {k : Nat} {f : Addr} {fd : FuncData} {ps : List Str} {sp sp' : Sp} (F : FnOk P w K mg base CX k f fd ps sp) (G : FnOk P w K mg base CX k f fd ps sp') :
    FnOk P w K mg base CX k f fd ps (fun vs H Q E => sp vs H Q E ∨ sp' vs H Q E) :=
  ⟨fun vs H Q E h => h.elim (F.len _ _ _ _) (G.len _ _ _ _), fun A outer s H args us vs Q E r e b v h => h.elim (F.run A outer s H args us vs Q E r e b v) (G.run A outer s H args us vs Q E r e b v)⟩
theorem log_lt {n : Int} (h0 : 0 ≤ n) (h : n < 10 ^ 64) : n.natAbs.log2 < 1920 := PySem.Flt.log2_lt_of (by decide) (by
  have : (10 : Int) ^ 64 < 2 ^ 1920 := by decide +kernel
  omega)
theorem ge_chunk {n : Int} (h : n < 10 ^ 64) : decide ((10000000000000000000000000000000000000000000000000000000000000000 : Int) ≤ n) = false := decide_eq_false (by
  have e : (10 : Int) ^ 64 = 10000000000000000000000000000000000000000000000000000000000000000 := by decide +kernel
  omega)
theorem join1 (x : Str) : Txt.join (Str.ofString "") [x] = x := by
  first | rfl | simp [Txt.join]
section
variable {P : Program} {w : World} {K : PySem.W.Frag} {mg : Str → Option Value} {base : Heap} {Z : Zs}
theorem ok_is_whole (T : Txt K mg Z) : FnOk P w K mg base CX0 1 Z.f_is_whole Z.d_is_whole ["value"] (sp_is_whole K) := by
  refine T.F_is_whole.ok sc_is_whole (fun vs H Q E h => ?_) (fun cdv A outer s H vs Q E hr h => ?_)
  · obtain ⟨x, b, rfl, _⟩ := h
    rfl
  · obtain ⟨x, b, rfl, ⟨t, b1, b2, ty, e1, e2, e3⟩, k⟩ := h
    refine ⟨_, (pss_one (ps_ret (pe_and (pe_callB  call_isi (by rfl) T.b_isinstance (by decide +kernel) (pa_cons (pv 0) (pa_cons (pe_bltn (v := .ty "int") rfl T.b_int (by decide +kernel) rfl) pa_nil))) (pe_one (pe_not (pe_callB  call_isi (by rfl) T.b_isinstance (by decide +kernel) (pa_cons (pv 0) (pa_cons (pe_bltn (v := .ty "bool") rfl T.b_bool (by decide +kernel) rfl) pa_nil)))))))), ?_⟩
    refine ⟨_, rfl, _, _, t, _, b1, rfl, .ty "int", ty, e1, _, rfl, ?_⟩
    subst e3
    cases b1 with
    | true => exact iteT ⟨_, rfl, _, _, t, _, b2, rfl, .ty "bool", ty, e2, _, rfl, k⟩
    | false => exact iteF k
theorem ok_is_from (T : Txt K mg Z) : FnOk P w K mg base CX0 2 Z.f_is_from Z.d_is_from ["value", "least"] (sp_is_from K) := by
  refine T.F_is_from.ok sc_is_from (fun vs H Q E h => ?_) (fun cdv A outer s H vs Q E hr h => ?_)
  · rcases h with ⟨v, l, rfl, _⟩ | ⟨x, l, rfl, _⟩ <;> rfl
  · rcases h with ⟨v, l, rfl, k⟩ | ⟨x, l, rfl, hw, k⟩
    · refine ⟨_, (pss_one (ps_ret (pe_and (pe_call (ok_is_whole T) (hr.mono (by decide)) rfl T.g_is_whole T.k_is_whole T.bn_is_whole .nil pass0 (pa_cons (pv 0) pa_nil)) (pe_one (pe_cmpR op_ge (pv 0) (pv 1) (nomark _)))))), ?_⟩
      exact ⟨_, rfl, _, true, rfl, whole_int v, true, rfl, iteT ⟨_, rfl, _, rfl, _, _, rfl, rfl, k⟩⟩
    · refine ⟨_, (pss_one (ps_ret (pe_and (pe_call (ok_is_whole T) (hr.mono (by decide)) rfl T.g_is_whole T.k_is_whole T.bn_is_whole .nil pass0 (pa_cons (pv 0) pa_nil)) (pe_one (pe_cmpR op_ge (pv 0) (pv 1) (nomark _)))))), ?_⟩
      exact ⟨_, rfl, _, false, rfl, hw, false, rfl, iteF k⟩
theorem ok_is_between (T : Txt K mg Z) : FnOk P w K mg base CX0 3 Z.f_is_between Z.d_is_between ["value", "least", "greatest"] (sp_is_between K) := by
  refine T.F_is_between.ok sc_is_between (fun vs H Q E h => ?_) (fun cdv A outer s H vs Q E hr h => ?_)
  · rcases h with ⟨v, l, g, rfl, _⟩ | ⟨x, l, g, rfl, _⟩ <;> rfl
  · rcases h with ⟨v, l, g, rfl, k⟩ | ⟨x, l, g, rfl, hw, k⟩
    · refine ⟨_, (pss_one (ps_ret (pe_and (pe_call (ok_is_from T) (hr.mono (by decide)) rfl T.g_is_from T.k_is_from T.bn_is_from .nil pass0 (pa_cons (pv 0) (pa_cons (pv 1) pa_nil))) (pe_one (pe_cmpR op_le (pv 0) (pv 2) (nomark _)))))), ?_⟩
      refine ⟨_, rfl, _, rfl, .inl ⟨v, l, rfl, _, rfl, ?_⟩⟩
      cases e : decide (l ≤ v) with
      | true =>
        rw [e] at k
        exact iteT ⟨_, rfl, _, rfl, _, _, rfl, rfl, k⟩
      | false =>
        rw [e] at k
        exact iteF k
    · refine ⟨_, (pss_one (ps_ret (pe_and (pe_call (ok_is_from T) (hr.mono (by decide)) rfl T.g_is_from T.k_is_from T.bn_is_from .nil pass0 (pa_cons (pv 0) (pa_cons (pv 1) pa_nil))) (pe_one (pe_cmpR op_le (pv 0) (pv 2) (nomark _)))))), ?_⟩
      exact ⟨_, rfl, _, rfl, .inr ⟨x, l, rfl, hw, false, rfl, iteF k⟩⟩
theorem ok_written0 (T : Txt K mg Z) : FnOk P w K mg base CX0 1 Z.f_written Z.d_written ["number"] sp_written0 := by
  refine T.F_written.ok sc_written (fun vs H Q E h => ?_) (fun cdv A outer s H vs Q E hr h => ?_)
  · obtain ⟨n, rfl, _⟩ := h
    rfl
  · obtain ⟨n, rfl, n0, n1, k⟩ := h
    refine ⟨_, (pss_cons (ps_if (pt_cmpR op_lt (pv 0) pe_int (nomark _)) pss_never pss_nil)
      (pss_cons (ps_set (i := 1) sc_written.nd rfl (Or.inl rfl) (pv 0))
      (pss_cons (ps_set (i := 2) sc_written.nd rfl (Or.inl rfl) (pe_lst pa_nil))
      (pss_cons (ps_while PassesOwn.never (pt_cmpR op_ge (pv 1) (pe_glob (v := .int 10000000000000000000000000000000000000000000000000000000000000000) rfl T.c__CHUNK ⟨_, rfl⟩) (nomark _)) pss_never)
      (pss_cons (ps_expr (pe_bm PySem.F.plainAttrs_list PySem.F.slot_list_append PySem.F.type_list_append mt_append (pv 2) (pa_cons (pe_callTy call_str_int (by rfl) T.b_str (by decide +kernel) (pa_cons (pv 1) pa_nil)) pa_nil)))
      (pss_one (ps_ret (pe_join pe_str (pe_revL (pv 2)))))))))), ?_⟩
    refine ⟨_, rfl, _, _, rfl, rfl, _, rfl, ?_⟩
    rw [decide_eq_false (by omega : ¬ n < 0)]
    refine iteF ⟨_, rfl, by show 0 ≤ sizeLine; exact Nat.zero_le _, fun q hq => ?_⟩
    refine while_by (fun σ H2 => σ = [some (.int n), some (.int n), some (.ref q)] ∧ H2 = upd H q (.lst [])) (fun _ _ => 0) ⟨rfl, rfl⟩ ?_ ?_
    · rintro σ H2 ⟨rfl, rfl⟩
      refine ⟨_, rfl, _, _, rfl, rfl, _, rfl, ?_⟩
      rw [ge_chunk n1]
      refine iteF ?_
      refine ⟨_, rfl, .inl ⟨rfl, _, SqL.of upd_same⟩, _, rfl, _, rfl, log_lt n0 n1, q, _, _, rfl, rfl, upd_same, (by show 0 < sizeLine; decide), ?_⟩
      have n640 : (Str.ofString (toString n)).length ≤ 64 := toString_length_le n0 (by decide) n1
      refine ⟨⟨_, rfl⟩, _, rfl, q, _, rfl, SqL.of upd_same, fun p2 hp2 => ⟨_, p2, [Str.ofString (toString n)], rfl, rfl, .inl (SqL.of upd_same), ?_, ?_⟩⟩
      · show (Str.ofString (toString n)).length + 0 + 1 * 0 ≤ 16777216
        omega
      · rw [join1]
        refine k _ (Same.new (fun b o e => ?_) hp2)
        rw [upd_ne (ne_of_none e hq), upd_ne (ne_of_none e hq)]
        exact e
    · rintro σ H2 Q1 Q2 hQ ⟨v, e, i, j, e1, e2, b, e3, q1⟩
      exact ⟨v, e, i, j, e1, e2, b, e3, hQ _ _ q1⟩
theorem ok_written (T : Txt K mg Z) : FnOk P w K mg base CX0 2 Z.f_written Z.d_written ["number"] sp_written := by
  have neg : FnOk P w K mg base CX0 2 Z.f_written Z.d_written ["number"] (fun vs H Q _ => ∃ n : Int, vs = [.int n] ∧ -(10 ^ 64) < n ∧ n < 0 ∧ ∀ H', Same H H' → Q (.str (shownInt n)) H') := by
    refine T.F_written.ok sc_written (fun vs H Q E h => ?_) (fun cdv A outer s H vs Q E hr h => ?_)
    · obtain ⟨n, rfl, _⟩ := h
      rfl
    · obtain ⟨n, rfl, n0, n1, k⟩ := h
      refine ⟨_, (pss_cons (ps_if (pt_cmpR op_lt (pv 0) pe_int (nomark _)) (pss_one (ps_ret (pe_joined (.cons pe_str (.cons (pe_fmt (pe_call (ok_written0 T) (hr.mono (by decide)) rfl T.g_written T.k_written T.bn_written .nil pass0 (pa_cons (pe_un un_neg (pv 0)) pa_nil))) .nil))))) pss_nil) pss_never), ?_⟩
      refine ⟨_, rfl, _, _, rfl, rfl, _, rfl, ?_⟩
      rw [decide_eq_true (by omega : n < 0)]
      have sz : (Str.ofString (toString (-n))).length ≤ 64 := toString_length_le (by omega) (by decide) (by omega)
      have sl : sizeLine = 16777216 := sizeLine_eq
      refine iteT ⟨_, rfl, by decide, _, rfl, _, rfl, -n, rfl, by omega, by omega, fun H' sm => .inl ⟨_, rfl, by omega, _, rfl, ?_, ?_⟩⟩
      · rw [Str.length_append, Str.length_append]
        have : Str.empty.length = 0 := rfl
        have : (Str.ofString "-").length = 1 := by decide
        omega
      · have e : Str.empty ++ Str.ofString "-" ++ Str.ofString (toString (-n)) = shownInt n := by
          unfold shownInt
          rw [if_pos n1]
          rfl
        rw [e]
        exact k H' sm
  have pos : FnOk P w K mg base CX0 2 Z.f_written Z.d_written ["number"] sp_written0 := (ok_written0 T).mono (by decide)
  refine (FnOk.or neg pos).imp fun vs H Q E h => ?_
  obtain ⟨n, rfl, n0, n1, k⟩ := h
  by_cases c : n < 0
  · exact .inl ⟨n, rfl, n0, c, k⟩
  · refine .inr ⟨n, rfl, by omega, n1, fun H' sm => ?_⟩
    have := k H' sm
    rw [shownInt, if_neg c] at this
    exact this
end
end TT

set_option Elab.async false
set_option linter.all false
set_option maxRecDepth 100000
set_option maxHeartbeats 4000000
namespace TT
open PySem PySem.Spec PyProof.Rows L2
/-! ### ties -/
def way (b : Bool) : Str := if b = true then Str.ofString "down" else Str.ofString "up"
def backs (b : Bool) : Str := if b = true then Str.ofString " back" else Str.ofString ""
def tieText (r : Row) : Str := Str.empty ++ Str.ofString (toString r.f) ++ Str.ofString " " ++ Str.ofString (toString r.s) ++ Str.ofString " " ++ Str.ofString (toString r.l) ++ Str.ofString " " ++ way r.d ++ Str.ofString " " ++ shownInt r.a ++ backs r.b
/-- the attributes of a tie, in the sequence in which __init__ stores them -/
def fs1 (r : Row) : List (Str × V) := putF "first" (.int r.f) []
def fs2 (r : Row) : List (Str × V) := putF "second" (.int r.s) (fs1 r)
def fs3 (r : Row) : List (Str × V) := putF "length" (.int r.l) (fs2 r)
def fs4 (r : Row) : List (Str × V) := putF "amount" (.int r.a) (fs3 r)
def fs5 (r : Row) : List (Str × V) := putF "down" (.bl r.d) (fs4 r)
def fs6 (r : Row) : List (Str × V) := putF "backward" (.bl r.b) (fs5 r)
def tfs (r : Row) : List (Str × V) := putF "text" (.str (tieText r)) (fs6 r)
theorem len_putF {f : Str} {v : V} {fs : List (Str × V)} {n : Nat} (h : fs.length ≤ n) : (putF f v fs).length ≤ n + 1 := Nat.le_trans (length_putF f v fs) (Nat.succ_le_succ h)
theorem len1 (r : Row) : (fs1 r).length ≤ 1 := len_putF (Nat.le_refl 0)
theorem len2 (r : Row) : (fs2 r).length ≤ 2 := len_putF (len1 r)
theorem len3 (r : Row) : (fs3 r).length ≤ 3 := len_putF (len2 r)
theorem len4 (r : Row) : (fs4 r).length ≤ 4 := len_putF (len3 r)
theorem len5 (r : Row) : (fs5 r).length ≤ 5 := len_putF (len4 r)
theorem len6 (r : Row) : (fs6 r).length ≤ 6 := len_putF (len5 r)
theorem tfs_lookup (r : Row) (g : Str) : (tfs r).lookup g = if g = "text" then some (.str (tieText r)) else if g = "backward" then some (.bl r.b) else if g = "down" then some (.bl r.d) else if g = "amount" then some (.int r.a) else
    if g = "length" then some (.int r.l) else if g = "second" then some (.int r.s) else if g = "first" then some (.int r.f) else none := by
  unfold tfs fs6 fs5 fs4 fs3 fs2 fs1
  rw [lookup_putF, lookup_putF, lookup_putF, lookup_putF, lookup_putF, lookup_putF, lookup_putF]
  rfl
theorem fs6_backward (r : Row) : (fs6 r).lookup ("backward" : Str) = some (.bl r.b) := by
  unfold fs6
  rw [lookup_putF, if_pos rfl]
theorem tfs_text (r : Row) : (tfs r).lookup ("text" : Str) = some (.str (tieText r)) := by rw [tfs_lookup, if_pos rfl]
theorem tfs_backward (r : Row) : (tfs r).lookup ("backward" : Str) = some (.bl r.b) := by rw [tfs_lookup, if_neg (by decide +kernel), if_pos rfl]
theorem tfs_down (r : Row) : (tfs r).lookup ("down" : Str) = some (.bl r.d) := by rw [tfs_lookup, if_neg (by decide +kernel), if_neg (by decide +kernel), if_pos rfl]
theorem tfs_amount (r : Row) : (tfs r).lookup ("amount" : Str) = some (.int r.a) := by rw [tfs_lookup, if_neg (by decide +kernel), if_neg (by decide +kernel), if_neg (by decide +kernel), if_pos rfl]
theorem tfs_length (r : Row) : (tfs r).lookup ("length" : Str) = some (.int r.l) := by rw [tfs_lookup, if_neg (by decide +kernel), if_neg (by decide +kernel), if_neg (by decide +kernel), if_neg (by decide +kernel), if_pos rfl]
theorem tfs_second (r : Row) : (tfs r).lookup ("second" : Str) = some (.int r.s) := by rw [tfs_lookup, if_neg (by decide +kernel), if_neg (by decide +kernel), if_neg (by decide +kernel), if_neg (by decide +kernel), if_neg (by decide +kernel), if_pos rfl]
theorem tfs_first (r : Row) : (tfs r).lookup ("first" : Str) = some (.int r.f) := by rw [tfs_lookup, if_neg (by decide +kernel), if_neg (by decide +kernel), if_neg (by decide +kernel), if_neg (by decide +kernel), if_neg (by decide +kernel), if_neg (by decide +kernel), if_pos rfl]
/-- a tie of the six values stands at q -/
def TieAt (C : Addr) (H : Hp) (q : Addr) (r : Row) : Prop := ∃ dx, H q = some (.ins C dx (tfs r))
def sp_check_parts : Sp := fun vs H Q _ => ∃ f s l : Int, vs = [.int f, .int s, .int l] ∧ 0 ≤ f ∧ 0 ≤ s ∧ 1 ≤ l ∧ f + l ≤ 10 ^ 30 ∧ s + l ≤ 10 ^ 30 ∧ Q .non H
def sp_check_leading : Sp := fun vs H Q _ => ∃ (a : Int) (d b : Bool), vs = [.int a, .bl d, .bl b] ∧ Q .non H
/-- a tie of these values is made -/
def sp_T_init (C : Addr) : Sp := fun vs H Q _ => ∃ (p dx : Addr) (r : Row) (b : Bool), vs = [.ref p, .int r.f, .int r.s, .int r.l, .int r.a, .bl r.d, .bl b] ∧ r.Ok ∧ r.b = (b && decide (1 < r.l)) ∧ H p = some (.ins C dx []) ∧
  ∀ H', H' p = some (.ins C dx (tfs r)) → Keep p H H' → Q .non H'
theorem share0 {T G : Prop} (h : T → G) (t : T) : G := h t
local macro_rules | `(tactic| walk_at "len") => `(tactic| ((try simp only [Str.length_append]); omega))
theorem shown_len {n : Int} (h0 : -(10 ^ 64) < n) (h1 : n < 10 ^ 64) : (shownInt n).length ≤ 66 := by
  unfold shownInt
  split
  · have := toString_length_le (v := -n) (by omega) (k := 64) (by decide) (by omega)
    have e : (Str.ofString "-").length = 1 := by decide
    rw [Str.length_append]
    omega
  · have := toString_length_le (v := n) (by omega) (k := 64) (by decide) h1
    omega
section
variable {P : Program} {w : World} {K : PySem.W.Frag} {mg : Str → Option Value} {base : Heap} {Z : Zs}
theorem ok_check_parts (T : Txt K mg Z) : FnOk P w K mg base CX0 3 Z.f_check_parts Z.d_check_parts ["first", "second", "length"] sp_check_parts := by
  refine T.F_check_parts.ok sc_check_parts (fun vs H Q E h => ?_) (fun cdv A outer s H vs Q E hr h => ?_)
  · obtain ⟨f, g, l, rfl, _⟩ := h
    rfl
  · obtain ⟨f, g, l, rfl, f0, g0, l0, fe, ge, k⟩ := h
    refine ⟨_, (pss_cons (ps_if (pt_not (pt_val (pe_call (ok_is_from T) (hr.mono (by decide)) rfl T.g_is_from T.k_is_from T.bn_is_from .nil pass0 (pa_cons (pv 0) (pa_cons pe_int pa_nil))))) (pss_one ps_never) pss_nil)
      (pss_cons (ps_if (pt_not (pt_val (pe_call (ok_is_from T) (hr.mono (by decide)) rfl T.g_is_from T.k_is_from T.bn_is_from .nil pass0 (pa_cons (pv 1) (pa_cons pe_int pa_nil))))) (pss_one ps_never) pss_nil)
      (pss_one (ps_if (PW.pt (pw_or (pt_not (pt_val (pe_call (ok_is_from T) (hr.mono (by decide)) rfl T.g_is_from T.k_is_from T.bn_is_from .nil pass0 (pa_cons (pv 2) (pa_cons pe_int pa_nil))))) (pw_or1 (pt_cmpR op_gt (pe_op op_add (pe_callB  (call_max2 rfl) (by rfl) T.b_max (by decide +kernel) (pa_cons (pv 0) (pa_cons (pv 1) pa_nil))) (pv 2)) (pe_glob (v := .int 1000000000000000000000000000000) rfl T.c_GREATEST ⟨_, rfl⟩) (nomark _))))) (pss_one ps_never) pss_nil)))), ?_⟩
    refine ⟨_, rfl, .inl ⟨f, 0, rfl, true, by rw [decide_eq_true f0], iteF ?_⟩⟩
    refine ⟨_, rfl, .inl ⟨g, 0, rfl, true, by rw [decide_eq_true g0], iteF ?_⟩⟩
    refine ⟨_, rfl, .inl ⟨l, 1, rfl, true, by rw [decide_eq_true l0], iteF ?_⟩⟩
    refine ⟨_, rfl, _, rfl, _, _, rfl, _, rfl, _, _, rfl, rfl, _, _, rfl, rfl, _, rfl, ?_⟩
    rw [decide_eq_false]
    · exact iteF k
    · have e : (10 : Int) ^ 30 = 1000000000000000000000000000000 := by decide +kernel
      split <;> omega
theorem ok_check_leading (T : Txt K mg Z) : FnOk P w K mg base CX0 2 Z.f_check_leading Z.d_check_leading ["amount", "down", "backward"] sp_check_leading := by
  refine T.F_check_leading.ok sc_check_leading (fun vs H Q E h => ?_) (fun cdv A outer s H vs Q E hr h => ?_)
  · obtain ⟨a, d, b, rfl, _⟩ := h
    rfl
  · obtain ⟨a, d, b, rfl, k⟩ := h
    refine ⟨_, (pss_cons (ps_if (pt_not (pt_val (pe_call (ok_is_whole T) (hr.mono (by decide)) rfl T.g_is_whole T.k_is_whole T.bn_is_whole .nil pass0 (pa_cons (pv 0) pa_nil)))) (pss_one ps_never) pss_nil)
      (pss_cons (ps_if (pt_not (pt_val (pe_callB  call_isi (by rfl) T.b_isinstance (by decide +kernel) (pa_cons (pv 1) (pa_cons (pe_bltn (v := .ty "bool") rfl T.b_bool (by decide +kernel) rfl) pa_nil))))) (pss_one ps_never) pss_nil)
      (pss_one (ps_if (pt_not (pt_val (pe_callB  call_isi (by rfl) T.b_isinstance (by decide +kernel) (pa_cons (pv 2) (pa_cons (pe_bltn (v := .ty "bool") rfl T.b_bool (by decide +kernel) rfl) pa_nil))))) (pss_one ps_never) pss_nil)))), ?_⟩
    refine ⟨_, rfl, _, true, rfl, whole_int a, true, rfl, iteF ?_⟩
    refine ⟨_, rfl, _, _, _, _, true, rfl, .ty "bool", .base (.bl d), kit_ty (by decide +kernel), true, rfl, iteF ?_⟩
    exact ⟨_, rfl, _, _, _, _, true, rfl, .ty "bool", .base (.bl b), kit_ty (by decide +kernel), true, rfl, iteF k⟩
theorem ok_T_init (T : Txt K mg Z) : FnOk P w K mg base CX0 4 Z.f_T_init Z.d_T_init ["self", "first", "second", "length", "amount", "down", "backward"] (sp_T_init Z.cC) := by
  refine T.F_T_init.ok sc_T_init (fun vs H Q E h => ?_) (fun cdv A outer s H vs Q E hr h => ?_)
  · obtain ⟨p, dx, r, b, rfl, _⟩ := h
    rfl
  · obtain ⟨p, dx, r, b, rfl, ok, hb, hp, k⟩ := h
    refine ⟨_, (pss_cons (ps_expr (pe_call (ok_check_parts T) (hr.mono (by decide)) rfl T.g_check_parts T.k_check_parts T.bn_check_parts .nil pass0 (pa_cons (pv 1) (pa_cons (pv 2) (pa_cons (pv 3) pa_nil)))))
      (pss_cons (ps_expr (pe_call (ok_check_leading T) (hr.mono (by decide)) rfl T.g_check_leading T.k_check_leading T.bn_check_leading .nil pass0 (pa_cons (pv 4) (pa_cons (pv 5) (pa_cons (pv 6) pa_nil)))))
      (pss_cons (ps_fld (pv 0) (pv 1) rfl)
      (pss_cons (ps_fld (pv 0) (pv 2) rfl)
      (pss_cons (ps_fld (pv 0) (pv 3) rfl)
      (pss_cons (ps_fld (pv 0) (pv 4) rfl)
      (pss_cons (ps_fld (pv 0) (pv 5) rfl)
      (pss_cons (ps_fld (pv 0) (pe_and (pv 6) (pe_one (pe_cmpR op_gt (pv 3) pe_int (nomark _)))) rfl)
      (pss_cons (ps_set (i := 7) sc_T_init.nd rfl (Or.inl rfl) (pe_ifExp (pt_val (pv 5)) pe_str pe_str))
      (pss_cons (ps_set (i := 8) sc_T_init.nd rfl (Or.inl rfl) (pe_ifExp (pt_val (pe_fld (pv 0) rfl)) pe_str pe_str))
      (pss_one (ps_fld (pv 0) (pe_joined (.cons (pe_fmt (pv 1)) (.cons pe_str (.cons (pe_fmt (pv 2)) (.cons pe_str (.cons (pe_fmt (pv 3)) (.cons pe_str (.cons (pe_fmt (pv 7)) (.cons pe_str (.cons (pe_fmt (pe_call (ok_written T) (hr.mono (by decide)) rfl T.g_written T.k_written T.bn_written .nil pass0 (pa_cons (pv 4) pa_nil))) (.cons (pe_fmt (pv 8)) .nil))))))))))) rfl)))))))))))), ?_⟩
    refine ⟨_, rfl, _, rfl, _, rfl, _, _, _, rfl, ok.f0, ok.s0, ok.l0, ok.fe, ok.se, ?_⟩
    refine ⟨_, rfl, _, rfl, _, rfl, _, _, _, rfl, ?_⟩
    refine ⟨_, rfl, _, rfl, p, _, dx, _, rfl, hp, T.cl, T.n_first, (by decide : 0 < 1000), ?_⟩
    refine ⟨_, rfl, _, rfl, p, _, dx, _, rfl, upd_same, T.cl, T.n_second, Nat.lt_of_le_of_lt (len1 r) (by decide), ?_⟩
    refine ⟨_, rfl, _, rfl, p, _, dx, _, rfl, upd_same, T.cl, T.n_length, Nat.lt_of_le_of_lt (len2 r) (by decide), ?_⟩
    refine ⟨_, rfl, _, rfl, p, _, dx, _, rfl, upd_same, T.cl, T.n_amount, Nat.lt_of_le_of_lt (len3 r) (by decide), ?_⟩
    refine ⟨_, rfl, _, rfl, p, _, dx, _, rfl, upd_same, T.cl, T.n_down, Nat.lt_of_le_of_lt (len4 r) (by decide), ?_⟩
    refine ⟨_, rfl, b, rfl, ?_⟩
    refine' share0 (fun tail => ite2 (fun c => ?b1) (fun c => ?b2)) ?b3
    case b1 =>
      refine ⟨_, rfl, _, _, rfl, rfl, ?_⟩
      have e : decide (1 < r.l) = r.b := by rw [hb, c] <;> rfl
      dsimp only
      rw [e]
      exact tail
    case b2 =>
      have e : V.bl false = V.bl r.b := by
        cases b with
        | true => exact absurd rfl c
        | false => rw [hb] <;> rfl
      dsimp only
      rw [e]
      exact tail
    case b3 =>
      have sl : sizeLine = 16777216 := sizeLine_eq
      have l30 : (10 : Int) ^ 30 < 10 ^ 31 := by decide +kernel
      have l64 : (10 : Int) ^ 60 < 10 ^ 64 := by decide +kernel
      have hf := ok.f0; have hs := ok.s0; have hl := ok.l0; have hfe := ok.fe; have hse := ok.se
      have ll1 := ok.al; have ll2 := ok.ah
      have zf : (Str.ofString (toString r.f)).length ≤ 31 := toString_length_le hf (by decide) (by omega)
      have zs : (Str.ofString (toString r.s)).length ≤ 31 := toString_length_le hs (by decide) (by omega)
      have zl : (Str.ofString (toString r.l)).length ≤ 31 := toString_length_le (by omega) (by decide) (by omega)
      have za : (shownInt r.a).length ≤ 66 := shown_len (by omega) (by omega)
      have z0 : Str.empty.length = 0 := rfl
      have z1 : (Str.ofString " ").length = 1 := by decide
      have zw : (Str.ofString "down").length = 4 := by decide
      have zu : (Str.ofString "up").length = 2 := by decide
      have zb : (Str.ofString " back").length = 5 := by decide
      have ze : (Str.ofString "").length = 0 := by decide
      have gf : r.f.natAbs.log2 < 1920 := log_lt hf (by omega)
      have gs : r.s.natAbs.log2 < 1920 := log_lt hs (by omega)
      have gl : r.l.natAbs.log2 < 1920 := log_lt (by omega) (by omega)
      refine ⟨_, rfl, p, _, dx, _, rfl, upd_same, T.cl, T.n_backward, Nat.lt_of_le_of_lt (len5 r) (by decide), _, rfl, r.d, rfl, ?_⟩
      refine ite2 (fun c1 => ?_) (fun c1 => ?_)
      all_goals
        refine ⟨_, rfl, p, _, dx, _, _, rfl, upd_same, T.cl, T.n_backward, fs6_backward r, r.b, rfl, ?_⟩
        refine ite2 (fun c2 => ?_) (fun c2 => ?_)
      all_goals
        refine ⟨_, rfl, .inr ⟨r.f, rfl, gf, _, rfl, by walk_at "len", _, rfl, by walk_at "len", ?_⟩⟩
        refine ⟨_, rfl, .inr ⟨r.s, rfl, gs, _, rfl, by walk_at "len", _, rfl, by walk_at "len", ?_⟩⟩
        refine ⟨_, rfl, .inr ⟨r.l, rfl, gl, _, rfl, by walk_at "len", _, rfl, by walk_at "len", ?_⟩⟩
        refine ⟨_, rfl, .inl ⟨_, rfl, by walk_at "len", _, rfl, by walk_at "len", _, rfl, by walk_at "len", ?_⟩⟩
        refine ⟨_, rfl, r.a, rfl, by omega, by omega, fun H' sm => .inl ⟨_, rfl, by walk_at "len", _, rfl, by walk_at "len", ?_⟩⟩
        refine ⟨_, rfl, .inl ⟨_, rfl, by walk_at "len", _, rfl, by walk_at "len", ?_⟩⟩
        refine ⟨_, rfl, p, _, dx, _, rfl, sm _ _ upd_same, T.cl, T.n_text, Nat.lt_of_le_of_lt (len6 r) (by decide), ?_⟩
        refine k _ ?_ ?_
        · have e : tieText r = Str.empty ++ Str.ofString (toString r.f) ++ Str.ofString " " ++ Str.ofString (toString r.s) ++ Str.ofString " " ++ Str.ofString (toString r.l) ++ Str.ofString " " ++ way r.d ++ Str.ofString " " ++ shownInt r.a ++ backs r.b := rfl
          simp only [way, backs, c1, c2, if_true, if_false, Bool.false_eq_true] at e
          unfold tfs
          rw [e]
          exact upd_same
        · intro q o n h
          rw [upd_ne n]
          refine sm _ _ ?_
          rw [upd_ne n, upd_ne n, upd_ne n, upd_ne n, upd_ne n, upd_ne n]
          exact h
end
end TT

namespace TT
open PySem PySem.Spec PyProof.Rows L2
/-! ### the errors are made -/
/-- in a dict of its own, that was not there -/
def sp_E_init (K : PySem.W.Frag) (Z : Zs) : Sp := fun vs H Q _ => ∃ (a C : Addr) (v : V), vs = [.ref a, v] ∧ H a = some (exo a C none) ∧ ExcT K (Z.c 8) Z.f_E_init C ∧
  ∀ (d : Addr) (H' : Hp), Keep a H H' → H d = none → H' a = some (exo a C (some d)) → H' d = some (exd d [("value", v)]) → Q .non H'
/-- what a def lets out: C of v -/
def Out (E : XK) (C : Addr) (v : V) (H : Hp) : Prop := ∀ (d : Addr) (H' : Hp), Same H H' → H d = none → H' d = some (.xd [("value", v)]) → E (.ref C) (some d) H'
section
variable {P : Program} {w : World} {K : PySem.W.Frag} {mg : Str → Option Value} {base : Heap} {Z : Zs}
theorem ok_E_init (T : Txt K mg Z) : FnOk P w K mg base CX0 1 Z.f_E_init Z.d_E_init ["self", "value"] (sp_E_init K Z) := by
  refine T.F_E_init.ok sc_E_init (fun vs H Q E h => ?_) (fun cdv A outer s H vs Q E hr h => ?_)
  · obtain ⟨a, C, v, rfl, _⟩ := h
    rfl
  · obtain ⟨a, C, v, rfl, ha, X, k⟩ := h
    refine ⟨_, (pss_cons (ps_expr (pe_veinit rfl T.b_ValueError T.z_ve (pa_cons (pv 0) (pa_cons (pv 1) pa_nil))))
      (pss_one (ps_ost (pv 0) (pv 1)))), ?_⟩
    refine ⟨_, rfl, _, rfl, a, C, [v], rfl, by show 1 ≤ 1000; decide, X.ox, ha, ?_⟩
    refine ⟨_, rfl, _, rfl, a, C, rfl, X.ox, X.nv, .inl ⟨ha, fun d hd hne => ?_⟩⟩
    refine k d _ (fun b o n e => ?_) hd upd_same ?_
    · rw [upd_ne n, upd_ne (ne_of_none e hd)]
      exact e
    · rw [upd_ne hne]
      exact upd_same
/-- raise C(x): what its reading asks -/
theorem mkR {C : Addr} {x : V} {E : XK} {H : Hp} (T : ExcT K (Z.c 8) Z.f_E_init C) (h : Out E C x H) :
    ([x] : List V).length ≤ 1000 ∧ ∀ a, H a = none → sp_E_init K Z (.ref a :: ([x] ++ [])) (upd H a (exo a C none))
      (fun v H2 => v = .non ∧ ∃ (d : Addr) (fs : List (Str × V)), H2 a = some (exo a C (some d)) ∧ H2 d = some (exd d fs) ∧ H d = none ∧ E (.ref C) (some d) (upd (del H2 a) d (.xd fs))) (fun _ _ _ => False) := by
  refine ⟨by show 1 ≤ 1000; decide, fun a ha => ⟨a, C, x, rfl, upd_same, T, fun d H' k hd e1 e2 => ⟨rfl, d, _, e1, e2, ?_, ?_⟩⟩⟩
  · by_cases c : d = a
    · rw [c]; exact ha
    · rw [upd_ne c] at hd; exact hd
  · have nd : d ≠ a := by
      rintro rfl
      rw [upd_same] at hd
      cases hd
    rw [upd_ne nd] at hd
    refine h d _ (fun b o e => ?_) hd upd_same
    have nb := ne_of_none e ha
    rw [upd_ne (ne_of_none e hd), del_ne nb]
    exact k b o nb (by rw [upd_ne nb]; exact e)
/-- caught as a TuneError, it stands behind the suite -/
theorem Out.met {C : Addr} {v : V} {H : Hp} {G : VK} (T : ExcT K (Z.c 8) Z.f_E_init C) (Te : ExcT K (Z.c 8) Z.f_E_init (Z.c 8)) (h : ∀ a H', Same H H' → Met H' a C [("value", v)] → G (.ref a) H') :
    Out (fun cls d H' => PySem.W.exmOne K cls (.ref (Z.c 8)) = some true ∧ ∀ a, H' a = none → G (.ref a) (upd H' a (exk a cls d))) C v H := fun d H' s hd e => by
  refine ⟨T.exm Te, fun a ha => h a _ (fun b o z => ?_) ⟨d, upd_same, ?_⟩⟩
  · rw [upd_ne (ne_of_none (s _ _ z) ha)]; exact s _ _ z
  · rw [upd_ne (ne_of_none e ha)]; exact e
end
section
variable {P : Program} {w : World} {K : PySem.W.Frag} {mg : Str → Option Value} {base : Heap} {Z : Zs} {k : Nat}
end
end TT


namespace TT
open PySem PySem.Spec PyProof.Rows L2
/-- v is an int i, or none -/
inductive IsI (K : PySem.W.Frag) (H : Hp) : V → Option Int → Prop
  | int (i : Int) : IsI K H (.int i) (some i)
  | no {v : V} (h : Whole K H v false) : IsI K H v none
section
variable {P : Program} {w : World} {K : PySem.W.Frag} {mg : Str → Option Value} {base : Heap} {Z : Zs}
end
end TT


set_option Elab.async false
set_option linter.all false
set_option maxRecDepth 100000
set_option maxHeartbeats 4000000
namespace TT
open PySem PySem.Spec PyProof.Rows L2
theorem fnR_of {P : Program} {w : World} {K : PySem.W.Frag} {mg : Str → Option Value} {base : Heap} {CX : CXT} {k : Nat} {f : Addr} {fd : FuncData} {ps : List Str} {sp : Sp} (F : FnOk P w K mg base CX k f fd ps sp) (hb : Binds K fd ps []) : FnR P w K mg base CX k f sp := by
  intro A outer s H us vs Q E hr e0 rv h
  have n : us.length = ps.length := rv.length ▸ F.len _ _ _ _ h
  have b := hb s us (e0.mod.kin.keeps fun b o e => (e0.bs b o e).1) (by rw [List.append_nil]; exact n)
  rw [List.append_nil] at b
  exact F.run A outer s H ⟨us, []⟩ us vs Q E hr e0 b rv h
def partner (r : Row) (p : Int) : Int := if r.b = true then r.s + r.l - 1 - (p - r.f) else r.s + (p - r.f)
def led (r : Row) (n : Int) : Int := if r.d = true then r.a - n else r.a + n
def Row.back (r : Row) : Row := ⟨r.s, r.f, r.l, if r.d = true then r.a else -r.a, r.d, r.b⟩
theorem Row.Ok.back {r : Row} (h : r.Ok) : r.back.Ok := by
  obtain ⟨f0, s0, l0, fe, se, al, ah, bk⟩ := h
  refine ⟨s0, f0, l0, se, fe, ?_, ?_, bk⟩
  · show -(10 ^ 60) < if r.d = true then r.a else -r.a
    split <;> omega
  · show (if r.d = true then r.a else -r.a) < 10 ^ 60
    split <;> omega
theorem Same.tie {C q : Addr} {H H' : Hp} {r : Row} (k : Same H H') (h : TieAt C H q r) : TieAt C H' q r := by
  obtain ⟨dx, e⟩ := h
  exact ⟨dx, k _ _ e⟩
theorem Same.row {q : Addr} {H H' : Hp} {r : Row} (k : Same H H') (h : RowAt H q r) : RowAt H' q r := k _ _ h
/-- behind the making of a tie -/
theorem made {H H' : Hp} {x dx C : Addr} (nx : H x = none) (nd : H dx = none) (k : Keep x (upd (upd H dx (.own x)) x (.ins C dx [])) H') : Same H H' := fun b o e => by
  refine k b o (ne_of_none e nx) ?_
  rw [upd_ne (ne_of_none e nx), upd_ne (ne_of_none e nd)]
  exact e
def sp_l_tie (C : Addr) : Sp := fun vs H Q _ => ∃ (q : Addr) (r : Row), vs = [.ref q] ∧ RowAt H q r ∧ r.Ok ∧ ∀ x H', H x = none → Same H H' → TieAt C H' x r → Q (.ref x) H'
def sp_l_row_of (C : Addr) : Sp := fun vs H Q _ => ∃ (q : Addr) (r : Row), vs = [.ref q] ∧ TieAt C H q r ∧ ∀ x, H x = none → Q (.ref x) (upd H x (.tup r.vs))
def sp_l_far : Sp := fun vs H Q _ => ∃ (q : Addr) (r : Row) (z : Int), vs = [.ref q, .int z] ∧ RowAt H q r ∧ ∀ x H', H x = none → Same H H' → RowAt H' x { r with f := r.f + z, s := r.s + z } → Q (.ref x) H'
/-- two ties of the same values are equal -/
def TieEq (C : Addr) (a b : Addr) (H : Hp) : Prop := ∃ r, TieAt C H a r ∧ TieAt C H b r
section
variable {P : Program} {w : World} {K : PySem.W.Frag} {mg : Str → Option Value} {base : Heap} {Z : Zs}
theorem mkT (T : Txt K mg Z) : Mk K Z.cC Z.f_T_init := ⟨T.mkC, T.a_T_init, T.i_T_init, T.kC⟩
/-- Tie(first, second, length, amount, down=.., backward=..) -/
theorem kb_tie (T : Txt K mg Z) : ∃ its mv : List Value, KBn K Z.d_T_init ["self", "first", "second", "length", "amount", "down", "backward"] 5 ["down", "backward"] (fun us ws => us ++ ws) (fun vs zs => vs ++ zs) := by
  obtain ⟨its, mv, h⟩ := T.F_T_init.kbinds (ps := ["self", "first", "second", "length", "amount", "down", "backward"]) 5 ["down", "backward"] [] (fun us _ _ ws => us ++ ws) (by decide) (by decide) (fun q hq => by cases hq)
    (fun r1 _ _ r4 => r1.append r4) (fun T D doc pm an cdv ct us its mv ws l1 l2 l3 l4 => by
      match us, its, mv, ws, l1, l2, l3, l4 with
      | [_, _, _, _, _], [_], [], [_, _], _, _, _, _ => exact ⟨_, rfl, rfl⟩)
  exact ⟨its, mv, h⟩
theorem ok_l_tie (T : Txt K mg Z) : FnOk P w K mg base CX0 6 Z.f_l_tie Z.d_l_tie ["_law_row_here"] (sp_l_tie Z.cC) := by
  refine T.F_l_tie.ok sc_l_tie (fun vs H Q E h => ?_) (fun cdv A outer s H vs Q E hr h => ?_)
  · obtain ⟨q, r, rfl, _⟩ := h
    rfl
  · obtain ⟨q, r, rfl, hq, ok, k⟩ := h
    obtain ⟨its, mv, kb⟩ := kb_tie T
    refine ⟨_, (pss_one (ps_ret (pe_makeK (mkT T) (ok_T_init T) (hr.mono (by decide)) rfl T.g_C kb pass0 (pa_cons (pe_ix ix_tup (pv 0) pe_int (fun _ _ => rfl)) (pa_cons (pe_ix ix_tup (pv 0) pe_int (fun _ _ => rfl)) (pa_cons (pe_ix ix_tup (pv 0) pe_int (fun _ _ => rfl)) (pa_cons (pe_ix ix_tup (pv 0) pe_int (fun _ _ => rfl)) pa_nil)))) (pk_cons (pe_ix ix_tup (pv 0) pe_int (fun _ _ => rfl)) (pk_cons (pe_ix ix_tup (pv 0) pe_int (fun _ _ => rfl)) pk_nil))))), ?_⟩
    refine ⟨_, rfl, q, _, _, _, rfl, rfl, SqT.of hq, rfl, _, rfl, q, _, _, _, rfl, rfl, SqT.of hq, rfl, _, rfl, q, _, _, _, rfl, rfl, SqT.of hq, rfl, _, rfl, q, _, _, _, rfl, rfl, SqT.of hq, rfl, ?_⟩
    refine ⟨_, rfl, q, _, _, _, rfl, rfl, SqT.of hq, rfl, _, rfl, q, _, _, _, rfl, rfl, SqT.of hq, rfl, rfl, rfl, fun x dx nx nd ne => ?_⟩
    refine ⟨x, dx, r, r.b, rfl, ok, ?_, upd_same, fun H' hx kp => ⟨rfl, k x H' nx (made nx nd kp) ⟨dx, hx⟩⟩⟩
    cases hb : r.b with
    | true => rw [decide_eq_true (ok.bk hb)] <;> rfl
    | false => rfl
theorem ok_l_row_of (T : Txt K mg Z) : FnOk P w K mg base CX0 1 Z.f_l_row_of Z.d_l_row_of ["_law_tie_here"] (sp_l_row_of Z.cC) := by
  refine T.F_l_row_of.ok sc_l_row_of (fun vs H Q E h => ?_) (fun cdv A outer s H vs Q E hr h => ?_)
  · obtain ⟨q, r, rfl, _⟩ := h
    rfl
  · obtain ⟨q, r, rfl, ⟨dx, hq⟩, k⟩ := h
    refine ⟨_, (pss_one (ps_ret (pe_tup (pa_cons (pe_fld (pv 0) rfl) (pa_cons (pe_fld (pv 0) rfl) (pa_cons (pe_fld (pv 0) rfl) (pa_cons (pe_fld (pv 0) rfl) (pa_cons (pe_fld (pv 0) rfl) (pa_cons (pe_fld (pv 0) rfl) pa_nil))))))))), ?_⟩
    refine ⟨_, rfl, q, _, dx, _, _, rfl, hq, T.cl, T.n_first, tfs_first r, _, rfl, q, _, dx, _, _, rfl, hq, T.cl, T.n_second, tfs_second r, _, rfl, q, _, dx, _, _, rfl, hq, T.cl, T.n_length, tfs_length r, _, rfl, q, _, dx, _, _, rfl, hq, T.cl, T.n_amount, tfs_amount r, _, rfl, q, _, dx, _, _, rfl, hq, T.cl, T.n_down, tfs_down r, _, rfl, q, _, dx, _, _, rfl, hq, T.cl, T.n_backward, tfs_backward r, by show 6 ≤ sizeLine; decide, fun x hx => k x hx⟩
theorem ok_l_far (T : Txt K mg Z) : FnOk P w K mg base CX0 1 Z.f_l_far Z.d_l_far ["_law_row_here", "_law_far_here"] sp_l_far := by
  refine T.F_l_far.ok sc_l_far (fun vs H Q E h => ?_) (fun cdv A outer s H vs Q E hr h => ?_)
  · obtain ⟨q, r, z, rfl, _⟩ := h
    rfl
  · obtain ⟨q, r, z, rfl, hq, k⟩ := h
    refine ⟨_, (pss_one (ps_ret (pe_op op_catA (pe_tup (pa_cons (pe_op op_add (pe_ix ix_tup (pv 0) pe_int (fun _ _ => rfl)) (pv 1)) (pa_cons (pe_op op_add (pe_ix ix_tup (pv 0) pe_int (fun _ _ => rfl)) (pv 1)) pa_nil))) (pe_slice sl_tupA (pv 0) (po_some pe_int) po_none)))), ?_⟩
    refine ⟨_, rfl, q, _, _, _, rfl, rfl, SqT.of hq, rfl, _, rfl, _, _, rfl, rfl, _, rfl, q, _, _, _, rfl, rfl, SqT.of hq, rfl, _, rfl, _, _, rfl, rfl, by show 2 ≤ sizeLine; decide, fun t ht => ?_⟩
    have hq1 : upd H t (.tup [.int (r.f + z), .int (r.s + z)]) q = some (.tup r.vs) := by rw [upd_ne (ne_of_none hq ht)]; exact hq
    refine ⟨_, rfl, _, rfl, q, _, rfl, SqT.of hq1, fun c => absurd (show (2 : Nat) = 0 from c.1) (by decide), fun _ u hu => ?_⟩
    have hne : t ≠ u := ne_of_none (H := upd H t (.tup [.int (r.f + z), .int (r.s + z)])) upd_same hu
    refine ⟨t, u, [.int (r.f + z), .int (r.s + z)], [.int r.l, .int r.a, .bl r.d, .bl r.b], rfl, rfl, SqT.of (by rw [upd_ne hne]; exact upd_same), SqT.of upd_same, (by show 2 + 4 ≤ sizeLine; decide), (fun c => by cases c), (fun _ c => by cases c), fun _ _ x hx => ?_⟩
    · have s1 : Same H (upd (upd H t (.tup [.int (r.f + z), .int (r.s + z)])) u (.tup [.int r.l, .int r.a, .bl r.d, .bl r.b])) := Same.new (Same.new (Same.refl H) ht) hu
      exact k x _ (s1.free hx) (Same.new s1 hx) upd_same
end
end TT


set_option maxHeartbeats 4000000
namespace TT
open PySem PySem.Spec PyProof.Rows L2 LamX TL
/-! ### numbers read -/
def sp_number_of : Sp := fun vs H Q _ => ∃ d : Str, vs = [.str d] ∧ allDig (tl d) = true ∧ d.length ≤ 63 ∧ Q (.int ((NumText.digitsVal (tl d) : Nat) : Int)) H
/-- a number, or None -/
def numV : Option Int → V
  | some n => .int n
  | none => .non
def sp_number_in : Sp := fun vs H Q _ => ∃ w : Str, vs = [.str w] ∧ w.length ≤ 63 ∧ Q (numV (numRead w)) H
theorem small_none : ∀ n : Nat, n < 65 → Builtin.Range.small (n : Int) (n : Int) 64 = true := by decide +kernel
theorem range_none {n : Int} (h0 : 0 ≤ n) (h1 : n ≤ 64) : RgC n n 64 0 := by
  obtain ⟨m, rfl⟩ : ∃ m : Nat, n = (m : Int) := ⟨n.toNat, by omega⟩
  refine ⟨by decide, by decide, small_none m (by omega), ?_⟩
  unfold Builtin.Range.rangeSize
  simp
theorem shareS {T : Str → Prop} {G : Prop} (C : Str → Prop) (h : (∀ g, C g → T g) → G) (t : ∀ g, C g → T g) : G := h t
theorem cut_all {d : Str} {n : Int} (h : n = (d.length : Int)) : cutS d none (some n) = d := by
  subst h
  refine ext_tl ?_
  have hl := len_tl d
  have e2 : HT.sIx d.length d.length (some (d.length : Int)) = d.length := by
    show (if ((d.length : Nat) : Int) < 0 then (((d.length : Nat) : Int) + (d.length : Int)).toNat else min ((d.length : Nat) : Int).toNat d.length) = d.length
    rw [if_neg (by omega)]
    omega
  unfold cutS
  show (((tl d).drop (HT.sIx d.length 0 none)).take (HT.sIx d.length d.length (some (d.length : Int)) - HT.sIx d.length 0 none)) = tl d
  rw [e2]
  show ((tl d).drop 0).take (d.length - 0) = tl d
  rw [List.drop_zero]
  exact List.take_of_length_le (by omega)
section
variable {P : Program} {w : World} {K : PySem.W.Frag} {mg : Str → Option Value} {base : Heap} {Z : Zs}
theorem ok_number_of (T : Txt K mg Z) : FnOk P w K mg base CX0 1 Z.f_number_of Z.d_number_of ["digits"] sp_number_of := by
  refine T.F_number_of.ok sc_number_of (fun vs H Q E h => ?_) (fun cdv A outer s H vs Q E hr h => ?_)
  · obtain ⟨d, rfl, _⟩ := h
    rfl
  · obtain ⟨d, rfl, hd, hl, k⟩ := h
    have sl : sizeLine = 16777216 := sizeLine_eq
    refine ⟨_, (pss_cons (ps_set (i := 1) sc_number_of.nd rfl (Or.inl rfl) (pe_op op_mod (pe_callB  call_len_str (by rfl) T.b_len (by decide +kernel) (pa_cons (pv 0) pa_nil)) (pe_glob (v := .int 64) rfl T.c__DIGITS ⟨_, rfl⟩)))
      (pss_cons (ps_set (i := 2) sc_number_of.nd rfl (Or.inl rfl) (pe_callTy call_int_str (by rfl) T.b_int (by decide +kernel) (pa_cons (pe_op op_add_str pe_str (pe_slice sl_str (pv 0) po_none (po_some (pv 1)))) pa_nil)))
      (pss_cons (ps_for PassesOwn.never rfl (pi_range3 rfl T.b_range (pa_cons (pv 1) (pa_cons (pe_callB  call_len_str (by rfl) T.b_len (by decide +kernel) (pa_cons (pv 0) pa_nil)) (pa_cons (pe_glob (v := .int 64) rfl T.c__DIGITS ⟨_, rfl⟩) pa_nil)))) (pg_name (i := 3) sc_number_of.nd rfl (Or.inl rfl)) (pss_one (ps_set (i := 2) sc_number_of.nd rfl (Or.inl rfl) (pe_op op_add (pe_op op_mul (pv 2) (pe_glob (v := .int 10000000000000000000000000000000000000000000000000000000000000000) rfl T.c__CHUNK ⟨_, rfl⟩)) (pe_callTy call_int_str (by rfl) T.b_int (by decide +kernel) (pa_cons (pe_slice sl_str (pv 0) (po_some (pv 3)) (po_some (pe_op op_add (pv 3) (pe_glob (v := .int 64) rfl T.c__DIGITS ⟨_, rfl⟩)))) pa_nil))))))
      (pss_one (ps_ret (pv 2)))))), ?_⟩
    refine ⟨_, rfl, _, rfl, by omega, _, _, rfl, rfl, by show (0 : Int) < 64; decide, ?_⟩
    have hm : ((d.length : Nat) : Int) % 64 = (d.length : Int) := by omega
    have l0 : (Str.ofString "0").length = 1 := by decide
    refine ⟨_, rfl, _, rfl, _, rfl, d, rfl, by omega, ?_⟩
    rw [cut_all hm]
    refine ⟨_, _, rfl, rfl, by omega, _, _, rfl, int_zero hd (by omega), by rw [Str.length_append]; omega, ?_⟩
    refine ⟨_, rfl, _, rfl, _, rfl, by omega, _, _, _, 0, rfl, by rw [hm]; exact range_none (by omega) (by omega), ?_⟩
    refine for_rangeC (n := 0) (fun _ σ H' => σ = [some (.str d), some (.int (((d.length : Nat) : Int) % 64)), some (.int ((NumText.digitsVal (tl d) : Nat) : Int)), none] ∧ H' = H) ⟨rfl, rfl⟩ (fun i σ H' hi => absurd hi (Nat.not_lt_zero i)) ?_
    rintro σ H' ⟨rfl, rfl⟩
    exact ⟨_, rfl, k⟩
theorem ok_number_in (T : Txt K mg Z) : FnOk P w K mg base CX0 2 Z.f_number_in Z.d_number_in ["word"] sp_number_in := by
  refine T.F_number_in.ok sc_number_in (fun vs H Q E h => ?_) (fun cdv A outer s H vs Q E hr h => ?_)
  · obtain ⟨d, rfl, _⟩ := h
    rfl
  · obtain ⟨d, rfl, hl, k⟩ := h
    have sl : sizeLine = 16777216 := sizeLine_eq
    refine ⟨_, (pss_cons (ps_set (i := 1) sc_number_in.nd rfl (Or.inl rfl) (pe_ifExp (pt_val (pe_m1 PySem.F.slot_str_startswith PySem.F.type_str_startswith mt_startswith (pv 0) pe_str)) (pe_slice sl_str (pv 0) (po_some pe_int) po_none) (pv 0)))
      (pss_cons (ps_if (PW.pt (pw_or (pt_not (pt_val (pe_m0 PySem.F.slot_str_isascii PySem.F.type_str_isascii mt_isascii (pv 1)))) (pw_or1 (pt_not (pt_val (pe_m0 PySem.F.slot_str_isdigit PySem.F.type_str_isdigit mt_isdigit (pv 1))))))) (pss_one (ps_ret pe_non)) pss_nil)
      (pss_cons (ps_if (PW.pt (pw_and (pt_val (pe_m1 PySem.F.slot_str_startswith PySem.F.type_str_startswith mt_startswith (pv 1) pe_str)) (pw_and1 (pt_cmpR op_ne (pv 0) pe_str (nomark _))))) (pss_one (ps_ret pe_non)) pss_nil)
      (pss_cons (ps_set (i := 2) sc_number_in.nd rfl (Or.inl rfl) (pe_call (ok_number_of T) (hr.mono (by decide)) rfl T.g_number_of T.k_number_of T.bn_number_of .nil pass0 (pa_cons (pv 1) pa_nil)))
      (pss_one (ps_ret (pe_ifExp (pt_cmpR op_eq (pv 1) (pv 0) (nomark _)) (pv 2) (pe_un un_neg (pv 2))))))))), ?_⟩
    have sm : Txt.startswith d (Str.ofString "-") = ((tl d).head? == some 45) := by
      rw [show Str.ofString "-" = ⟨#[45]⟩ by decide +kernel]
      exact starts_one d 45
    refine ⟨_, rfl, ⟨_, rfl⟩, _, _, rfl, rfl, _, rfl, ?_⟩
    refine' shareS (fun g => tl g = digs d) (fun tail => ite2 (fun c => ?b1) (fun c => ?b2)) ?b3
    case b1 =>
      rw [sm] at c
      refine ⟨_, rfl, _, rfl, d, rfl, by omega, ?_⟩
      obtain ⟨g, hg⟩ : ∃ g, g = cutS d (some 1) none := ⟨_, rfl⟩
      rw [← hg]
      refine tail g ?_
      rw [hg, cut_one]
      unfold digs
      rw [if_pos (by simpa using c)]
    case b2 =>
      rw [sm] at c
      refine ⟨_, rfl, tail d ?_⟩
      unfold digs
      rw [if_neg (by simpa using c)]
    case b3 =>
      intro g hg
      have hlg : g.length ≤ 63 := by
        rw [len_tl, hg]
        have := len_tl d
        unfold digs
        split
        · rw [List.length_drop]
          omega
        · omega
      have same : decide (V.str g = V.str d) = !decide ((tl d).head? = some 45) := by
        rw [str_eq_tl, hg]
        unfold digs
        by_cases c : (tl d).head? = some 45
        · rw [if_pos c, decide_eq_true c]
          rw [decide_eq_false]
          · rfl
          · intro z
            have := congrArg List.length z
            rw [List.length_drop] at this
            cases e : tl d with
            | nil => rw [e] at c; simp at c
            | cons a l => rw [e] at this; simp at this
        · rw [if_neg c, decide_eq_false c, decide_eq_true rfl]
          rfl
      refine ⟨_, rfl, ⟨_, rfl⟩, _, rfl, rfl, trivial, _, rfl, ?_⟩
      by_cases ad : allDig (tl g) = true
      case neg =>
        have nr : numRead d = none := by
          unfold numRead
          rw [← hg, if_neg ad]
        rw [nr] at k
        cases ha : Txt.isascii g with
        | false => exact iteT (iteT k)
        | true =>
          refine iteF ⟨_, rfl, ⟨_, rfl⟩, _, rfl, rfl, trivial, _, rfl, ?_⟩
          rw [isdigit_ascii g ha, show allDig (tl g) = false by simpa using ad]
          exact iteT k
      case pos =>
        rw [ascii_of ad]
        refine iteF ⟨_, rfl, ⟨_, rfl⟩, _, rfl, rfl, trivial, _, rfl, ?_⟩
        rw [isdigit_ascii g (ascii_of ad), ad]
        have s0 : Txt.startswith g (Str.ofString "0") = ((tl g).head? == some 48) := by
          rw [show Str.ofString "0" = ⟨#[48]⟩ by decide +kernel]
          exact starts_one g 48
        have e0 : decide (V.str d = V.str (Str.ofString "0")) = decide (tl d = [48]) := by
          rw [str_eq_tl]
          rfl
        refine iteF ⟨_, rfl, ⟨_, rfl⟩, _, _, rfl, rfl, _, rfl, ?_⟩
        rw [s0]
        have fin : ¬ ((digs d).head? = some 48 ∧ tl d ≠ [48]) → Q (.int (if (tl d).head? = some 45 then -((NumText.digitsVal (tl g) : Nat) : Int) else ((NumText.digitsVal (tl g) : Nat) : Int))) H := fun no => by
          unfold numRead at k
          rw [← hg, if_pos ad, if_neg (by rw [hg]; exact no)] at k
          exact k
        by_cases c45 : (tl d).head? = some 45
        all_goals
          have same' := same
          first
            | rw [decide_eq_true c45] at same'
            | rw [decide_eq_false c45] at same'
          first
            | rw [if_pos c45] at fin
            | rw [if_neg c45] at fin
          by_cases z : (tl g).head? = some 48
          · rw [show ((tl g).head? == some 48) = true by rw [z]; rfl]
            refine iteT ⟨_, rfl, rfl, _, rfl, ?_⟩
            rw [e0]
            by_cases z2 : tl d = [48]
            · rw [decide_eq_true z2]
              refine iteF ⟨_, rfl, g, rfl, ad, hlg, _, rfl, _, rfl, rfl, _, rfl, ?_⟩
              rw [same']
              first
                | exact iteF ⟨_, rfl, _, rfl, fin fun q => q.2 z2⟩
                | exact iteT ⟨_, rfl, fin fun q => q.2 z2⟩
            · rw [decide_eq_false z2]
              have nr : numRead d = none := by
                unfold numRead
                rw [← hg, if_pos ad, if_pos ⟨z, z2⟩]
              rw [nr] at k
              exact iteT k
          · rw [show ((tl g).head? == some 48) = false by simpa using z]
            refine iteF (iteF ⟨_, rfl, g, rfl, ad, hlg, _, rfl, _, rfl, rfl, _, rfl, ?_⟩)
            rw [same']
            first
              | exact iteF ⟨_, rfl, _, rfl, fin fun q => z (hg ▸ q.1)⟩
              | exact iteT ⟨_, rfl, fin fun q => z (hg ▸ q.1)⟩
end
end TT

set_option maxHeartbeats 4000000
namespace TT
open PySem PySem.Spec PyProof.Rows L2 LamX TL
/-! ### texts of ties read -/
def six (r : Row) (bk : Bool) : List V := [.int r.f, .int r.s, .int r.l, .int r.a, .bl r.d, .bl bk]
def wordsOf (r : Row) (bk : Bool) : List Str := [Str.ofString (toString r.f), Str.ofString (toString r.s), Str.ofString (toString r.l), way r.d, shownInt r.a] ++ (if bk = true then [Str.ofString "back"] else [])
def rowText (r : Row) (bk : Bool) : Str := Txt.join (Str.ofString " ") (wordsOf r bk)
theorem nat_of {n : Int} (h : 0 ≤ n) : ∃ m : Nat, n = (m : Int) := ⟨n.toNat, by omega⟩
theorem tl_int {n : Int} (h : 0 ≤ n) : tl (Str.ofString (toString n)) = numL n.toNat := by
  obtain ⟨m, rfl⟩ := nat_of h
  rw [tl_num] <;> rfl
theorem read_int {n : Int} (h : 0 ≤ n) : numRead (Str.ofString (toString n)) = some n := by
  obtain ⟨m, rfl⟩ := nat_of h
  exact numRead_nat m
theorem read_shown (n : Int) : numRead (shownInt n) = some n := by
  unfold shownInt
  split
  · obtain ⟨m, hm⟩ := nat_of (n := -n) (by omega)
    rw [hm, numRead_neg (by omega)]
    congr 1
    omega
  · exact read_int (by omega)
theorem shown_free {n : Int} {c : Nat} (h : c < 45 ∨ 57 < c) : c ∉ tl (shownInt n) := by
  unfold shownInt
  split
  · rw [tl_append, tl_int (by omega)]
    intro z
    rcases List.mem_append.mp z with z | z
    · have : tl (Str.ofString "-") = [45] := by decide +kernel
      rw [this] at z
      simp at z
      omega
    · exact numL_free (by omega) z
  · rw [tl_int (by omega)]
    exact numL_free (by omega)
theorem shown_len60 {n : Int} (h0 : -(10 ^ 60) < n) (h1 : n < 10 ^ 60) : (shownInt n).length ≤ 61 := by
  unfold shownInt
  split
  · have := toString_length_le (v := -n) (by omega) (k := 60) (by decide) (by omega)
    have e : (Str.ofString "-").length = 1 := by decide
    rw [Str.length_append]
    omega
  · have := toString_length_le (v := n) (by omega) (k := 60) (by decide) h1
    omega
theorem tieText_eq (r : Row) : tieText r = rowText r r.b := by
  refine ext_tl ?_
  unfold tieText rowText wordsOf backs
  rw [show Txt.join (Str.ofString " ") ([Str.ofString (toString r.f), Str.ofString (toString r.s), Str.ofString (toString r.l), way r.d, shownInt r.a] ++ (if r.b = true then [Str.ofString "back"] else [])) = _ from join_eq _ _, tl_join]
  have e0 : tl Str.empty = [] := rfl
  have e1 : tl (Str.ofString " back") = tl (Str.ofString " ") ++ tl (Str.ofString "back") := by decide +kernel
  cases r.b <;> simp [tl_append, joinL, e0, e1, show tl (Str.ofString "") = [] from rfl]
theorem word_free {r : Row} (ok : r.Ok) {bk : Bool} {c : Nat} (hc : c = 32 ∨ c = 10) : ∀ p ∈ wordsOf r bk, c ∉ tl p := by
  intro p hp
  have hf := ok.f0; have hs := ok.s0; have hl := ok.l0
  have fr : ∀ {n : Int}, 0 ≤ n → c ∉ tl (Str.ofString (toString n)) := fun h => by
    rw [tl_int h]
    exact numL_free (by omega)
  unfold wordsOf at hp
  rcases List.mem_append.mp hp with hp | hp
  · simp only [List.mem_cons, List.not_mem_nil, or_false] at hp
    rcases hp with rfl | rfl | rfl | rfl | rfl
    · exact fr hf
    · exact fr hs
    · exact fr (by omega)
    · unfold way
      split <;> rcases hc with rfl | rfl <;> decide +kernel
    · exact shown_free (by omega)
  · split at hp
    · rw [List.mem_singleton.mp hp]
      rcases hc with rfl | rfl <;> decide +kernel
    · cases hp
theorem sp_tl : tl (Str.ofString " ") = [32] := by decide +kernel
theorem split_row {r : Row} (ok : r.Ok) (bk : Bool) : Txt.split (rowText r bk) (Str.ofString " ") = wordsOf r bk :=
  split_join (s := 32) (S := []) sp_tl (by decide +kernel) (by unfold wordsOf; simp) (word_free ok (.inl rfl))
def sp_values_in : Sp := fun vs H Q _ => ∃ (r : Row) (bk : Bool), vs = [.str (rowText r bk)] ∧ r.Ok ∧ ∀ x H', H x = none → Same H H' → H' x = some (.tup (six r bk)) → Q (.ref x) H'
theorem row_len {r : Row} (ok : r.Ok) (bk : Bool) : (rowText r bk).length ≤ 200 := by
  have j := StrLaws.join_length_le (Str.ofString " ") (wordsOf r bk)
  have e : rowText r bk = (Str.ofString " ").join (wordsOf r bk) := join_eq _ _
  have hf := ok.f0; have hs := ok.s0; have hl := ok.l0; have hfe := ok.fe; have hse := ok.se
  have l30 : (10 : Int) ^ 30 < 10 ^ 31 := by decide +kernel
  have zf : (Str.ofString (toString r.f)).length ≤ 31 := toString_length_le hf (by decide) (by omega)
  have zs : (Str.ofString (toString r.s)).length ≤ 31 := toString_length_le hs (by decide) (by omega)
  have zl : (Str.ofString (toString r.l)).length ≤ 31 := toString_length_le (by omega) (by decide) (by omega)
  have za := shown_len60 ok.al ok.ah
  have zw : (way r.d).length ≤ 4 := by
    unfold way
    split <;> decide
  have z1 : (Str.ofString " ").length = 1 := by decide
  have zb : (Str.ofString "back").length = 4 := by decide
  rw [e]
  refine Nat.le_trans j ?_
  rw [z1]
  unfold wordsOf
  cases bk <;> simp only [Bool.false_eq_true, if_true, if_false, List.cons_append, List.nil_append, List.append_nil, List.map_cons, List.map_nil, List.sum_cons, List.sum_nil, List.length_cons, List.length_nil] <;> omega
/-- Tie.of, of a text that tells a tie -/
def sp_T_of (C : Addr) : Sp := fun vs H Q _ => ∃ (r : Row) (bk : Bool), vs = [.str (rowText r bk)] ∧ r.Ok ∧ r.b = (bk && decide (1 < r.l)) ∧ ∀ x H', H x = none → Same H H' → TieAt C H' x r → Q (.ref x) H'
section
variable {P : Program} {w : World} {K : PySem.W.Frag} {mg : Str → Option Value} {base : Heap} {Z : Zs}
theorem ok_values_in (T : Txt K mg Z) : FnOk P w K mg base CX0 3 Z.f_values_in Z.d_values_in ["text"] sp_values_in := by
  refine T.F_values_in.ok sc_values_in (fun vs H Q E h => ?_) (fun cdv A outer s H vs Q E hr h => ?_)
  · obtain ⟨r, bk, rfl, _⟩ := h
    rfl
  · obtain ⟨r, bk, rfl, ok, k⟩ := h
    have sl : sizeLine = 16777216 := sizeLine_eq
    have rl := row_len ok bk
    refine ⟨_, (pss_cons (ps_if (pt_not (pt_val (pe_callB  call_isi (by rfl) T.b_isinstance (by decide +kernel) (pa_cons (pv 0) (pa_cons (pe_bltn (v := .ty "str") rfl T.b_str (by decide +kernel) rfl) pa_nil))))) (pss_one (ps_ret pe_non)) pss_nil)
      (pss_cons (ps_set (i := 1) sc_values_in.nd rfl (Or.inl rfl) (pe_split (pv 0) pe_str))
      (pss_cons (ps_set (i := 2) sc_values_in.nd rfl (Or.inl rfl) (pe_and (pe_cmpR op_eq (pe_callB  call_len (by rfl) T.b_len (by decide +kernel) (pa_cons (pv 1) pa_nil)) pe_int (nomark _)) (pe_one (pe_cmpR op_eq (pe_ix ix_list (pv 1) pe_int (fun _ _ => rfl)) pe_str (nomark _)))))
      (pss_cons (ps_if (PW.pt (pw_or (PW.pt (pw_and (pt_cmpR op_ne (pe_callB  call_len (by rfl) T.b_len (by decide +kernel) (pa_cons (pv 1) pa_nil)) pe_int (nomark _)) (pw_and1 (pt_not (pt_val (pv 2)))))) (pw_or1 (pt_cmpR op_notIn_seq (pe_ix ix_list (pv 1) pe_int (fun _ _ => rfl)) (pe_tup (pa_cons pe_str (pa_cons pe_str pa_nil))) (by with_unfolding_all rfl))))) (pss_one (ps_ret pe_non)) pss_nil)
      (pss_cons (ps_setLc (i := 3) (own := [("word", 4)]) rfl sc_values_in.nd rfl rfl (sw_true rfl rfl rfl (by decide +kernel)) (pi_tup (pe_tup (pa_cons (pe_ix ix_list (pv 1) pe_int (fun _ _ => rfl)) (pa_cons (pe_ix ix_list (pv 1) pe_int (fun _ _ => rfl)) (pa_cons (pe_ix ix_list (pv 1) pe_int (fun _ _ => rfl)) (pa_cons (pe_ix ix_list (pv 1) pe_int (fun _ _ => rfl)) pa_nil)))))) (blkOk_by (own := [("word", 4)]) (N := ["text", "words", "backward", "numbers", "word"]) (sc := defScope s_values_in) (by decide +kernel)) (fun _ _ _ _ _ => (pg_name (i := 4) sc_values_in.nd rfl (Or.inl rfl))) (fun _ _ _ _ _ => pts_nil) (fun _ _ _ _ _ => (pe_call (ok_number_in T) (hr.mono (by decide)) rfl T.g_number_in T.k_number_in T.bn_number_in .nil pass0 (pa_cons (pv 4) pa_nil))))
      (pss_cons (ps_if (pt_cmpR op_in_seq pe_non (pv 3) (by with_unfolding_all rfl)) (pss_one (ps_ret pe_non)) pss_nil)
      (pss_one (ps_ret (pe_tup (StX.pa_star (pv 3) (pa_cons (pe_cmpR op_eq (pe_ix ix_list (pv 1) pe_int (fun _ _ => rfl)) pe_str (nomark _)) (pa_cons (pv 2) pa_nil)))))))))))), ?_⟩
    refine ⟨_, rfl, _, _, _, _, true, rfl, .ty "str", .base (.str _), kit_ty (by decide +kernel), true, rfl, iteF ?_⟩
    have l1 : (Str.ofString " ").length = 1 := by decide
    refine ⟨_, rfl, ⟨_, rfl⟩, _, _, rfl, rfl, by decide, by omega, fun wl hwl => ?_⟩
    rw [split_row ok bk]
    have hf := ok.f0; have hs := ok.s0; have hl := ok.l0; have hfe := ok.fe; have hse := ok.se
    have l30 : (10 : Int) ^ 30 < 10 ^ 31 := by decide +kernel
    have zf : (Str.ofString (toString r.f)).length ≤ 31 := toString_length_le hf (by decide) (by omega)
    have zs : (Str.ofString (toString r.s)).length ≤ 31 := toString_length_le hs (by decide) (by omega)
    have zl : (Str.ofString (toString r.l)).length ≤ 31 := toString_length_le (by omega) (by decide) (by omega)
    have za := shown_len60 ok.al ok.ah
    have dn : decide (V.str (way r.d) = V.str (Str.ofString "down")) = r.d := by
      unfold way
      cases r.d
      · decide +kernel
      · decide +kernel
    have nw : (!inV (V.str (way r.d)) [V.str (Str.ofString "up"), V.str (Str.ofString "down")]) = false := by
      unfold way
      cases r.d
      · decide +kernel
      · decide +kernel
    have sW := Same.new (o := .lst ((wordsOf r bk).map V.str)) (Same.refl H) hwl
    have atW : upd H wl (.lst ((wordsOf r bk).map V.str)) wl = some (.lst ((wordsOf r bk).map V.str)) := upd_same
    generalize upd H wl (.lst ((wordsOf r bk).map V.str)) = H1 at sW atW ⊢
    have b5 : ∀ n : Nat, n = 5 → V.bl (decide (V.int (n : Int) = V.int 6)) = V.bl false := fun n e => by subst e; decide
    have b6 : ∀ n : Nat, n = 6 → V.bl (decide (V.int (n : Int) = V.int 6)) = V.bl true := fun n e => by subst e; decide
    have c5 : ∀ n : Nat, n = 5 → (V.bl !decide (V.int (n : Int) = V.int 5)) = V.bl false := fun n e => by subst e; decide
    have c6 : ∀ n : Nat, n = 6 → (V.bl !decide (V.int (n : Int) = V.int 5)) = V.bl true := fun n e => by subst e; decide
    cases bk
    case' false =>
      refine ⟨_, rfl, _, _, rfl, .inl ⟨_, SqL.of atW, rfl⟩, rfl, false, b5 _ rfl, iteF ?_⟩
      refine ⟨_, rfl, _, _, rfl, .inl ⟨_, SqL.of atW, rfl⟩, rfl, false, c5 _ rfl, iteF ?_⟩
    case' true =>
      refine ⟨_, rfl, _, _, rfl, .inl ⟨_, SqL.of atW, rfl⟩, rfl, true, b6 _ rfl, iteT ⟨_, rfl, wl, _, _, _, rfl, rfl, SqL.of atW, rfl, rfl, ?_⟩⟩
      rw [show decide (V.str (Str.ofString "back") = V.str (Str.ofString "back")) = true by decide +kernel]
      refine ⟨_, rfl, _, _, rfl, .inl ⟨_, SqL.of atW, rfl⟩, rfl, true, c6 _ rfl, iteT ⟨_, rfl, true, rfl, ?_⟩⟩
      show if false = true then _ else _
      refine iteF ?_
    all_goals
      refine ⟨_, rfl, wl, _, _, _, rfl, rfl, SqL.of atW, rfl, by show 2 ≤ sizeLine; decide, fun t0 ht0 => ⟨t0, _, rfl, .inr (SqT.of upd_same), rfl, rfl, false, by rw [← nw] <;> rfl, iteF ?_⟩⟩
      have s2 := Same.new (o := .tup [.str (Str.ofString "up"), .str (Str.ofString "down")]) (Same.refl H1) ht0
      have at2 := s2 _ _ atW
      generalize upd H1 t0 (.tup [.str (Str.ofString "up"), .str (Str.ofString "down")]) = H2 at s2 at2 ⊢
      refine ⟨_, rfl, wl, _, _, _, rfl, rfl, SqL.of at2, rfl, _, rfl, wl, _, _, _, rfl, rfl, SqL.of at2, rfl, _, rfl, wl, _, _, _, rfl, rfl, SqL.of at2, rfl, _, rfl, wl, _, _, _, rfl, rfl, SqL.of at2, rfl, by show 4 ≤ sizeLine; decide, fun t1 ht1 => ⟨t1, rfl, ⟨_, SqT.of upd_same⟩, fun D hD => ?_⟩⟩
      have s3 := Same.new (o := .tup [.str (Str.ofString (toString r.f)), .str (Str.ofString (toString r.s)), .str (Str.ofString (toString r.l)), .str (shownInt r.a)]) (Same.refl H2) ht1
      have at3 : upd H2 t1 (.tup [.str (Str.ofString (toString r.f)), .str (Str.ofString (toString r.s)), .str (Str.ofString (toString r.l)), .str (shownInt r.a)]) t1 = some (.tup [.str (Str.ofString (toString r.f)), .str (Str.ofString (toString r.s)), .str (Str.ofString (toString r.l)), .str (shownInt r.a)]) := upd_same
      have hD' : upd H2 t1 (.tup [.str (Str.ofString (toString r.f)), .str (Str.ofString (toString r.s)), .str (Str.ofString (toString r.l)), .str (shownInt r.a)]) D = none := hD
      clear hD
      generalize upd H2 t1 (.tup [.str (Str.ofString (toString r.f)), .str (Str.ofString (toString r.s)), .str (Str.ofString (toString r.l)), .str (shownInt r.a)]) = H3 at s3 at3 hD' ⊢
      have sD := Same.new (o := .lst []) (Same.refl H3) hD'
      refine lc_tup (xs := [.str (Str.ofString (toString r.f)), .str (Str.ofString (toString r.s)), .str (Str.ofString (toString r.l)), .str (shownInt r.a)]) (fun i H' => H' D = some (.lst ([V.int r.f, V.int r.s, V.int r.l, V.int r.a].take i)) ∧ Same H3 H') ⟨upd_same, sD⟩ (fun i H' _ h => SqT.of (h.2 _ _ at3)) ?_ ?_
      · rintro i x H' hi ⟨hDi, sm⟩
        refine ⟨rfl, ?_⟩
        unfold tYes
        refine iteT ?_
        have step : ∀ (n : Int) (xs : List V), H' D = some (.lst xs) → xs.length < sizeLine → True := fun _ _ _ _ => trivial
        have i4 : i < 4 := (List.getElem?_eq_some_iff.mp hi).1
        have put : ∀ (o : HO) (b : Addr) (u : HO), H3 b = some u → upd H' D o b = some u := fun o b u eb => by
          rw [upd_ne (ne_of_none eb hD')]
          exact sm b u eb
        rcases i with _ | _ | _ | _ | i
        · obtain rfl := Option.some.inj hi
          refine ⟨_, rfl, _, rfl, by omega, ?_⟩
          rw [read_int hf]
          exact ⟨_, hDi, by show 0 < sizeLine; decide, upd_same, put _⟩
        · obtain rfl := Option.some.inj hi
          refine ⟨_, rfl, _, rfl, by omega, ?_⟩
          rw [read_int hs]
          exact ⟨_, hDi, by show 1 < sizeLine; decide, upd_same, put _⟩
        · obtain rfl := Option.some.inj hi
          refine ⟨_, rfl, _, rfl, by omega, ?_⟩
          rw [read_int (by omega)]
          exact ⟨_, hDi, by show 2 < sizeLine; decide, upd_same, put _⟩
        · obtain rfl := Option.some.inj hi
          refine ⟨_, rfl, _, rfl, by omega, ?_⟩
          rw [read_shown]
          exact ⟨_, hDi, by show 3 < sizeLine; decide, upd_same, put _⟩
        · omega
      · rintro H4 ⟨hD4, s4⟩
        have at4 := s4 _ _ (s3 _ _ at2)
        refine ⟨_, rfl, D, _, rfl, .inl (SqL.of hD4), rfl, rfl, false, rfl, iteF ?_⟩
        refine ⟨_, rfl, D, _, rfl, .inr (SqL.of hD4), _, rfl, wl, _, _, _, rfl, rfl, SqL.of at4, rfl, rfl, ?_⟩
        rw [dn]
        refine ⟨_, rfl, by show 6 ≤ sizeLine; decide, fun x hx => ?_⟩
        have sN := ((sW.trans s2).trans s3).trans s4
        exact k x _ (L2.Same.free sN hx) (Same.new sN hx) upd_same
theorem ok_T_of (T : Txt K mg Z) : FnOk P w K mg base CX0 6 Z.f_T_of Z.d_T_of ["text"] (sp_T_of Z.cC) := by
  refine T.F_T_of.ok sc_T_of (fun vs H Q E h => ?_) (fun cdv A outer s H vs Q E hr h => ?_)
  · obtain ⟨r, bk, rfl, _⟩ := h
    rfl
  · obtain ⟨r, bk, rfl, ok, hb, k⟩ := h
    obtain ⟨its, mv, kb⟩ := kb_tie T
    refine ⟨_, (pss_cons (ps_set (i := 1) sc_T_of.nd rfl (Or.inl rfl) (pe_call (ok_values_in T) (hr.mono (by decide)) rfl T.g_values_in T.k_values_in T.bn_values_in .nil pass0 (pa_cons (pv 0) pa_nil)))
      (pss_cons (ps_if (pt_cmpR op_isN (pv 1) pe_non (nomark _)) (pss_one ps_never) pss_nil)
      (pss_cons (ps_asg (pv 1) (pg_tup rfl (pgs_cons (pg_name (i := 2) sc_T_of.nd rfl (Or.inl rfl)) (pgs_cons (pg_name (i := 3) sc_T_of.nd rfl (Or.inl rfl)) (pgs_cons (pg_name (i := 4) sc_T_of.nd rfl (Or.inl rfl)) (pgs_cons (pg_name (i := 5) sc_T_of.nd rfl (Or.inl rfl)) (pgs_cons (pg_name (i := 6) sc_T_of.nd rfl (Or.inl rfl)) (pgs_cons (pg_name (i := 7) sc_T_of.nd rfl (Or.inl rfl)) pgs_nil))))))))
      (pss_cons (ps_try_thru0 (pss_one (ps_set (i := 8) sc_T_of.nd rfl (Or.inl rfl) (pe_makeK (mkT T) (ok_T_init T) (hr.mono (by decide)) rfl T.g_C kb pass0 (pa_cons (pv 2) (pa_cons (pv 3) (pa_cons (pv 4) (pa_cons (pv 5) pa_nil)))) (pk_cons (pv 6) (pk_cons (pv 7) pk_nil))))))
      (pss_one (ps_ret (pv 8))))))), ?_⟩
    refine ⟨_, rfl, r, bk, rfl, ok, fun x H1 nx s1 hx => ?_⟩
    refine ⟨_, rfl, rfl, _, rfl, iteF ?_⟩
    refine ⟨_, rfl, x, _, rfl, SqT.of hx, rfl, _, _, rfl, _, _, rfl, _, _, rfl, _, _, rfl, _, _, rfl, _, _, rfl, rfl, ?_⟩
    refine ⟨_, rfl, _, rfl, _, rfl, _, rfl, _, rfl, _, rfl, rfl, rfl, fun y dx ny nd ne => ?_⟩
    refine ⟨y, dx, r, bk, rfl, ok, hb, upd_same, fun H' hy kp => ⟨rfl, _, rfl, ?_⟩⟩
    have s2 : Same H1 H' := made ny nd kp
    exact k y H' (L2.Same.free s1 ny) (s1.trans s2) ⟨dx, hy⟩
end
end TT

namespace TT
open PySem PySem.Spec PyProof.Rows L2 LamX
/-! ### heaps in which tables may have grown, and the pot drawn from -/
/-- all but the pot and the tables stays -/
def KeepN (p : Addr) (H H' : Hp) : Prop := ∀ b o, b ≠ p → H b = some o → (∀ ps, o ≠ .tbl ps) → H' b = some o
theorem KeepN.of {p : Addr} {H H' : Hp} (k : Keep p H H') : KeepN p H H' := fun b o n e _ => k b o n e
theorem KeepN.then {p : Addr} {H H1 H2 : Hp} (a : KeepN p H H1) (b : KeepN p H1 H2) : KeepN p H H2 := fun c o n e t => b c o n (a c o n e t) t
theorem KeepN.ext {p : Addr} {H H1 : Hp} (e : ExtN H H1) : KeepN p H H1 := fun c o _ h t => e c o h t
theorem Tabs.keep {p : Addr} {n : Nat} {T : List (Addr × Str)} {H H' : Hp} (k : Keep p H H') (hp : Pot H p n) (t : Tabs T H) : Tabs T H' := fun q hq => by
  obtain ⟨own, mix, hpp, _⟩ := hp
  obtain ⟨ps, h1, h2, h3⟩ := t q hq
  refine ⟨ps, k _ _ (ne_of h1 hpp fun z => by cases z) h1, h2, fun pos cv hc => ?_⟩
  obtain ⟨c, e1, e2⟩ := h3 pos cv hc
  exact ⟨c, e1, k _ _ (ne_of e2 hpp fun z => by unfold CodeO at z; cases z) e2⟩
/-- a list's object is written: the tables stay -/
theorem Tabs.lst {T : List (Addr × Str)} {H : Hp} {D : Addr} {xs : List V} {o : HO} (hD : H D = some (.lst xs)) (t : Tabs T H) : Tabs T (upd H D o) := fun q hq => by
  obtain ⟨ps, h1, h2, h3⟩ := t q hq
  refine ⟨ps, by rw [upd_ne (ne_of h1 hD fun z => by cases z)]; exact h1, h2, fun pos cv hc => ?_⟩
  obtain ⟨c, e1, e2⟩ := h3 pos cv hc
  exact ⟨c, e1, by rw [upd_ne (ne_of e2 hD fun z => by unfold CodeO at z; cases z)]; exact e2⟩
theorem Pot.extN {H H' : Hp} {p : Addr} {n : Nat} (e : ExtN H H') (hp : Pot H p n) : Pot H' p n := by
  obtain ⟨own, mix, h, r⟩ := hp
  exact ⟨own, mix, e _ _ h (fun ps z => nomatch z), r⟩
theorem shareT {T : Addr → Hp → Prop} {G : Prop} (C : Addr → Hp → Prop) (h : (∀ q H, C q H → T q H) → G) (t : ∀ q H, C q H → T q H) : G := h t
theorem shareB {T : Bool → Prop} {G : Prop} (C : Bool → Prop) (h : (∀ b, C b → T b) → G) (t : ∀ b, C b → T b) : G := h t
theorem Row.Ok.far {r : Row} (h : r.Ok) {z : Int} (z0 : 0 ≤ z) (hf : r.f + z + r.l ≤ 10 ^ 30) (hs : r.s + z + r.l ≤ 10 ^ 30) : Row.Ok { r with f := r.f + z, s := r.s + z } :=
  ⟨by show 0 ≤ r.f + z; have := h.f0; omega, by show 0 ≤ r.s + z; have := h.s0; omega, h.l0, hf, hs, h.al, h.ah, h.bk⟩
theorem Pot.off {H : Hp} {p q : Addr} {n : Nat} {o : HO} (hp : Pot H p n) (hq : H q = some o) (h : ∀ xs, o ≠ .lst xs) : q ≠ p := by
  rintro rfl
  obtain ⟨a, m, e, _⟩ := hp
  rw [hq] at e
  exact h _ (Option.some.inj e)
theorem rg_mem {a b : Int} {x : V} (h : x ∈ rgV a b) : ∃ z : Int, x = .int z ∧ a ≤ z ∧ z < b := by
  unfold rgV at h
  obtain ⟨j, hj, rfl⟩ := List.mem_map.mp h
  have := List.mem_range.mp hj
  exact ⟨a + (j : Int), rfl, by omega, by omega⟩
/-- the error that is met, since H -/
def Caught (H : Hp) (C : Addr) (v : V) : VK := fun u H2 => ∃ a, u = V.ref a ∧ Same H H2 ∧ Met H2 a C [("value", v)]
/-- what look's reading is asked, so that met_error gives G -/
def met (K : PySem.W.Frag) (CE : Addr) (tl : XK → Hp → VK → Prop) (H : Hp) (G : VK) : Prop := tl (fun cls dd H' => PySem.W.exmOne K cls (.ref CE) = some true ∧ ∀ a, H' a = none → G (.ref a) (upd H' a (exk a cls dd))) H (fun _ H' => G .non H')
end TT

set_option maxHeartbeats 4000000
namespace TT
open PySem PySem.Spec PyProof.Rows L2 LamX TL
/-! ### the law's texts and figures -/
/-- str of any integer -/
theorem str_int (n : Int) : Str.ofString (toString n) = shownInt n := by
  unfold shownInt
  cases n with
  | ofNat m => exact (if_neg (show ¬ Int.ofNat m < 0 from Int.not_lt.mpr (Int.natCast_nonneg m))).symm
  | negSucc m =>
    rw [if_pos (Int.negSucc_lt_zero m)]
    refine ext_tl ?_
    rw [tl_append, tl_str, tl_str, tl_str]
    have e : -(Int.negSucc m) = ((m + 1 : Nat) : Int) := rfl
    rw [e]
    have e1 : toString (Int.negSucc m) = "-" ++ toString (m + 1) := rfl
    have e2 : toString (((m + 1 : Nat)) : Int) = toString (m + 1) := rfl
    rw [e1, e2, String.toList_append, List.map_append]
def sp_l_text_of : Sp := fun vs H Q _ => ∃ (q : Addr) (r : Row), vs = [.ref q] ∧ RowAt H q r ∧ r.Ok ∧ ∀ H', Same H H' → Q (.str (rowText r r.b)) H'
theorem log_le {i : Int} (h0 : -(10 ^ 60) < i) (h1 : i < 10 ^ 60) : i.natAbs.log2 < 1920 := by
  have a : i.natAbs < 10 ^ 60 := by omega
  have b : 10 ^ 60 < 2 ^ 1920 := by decide +kernel
  by_cases z : i.natAbs = 0
  · rw [z]
    decide
  · exact (Nat.log2_lt z).mpr (Nat.lt_trans a b)
theorem words_sum {r : Row} (ok : r.Ok) (bk : Bool) : ((wordsOf r bk).map (·.length)).sum + (wordsOf r bk).length * (Str.ofString " ").length ≤ 300 := by
  have hf := ok.f0; have hs := ok.s0; have hl := ok.l0; have hfe := ok.fe; have hse := ok.se
  have l30 : (10 : Int) ^ 30 < 10 ^ 31 := by decide +kernel
  have zf : (Str.ofString (toString r.f)).length ≤ 31 := toString_length_le hf (by decide) (by omega)
  have zs : (Str.ofString (toString r.s)).length ≤ 31 := toString_length_le hs (by decide) (by omega)
  have zl : (Str.ofString (toString r.l)).length ≤ 31 := toString_length_le (by omega) (by decide) (by omega)
  have za := shown_len60 ok.al ok.ah
  have zw : (way r.d).length ≤ 4 := by
    unfold way
    split <;> decide
  have z1 : (Str.ofString " ").length = 1 := by decide
  have zb : (Str.ofString "back").length = 4 := by decide
  rw [z1]
  unfold wordsOf
  cases bk <;> simp only [Bool.false_eq_true, if_true, if_false, List.cons_append, List.nil_append, List.append_nil, List.map_cons, List.map_nil, List.sum_cons, List.sum_nil, List.length_cons, List.length_nil] <;> omega
section
variable {P : Program} {w : World} {K : PySem.W.Frag} {mg : Str → Option Value} {base : Heap} {Z : Zs}
theorem ok_l_text_of (T : Txt K mg Z) : FnOk P w K mg base CX0 1 Z.f_l_text_of Z.d_l_text_of ["_law_row_here"] sp_l_text_of := by
  refine T.F_l_text_of.ok sc_l_text_of (fun vs H Q E h => ?_) (fun cdv A outer s H vs Q E hr h => ?_)
  · obtain ⟨q, r, rfl, _⟩ := h
    rfl
  · obtain ⟨q, r, rfl, hq, ok, k⟩ := h
    refine ⟨_, (pss_cons (ps_set (i := 1) sc_l_text_of.nd rfl (Or.inl rfl) (pe_lst (pa_cons (pe_callTy call_str_int (by rfl) T.b_str (by decide +kernel) (pa_cons (pe_ix ix_tup (pv 0) pe_int (fun _ _ => rfl)) pa_nil)) (pa_cons (pe_callTy call_str_int (by rfl) T.b_str (by decide +kernel) (pa_cons (pe_ix ix_tup (pv 0) pe_int (fun _ _ => rfl)) pa_nil)) (pa_cons (pe_callTy call_str_int (by rfl) T.b_str (by decide +kernel) (pa_cons (pe_ix ix_tup (pv 0) pe_int (fun _ _ => rfl)) pa_nil)) (pa_cons (pe_ifExp (pt_val (pe_ix ix_tup (pv 0) pe_int (fun _ _ => rfl))) pe_str pe_str) (pa_cons (pe_callTy call_str_int (by rfl) T.b_str (by decide +kernel) (pa_cons (pe_ix ix_tup (pv 0) pe_int (fun _ _ => rfl)) pa_nil)) pa_nil)))))))
      (pss_one (ps_ret (pe_join pe_str (pe_op op_cat (pv 1) (pe_ifExp (pt_val (pe_ix ix_tup (pv 0) pe_int (fun _ _ => rfl))) (pe_lst (pa_cons pe_str pa_nil)) (pe_lst pa_nil))))))), ?_⟩
    have sl : sizeLine = 16777216 := sizeLine_eq
    have rl := row_len ok r.b
    have h1 := ok.f0; have h2 := ok.s0; have h3 := ok.l0; have h4 := ok.fe; have h5 := ok.se
    have e60 : (10 : Int) ^ 30 < 10 ^ 60 := by decide +kernel
    have hq' : H q = some (.tup [.int r.f, .int r.s, .int r.l, .int r.a, .bl r.d, .bl r.b]) := hq
    have at_ := SqT.of (K := K) hq'
    refine ⟨_, rfl, q, _, _, _, rfl, rfl, at_, rfl, _, rfl, log_le (by omega) (by omega), _, rfl, q, _, _, _, rfl, rfl, at_, rfl, _, rfl, log_le (by omega) (by omega), _, rfl, q, _, _, _, rfl, rfl, at_, rfl, _, rfl, log_le (by omega) (by omega), ?_⟩
    have ws := words_sum ok r.b
    clear rl
    obtain ⟨rf, rs, rl, ra, rd, rb⟩ := r
    dsimp only at *
    have step : ∀ (H' : Hp), Same H H' → Q (.str (Txt.join (Str.ofString " ") (wordsOf ⟨rf, rs, rl, ra, rd, rb⟩ rb))) H' := k
    cases rd <;> cases rb
    all_goals
      refine ⟨_, rfl, q, _, _, _, rfl, rfl, at_, rfl, _, rfl, ?_⟩
      first
        | refine iteT ?_
        | refine iteF ?_
      refine ⟨_, rfl, q, _, _, _, rfl, rfl, at_, rfl, _, rfl, log_le ok.al ok.ah, ?_⟩
      rw [str_int ra]
      refine ⟨by show 5 ≤ sizeLine; decide, fun w hw => ⟨⟨_, rfl⟩, _, rfl, ?_⟩⟩
      have sw : ∀ o, Same H (upd H w o) := fun o => Same.new (Same.refl H) hw
      refine ⟨_, rfl, q, _, _, _, rfl, rfl, SqT.of (sw _ _ _ hq'), rfl, _, rfl, ?_⟩
      first
        | (refine iteT ⟨by show 1 ≤ sizeLine; decide, fun u hu => ⟨w, u, _, _, rfl, rfl, (by rw [upd_ne (ne_of_none upd_same hu)]; exact upd_same), upd_same, by show 5 + 1 ≤ sizeLine; decide, fun p hp => ⟨_, p, _, rfl, rfl, .inl (SqL.of upd_same), Nat.le_trans ws (by decide), step _ (Same.new (Same.new (sw _) hu) hp)⟩⟩⟩)
        | (refine iteF ⟨by show 0 ≤ sizeLine; decide, fun u hu => ⟨w, u, _, _, rfl, rfl, (by rw [upd_ne (ne_of_none upd_same hu)]; exact upd_same), upd_same, by show 5 + 0 ≤ sizeLine; decide, fun p hp => ⟨_, p, _, rfl, rfl, .inl (SqL.of upd_same), Nat.le_trans ws (by decide), step _ (Same.new (Same.new (sw _) hu) hp)⟩⟩⟩)
end
end TT


namespace TT
open PySem PySem.Spec PyProof.Rows L2 LamX
/-! ### == of ties, with either answer -/
def eqB (r r' : Row) : Bool := PyData.eqv r.dat r'.dat
theorem eqB_eq (r r' : Row) : eqB r r' = ((r.f == r'.f) && ((r.s == r'.s) && ((r.l == r'.l) && ((r.a == r'.a) && ((r.d == r'.d) && ((r.b == r'.b) && true)))))) := by
  unfold eqB Row.dat
  simp only [PyData.eqv, PyData.eqvAll]
theorem dec_int (i j : Int) : decide (V.int i = V.int j) = (i == j) := by
  by_cases c : i = j
  · subst c
    simp
  · rw [decide_eq_false (fun e => c (V.int.inj e))]
    simp [c]
theorem dec_bl (i j : Bool) : decide (V.bl i = V.bl j) = (i == j) := by cases i <;> cases j <;> simp
def sp_T_eqB (Z : Zs) : Sp := fun vs H Q _ => ∃ (a : Addr) (y : V) (r : Row), vs = [.ref a, y] ∧ TieAt Z.cC H a r ∧ ((∃ b r', y = .ref b ∧ TieAt Z.cC H b r' ∧ Q (.bl (eqB r r')) H) ∨ ∃ b xs, y = .ref b ∧ H b = some (.tup xs) ∧ Q (.bl false) H)
section
variable {P : Program} {w : World} {K : PySem.W.Frag} {mg : Str → Option Value} {base : Heap} {Z : Zs}
theorem ok_T_eqB (T : Txt K mg Z) : FnOk P w K mg base CX0 1 Z.f_T_eq Z.d_T_eq ["self", "other"] (sp_T_eqB Z) := by
  refine T.F_T_eq.ok sc_T_eq (fun vs H Q E h => ?_) (fun cdv A outer s H vs Q E hr h => ?_)
  · obtain ⟨a, y, r, rfl, _⟩ := h
    rfl
  · obtain ⟨a, y, r, rfl, ⟨da, ha⟩, h⟩ := h
    refine ⟨_, (pss_one (ps_ret (pe_and (pe_callB  call_isi (by rfl) T.b_isinstance (by decide +kernel) (pa_cons (pv 1) (pa_cons (pe_glob (v := .ref Z.cC) rfl T.g_C rfl) pa_nil))) (pe_and (pe_cmpR op_eq (pe_fld (pv 0) rfl) (pe_fld (pv 1) rfl) (nomark _)) (pe_and (pe_cmpR op_eq (pe_fld (pv 0) rfl) (pe_fld (pv 1) rfl) (nomark _)) (pe_and (pe_cmpR op_eq (pe_fld (pv 0) rfl) (pe_fld (pv 1) rfl) (nomark _)) (pe_and (pe_cmpR op_eq (pe_fld (pv 0) rfl) (pe_fld (pv 1) rfl) (nomark _)) (pe_and (pe_cmpR op_eq (pe_fld (pv 0) rfl) (pe_fld (pv 1) rfl) (nomark _)) (pe_one (pe_cmpR op_eq (pe_fld (pv 0) rfl) (pe_fld (pv 1) rfl) (nomark _))))))))))), ?_⟩
    rcases h with ⟨b, r', rfl, ⟨db, hb⟩, k⟩ | ⟨b, xs, rfl, hb, k⟩
    · rw [eqB_eq] at k
      refine ⟨_, rfl, _, _, _, _, true, rfl, .own Z.cC, .base (.ins hb T.cl T.z_cls T.z_get T.z_tk T.z_mro), T.z_kit, true, rfl, iteT ?_⟩
      refine ⟨_, rfl, a, _, da, _, _, rfl, ha, T.cl, T.n_first, tfs_first r, _, rfl, b, _, db, _, _, rfl, hb, T.cl, T.n_first, tfs_first r', rfl, _, rfl, ?_⟩
      rw [dec_int]
      cases c1 : (r.f == r'.f)
      · rw [c1] at k
        exact iteF k
      rw [c1] at k
      refine iteT ⟨_, rfl, a, _, da, _, _, rfl, ha, T.cl, T.n_second, tfs_second r, _, rfl, b, _, db, _, _, rfl, hb, T.cl, T.n_second, tfs_second r', rfl, _, rfl, ?_⟩
      rw [dec_int]
      cases c2 : (r.s == r'.s)
      · rw [c2] at k
        exact iteF k
      rw [c2] at k
      refine iteT ⟨_, rfl, a, _, da, _, _, rfl, ha, T.cl, T.n_length, tfs_length r, _, rfl, b, _, db, _, _, rfl, hb, T.cl, T.n_length, tfs_length r', rfl, _, rfl, ?_⟩
      rw [dec_int]
      cases c3 : (r.l == r'.l)
      · rw [c3] at k
        exact iteF k
      rw [c3] at k
      refine iteT ⟨_, rfl, a, _, da, _, _, rfl, ha, T.cl, T.n_amount, tfs_amount r, _, rfl, b, _, db, _, _, rfl, hb, T.cl, T.n_amount, tfs_amount r', rfl, _, rfl, ?_⟩
      rw [dec_int]
      cases c4 : (r.a == r'.a)
      · rw [c4] at k
        exact iteF k
      rw [c4] at k
      refine iteT ⟨_, rfl, a, _, da, _, _, rfl, ha, T.cl, T.n_down, tfs_down r, _, rfl, b, _, db, _, _, rfl, hb, T.cl, T.n_down, tfs_down r', rfl, _, rfl, ?_⟩
      rw [dec_bl]
      cases c5 : (r.d == r'.d)
      · rw [c5] at k
        exact iteF k
      rw [c5] at k
      refine iteT ⟨_, rfl, a, _, da, _, _, rfl, ha, T.cl, T.n_backward, tfs_backward r, _, rfl, b, _, db, _, _, rfl, hb, T.cl, T.n_backward, tfs_backward r', rfl, ?_⟩
      rw [dec_bl]
      cases c6 : (r.b == r'.b)
      · rw [c6] at k
        exact k
      · rw [c6] at k
        exact k
    · exact ⟨_, rfl, _, _, _, _, false, rfl, .own Z.cC, .base (.tup hb), T.z_kitT, false, rfl, iteF k⟩
end
end TT

set_option maxHeartbeats 4000000
namespace TT
open PySem PySem.Spec PyProof.Rows L2 LamX TL
/-! ### books, by what they tell -/
structure Lore where
  z : Int
  ts : List Row
  ns : List (Int × Int)
def sizeL (z : Int) : Str := Str.ofString "size " ++ Str.ofString (toString z)
def tieL (r : Row) : Str := Str.ofString "tie " ++ rowText r r.b
/-- the line of a tie, with back behind those of one place -/
def tieF (fl : Bool) (r : Row) : Str := Str.ofString "tie " ++ rowText r ((fl && decide (r.l = 1)) || r.b)
def noteL (p : Int × Int) : Str := Str.ofString "note " ++ Str.ofString (toString p.1) ++ Str.ofString " " ++ shownInt p.2
def Lore.lines (b : Lore) : List Str := sizeL b.z :: (b.ts.map tieL ++ b.ns.map noteL)
def Lore.text (b : Lore) : Str := Txt.join (Str.ofString "\n") b.lines
def Lore.linesF (fl : Bool) (b : Lore) : List Str := sizeL b.z :: (b.ts.map (tieF fl) ++ b.ns.map noteL)
def Lore.textF (fl : Bool) (b : Lore) : Str := Txt.join (Str.ofString "\n") (b.linesF fl)
/-- a tie of a book of this size -/
structure Row.In (r : Row) (z : Int) : Prop where
  ok : r.Ok
  fz : r.f + r.l ≤ z
  sz : r.s + r.l ≤ z
/-- a note of a book of this size -/
structure NoteIn (p : Int × Int) (z : Int) : Prop where
  p0 : 0 ≤ p.1
  pz : p.1 < z
  lo : -(10 ^ 60) < p.2
  hi : p.2 < 10 ^ 60
/-- numbers that can be written -/
structure Lore.Fine (b : Lore) : Prop where
  z0 : 1 ≤ b.z
  z1 : b.z ≤ 10 ^ 30
  ts : ∀ r ∈ b.ts, r.In b.z
  ns : ∀ p ∈ b.ns, NoteIn p b.z
structure Lore.Ok (b : Lore) : Prop where
  fine : b.Fine
  tn : b.ts.length ≤ 12
  nn : b.ns.length ≤ 12
  nd : (b.ns.map (·.1)).Nodup
theorem nl_tl : tl (Str.ofString "\n") = [10] := by decide +kernel
theorem num_free {n : Int} (h : 0 ≤ n) {c : Nat} (hc : c < 48 ∨ 57 < c) : c ∉ tl (Str.ofString (toString n)) := by
  rw [tl_int h]
  exact numL_free hc
theorem rowText_free {r : Row} (ok : r.Ok) (bk : Bool) : 10 ∉ tl (rowText r bk) := by
  unfold rowText
  rw [show Txt.join (Str.ofString " ") (wordsOf r bk) = _ from join_eq _ _, tl_join]
  have w := word_free ok (bk := bk) (c := 10) (.inr rfl)
  have e1 : tl (Str.ofString " ") = [32] := sp_tl
  rw [e1]
  intro h
  have key : ∀ l : List Str, (∀ p ∈ l, 10 ∉ tl p) → 10 ∉ joinL [32] (l.map tl) := by
    intro l
    induction l with
    | nil => intro _ z; simp [joinL] at z
    | cons a t ih =>
      intro hl z
      cases t with
      | nil => exact hl a (by simp) (by simpa [joinL] using z)
      | cons b t =>
        have z' : 10 ∈ tl a ++ ([32] ++ joinL [32] ((b :: t).map tl)) := z
        rcases List.mem_append.mp z' with z' | z'
        · exact hl a (by simp) z'
        · rcases List.mem_append.mp z' with z' | z'
          · simp at z'
          · exact ih (fun p hp => hl p (List.mem_cons_of_mem _ hp)) z'
  exact key _ w h
theorem line_free {b : Lore} (h : b.Fine) : ∀ p ∈ b.lines, 10 ∉ tl p := by
  intro p hp
  unfold Lore.lines at hp
  have es : 10 ∉ tl (Str.ofString "size ") := by decide +kernel
  have et : 10 ∉ tl (Str.ofString "tie ") := by decide +kernel
  have en : 10 ∉ tl (Str.ofString "note ") := by decide +kernel
  have eb : 10 ∉ tl (Str.ofString " ") := by decide +kernel
  rcases List.mem_cons.mp hp with rfl | hp
  · unfold sizeL
    rw [tl_append, List.mem_append]
    rintro (z | z)
    · exact es z
    · exact num_free (by have := h.z0; omega) (.inl (by decide)) z
  · rcases List.mem_append.mp hp with hp | hp
    · obtain ⟨r, hr, rfl⟩ := List.mem_map.mp hp
      unfold tieL
      rw [tl_append, List.mem_append]
      rintro (z | z)
      · exact et z
      · exact rowText_free (h.ts r hr).ok _ z
    · obtain ⟨r, hr, rfl⟩ := List.mem_map.mp hp
      unfold noteL
      rw [tl_append, tl_append, tl_append]
      simp only [List.mem_append]
      rintro (((z | z) | z) | z)
      · exact en z
      · exact num_free (h.ns r hr).p0 (.inl (by decide)) z
      · exact eb z
      · exact shown_free (.inl (by decide)) z
theorem line_freeF {fl : Bool} {b : Lore} (h : b.Fine) : ∀ p ∈ (b.linesF fl), 10 ∉ tl p := by
  intro p hp
  unfold Lore.linesF at hp
  have es : 10 ∉ tl (Str.ofString "size ") := by decide +kernel
  have et : 10 ∉ tl (Str.ofString "tie ") := by decide +kernel
  have en : 10 ∉ tl (Str.ofString "note ") := by decide +kernel
  have eb : 10 ∉ tl (Str.ofString " ") := by decide +kernel
  rcases List.mem_cons.mp hp with rfl | hp
  · unfold sizeL
    rw [tl_append, List.mem_append]
    rintro (z | z)
    · exact es z
    · exact num_free (by have := h.z0; omega) (.inl (by decide)) z
  · rcases List.mem_append.mp hp with hp | hp
    · obtain ⟨r, hr, rfl⟩ := List.mem_map.mp hp
      unfold tieF
      rw [tl_append, List.mem_append]
      rintro (z | z)
      · exact et z
      · exact rowText_free (h.ts r hr).ok _ z
    · obtain ⟨r, hr, rfl⟩ := List.mem_map.mp hp
      unfold noteL
      rw [tl_append, tl_append, tl_append]
      simp only [List.mem_append]
      rintro (((z | z) | z) | z)
      · exact en z
      · exact num_free (h.ns r hr).p0 (.inl (by decide)) z
      · exact eb z
      · exact shown_free (.inl (by decide)) z
theorem split_text {b : Lore} (h : b.Fine) : Txt.split b.text (Str.ofString "\n") = b.lines :=
  split_join (s := 10) (S := []) nl_tl (by decide +kernel) (by unfold Lore.lines; simp) (line_free h)
theorem split_textF {fl : Bool} {b : Lore} (h : b.Fine) : Txt.split (b.textF fl) (Str.ofString "\n") = (b.linesF fl) :=
  split_join (s := 10) (S := []) nl_tl (by decide +kernel) (by unfold Lore.linesF; simp) (line_freeF (fl := fl) h)
theorem num_len {n : Int} (h0 : 0 ≤ n) (h1 : n ≤ 10 ^ 30) : (Str.ofString (toString n)).length ≤ 31 := by
  have l30 : (10 : Int) ^ 30 < 10 ^ 31 := by decide +kernel
  exact toString_length_le h0 (by decide) (by omega)
theorem size_len {b : Lore} (h : b.Fine) : (sizeL b.z).length ≤ 40 := by
  unfold sizeL
  have z0 := h.z0
  have := num_len (n := b.z) (by omega) h.z1
  have e : (Str.ofString "size ").length = 5 := by decide
  rw [Str.length_append]
  omega
theorem tie_len {r : Row} (h : r.Ok) : (tieL r).length ≤ 210 := by
  unfold tieL
  have := row_len h r.b
  have e : (Str.ofString "tie ").length = 4 := by decide
  rw [Str.length_append]
  omega
theorem tie_lenF {fl : Bool} {r : Row} (h : r.Ok) : (tieF fl r).length ≤ 210 := by
  unfold tieF
  have := row_len h ((fl && decide (r.l = 1)) || r.b)
  have e : (Str.ofString "tie ").length = 4 := by decide
  rw [Str.length_append]
  omega
theorem note_len {p : Int × Int} {z : Int} (h : NoteIn p z) (hz : z ≤ 10 ^ 30) : (noteL p).length ≤ 210 := by
  unfold noteL
  have p1 := h.pz
  have := num_len h.p0 (by omega)
  have := shown_len60 h.lo h.hi
  have e : (Str.ofString "note ").length = 5 := by decide
  have e2 : (Str.ofString " ").length = 1 := by decide
  rw [Str.length_append, Str.length_append, Str.length_append]
  omega
theorem lines_each {b : Lore} (h : b.Fine) : ∀ p ∈ b.lines, p.length ≤ 210 := by
  intro p hp
  unfold Lore.lines at hp
  rcases List.mem_cons.mp hp with rfl | hp
  · have := size_len h
    omega
  · rcases List.mem_append.mp hp with hp | hp
    · obtain ⟨r, hr, rfl⟩ := List.mem_map.mp hp
      exact tie_len (h.ts r hr).ok
    · obtain ⟨r, hr, rfl⟩ := List.mem_map.mp hp
      exact note_len (h.ns r hr) h.z1
theorem lines_eachF {fl : Bool} {b : Lore} (h : b.Fine) : ∀ p ∈ (b.linesF fl), p.length ≤ 210 := by
  intro p hp
  unfold Lore.linesF at hp
  rcases List.mem_cons.mp hp with rfl | hp
  · have := size_len h
    omega
  · rcases List.mem_append.mp hp with hp | hp
    · obtain ⟨r, hr, rfl⟩ := List.mem_map.mp hp
      exact tie_lenF (fl := fl) (h.ts r hr).ok
    · obtain ⟨r, hr, rfl⟩ := List.mem_map.mp hp
      exact note_len (h.ns r hr) h.z1
theorem sum_le {l : List Str} {k : Nat} (h : ∀ p ∈ l, p.length ≤ k) : (l.map (·.length)).sum ≤ l.length * k := by
  induction l with
  | nil => simp
  | cons a t ih =>
    have h1 := h a (by simp)
    have h2 := ih fun p hp => h p (List.mem_cons_of_mem _ hp)
    simp only [List.map_cons, List.sum_cons, List.length_cons, Nat.succ_mul]
    omega
theorem lines_sum {b : Lore} (h : b.Ok) : b.lines.length ≤ 25 ∧ (b.lines.map (·.length)).sum + b.lines.length * (Str.ofString "\n").length ≤ 6000 := by
  have n : b.lines.length ≤ 25 := by
    unfold Lore.lines
    rw [List.length_cons, List.length_append, List.length_map, List.length_map]
    have := h.tn
    have := h.nn
    omega
  refine ⟨n, ?_⟩
  have s := sum_le (lines_each h.fine)
  have e : (Str.ofString "\n").length = 1 := by decide
  rw [e]
  omega
theorem lines_sumF {fl : Bool} {b : Lore} (h : b.Ok) : (b.linesF fl).length ≤ 25 ∧ ((b.linesF fl).map (·.length)).sum + (b.linesF fl).length * (Str.ofString "\n").length ≤ 6000 := by
  have n : (b.linesF fl).length ≤ 25 := by
    unfold Lore.linesF
    rw [List.length_cons, List.length_append, List.length_map, List.length_map]
    have := h.tn
    have := h.nn
    omega
  refine ⟨n, ?_⟩
  have s := sum_le (lines_eachF (fl := fl) h.fine)
  have e : (Str.ofString "\n").length = 1 := by decide
  rw [e]
  omega
theorem text_len {b : Lore} (h : b.Ok) : b.text.length ≤ 6000 := by
  have j := StrLaws.join_length_le (Str.ofString "\n") b.lines
  have e : b.text = (Str.ofString "\n").join b.lines := join_eq _ _
  obtain ⟨_, s⟩ := lines_sum h
  have e1 : (Str.ofString "\n").length = 1 := by decide
  rw [e]
  refine Nat.le_trans j (Nat.le_trans ?_ s)
  first | exact Nat.le_refl _ | (rw [e1]; omega) | omega
theorem text_lenF {fl : Bool} {b : Lore} (h : b.Ok) : (b.textF fl).length ≤ 6000 := by
  have j := StrLaws.join_length_le (Str.ofString "\n") (b.linesF fl)
  have e : (b.textF fl) = (Str.ofString "\n").join (b.linesF fl) := join_eq _ _
  obtain ⟨_, s⟩ := lines_sumF (fl := fl) h
  have e1 : (Str.ofString "\n").length = 1 := by decide
  rw [e]
  refine Nat.le_trans j (Nat.le_trans ?_ s)
  first | exact Nat.le_refl _ | (rw [e1]; omega) | omega
/-! the words of the lines -/
theorem cat_join2 (a b : Str) : a ++ Str.ofString " " ++ b = Txt.join (Str.ofString " ") [a, b] := by
  refine ext_tl ?_
  rw [show Txt.join (Str.ofString " ") [a, b] = _ from join_eq _ _, tl_join]
  simp [tl_append, joinL]
theorem cat_join3 (a b c : Str) : a ++ Str.ofString " " ++ b ++ Str.ofString " " ++ c = Txt.join (Str.ofString " ") [a, b, c] := by
  refine ext_tl ?_
  rw [show Txt.join (Str.ofString " ") [a, b, c] = _ from join_eq _ _, tl_join]
  simp [tl_append, joinL]
theorem size_split {z : Int} (h : 0 ≤ z) : Txt.split (sizeL z) (Str.ofString " ") = [Str.ofString "size", Str.ofString (toString z)] := by
  have e : sizeL z = Txt.join (Str.ofString " ") [Str.ofString "size", Str.ofString (toString z)] := by
    rw [← cat_join2]
    unfold sizeL
    refine ext_tl ?_
    have e1 : tl (Str.ofString "size ") = tl (Str.ofString "size") ++ tl (Str.ofString " ") := by decide +kernel
    rw [tl_append, tl_append, tl_append, e1]
  rw [e]
  refine split_join (s := 32) (S := []) sp_tl (by decide +kernel) (by simp) fun p hp => ?_
  simp only [List.mem_cons, List.not_mem_nil, or_false] at hp
  rcases hp with rfl | rfl
  · decide +kernel
  · exact num_free h (.inl (by decide))
theorem note_split {p : Int × Int} (h : 0 ≤ p.1) : Txt.split (noteL p) (Str.ofString " ") = [Str.ofString "note", Str.ofString (toString p.1), shownInt p.2] := by
  have e : noteL p = Txt.join (Str.ofString " ") [Str.ofString "note", Str.ofString (toString p.1), shownInt p.2] := by
    rw [← cat_join3]
    unfold noteL
    refine ext_tl ?_
    have e1 : tl (Str.ofString "note ") = tl (Str.ofString "note") ++ tl (Str.ofString " ") := by decide +kernel
    simp only [tl_append, e1]
  rw [e]
  refine split_join (s := 32) (S := []) sp_tl (by decide +kernel) (by simp) fun q hq => ?_
  simp only [List.mem_cons, List.not_mem_nil, or_false] at hq
  rcases hq with rfl | rfl | rfl
  · decide +kernel
  · exact num_free h (.inl (by decide))
  · exact shown_free (.inl (by decide))
theorem tie_parts (r : Row) : Txt.partition (tieL r) (Str.ofString " ") = (Str.ofString "tie", Str.ofString " ", rowText r r.b) := by
  have e : tieL r = Str.ofString "tie" ++ Str.ofString " " ++ rowText r r.b := by
    unfold tieL
    refine ext_tl ?_
    have e1 : tl (Str.ofString "tie ") = tl (Str.ofString "tie") ++ tl (Str.ofString " ") := by decide +kernel
    simp only [tl_append, e1]
  rw [e]
  exact partition_app (s := 32) (S := []) sp_tl (by decide +kernel)
theorem tie_partsF {fl : Bool} (r : Row) : Txt.partition (tieF fl r) (Str.ofString " ") = (Str.ofString "tie", Str.ofString " ", rowText r ((fl && decide (r.l = 1)) || r.b)) := by
  have e : tieF fl r = Str.ofString "tie" ++ Str.ofString " " ++ rowText r ((fl && decide (r.l = 1)) || r.b) := by
    unfold tieF
    refine ext_tl ?_
    have e1 : tl (Str.ofString "tie ") = tl (Str.ofString "tie") ++ tl (Str.ofString " ") := by decide +kernel
    simp only [tl_append, e1]
  rw [e]
  exact partition_app (s := 32) (S := []) sp_tl (by decide +kernel)
theorem note_parts (p : Int × Int) : Txt.partition (noteL p) (Str.ofString " ") = (Str.ofString "note", Str.ofString " ", Str.ofString (toString p.1) ++ Str.ofString " " ++ shownInt p.2) := by
  have e : noteL p = Str.ofString "note" ++ Str.ofString " " ++ (Str.ofString (toString p.1) ++ Str.ofString " " ++ shownInt p.2) := by
    unfold noteL
    refine ext_tl ?_
    have e1 : tl (Str.ofString "note ") = tl (Str.ofString "note") ++ tl (Str.ofString " ") := by decide +kernel
    simp only [tl_append, e1, List.append_assoc]
  rw [e]
  exact partition_app (s := 32) (S := []) sp_tl (by decide +kernel)
/-! ### where they stand -/
/-- ties stand, by their rows -/
def Ties (C : Addr) (H : Hp) : List V → List Row → Prop := Paired fun v r => ∃ q, v = V.ref q ∧ TieAt C H q r
/-- notes stand -/
def NoteAt (H : Hp) (q : Addr) (p : Int × Int) : Prop := H q = some (.tup [.int p.1, .int p.2])
def Notes (H : Hp) : List V → List (Int × Int) → Prop := Paired fun v p => ∃ q, v = V.ref q ∧ NoteAt H q p
/-- rows stand as tuples -/
def RowsAt (H : Hp) : List V → List Row → Prop := Paired fun v r => ∃ q, v = V.ref q ∧ RowAt H q r
theorem Paired.imp {α β : Type} {F G : α → β → Prop} (f : ∀ a b, F a b → G a b) : ∀ {xs : List α} {ys : List β}, Paired F xs ys → Paired G xs ys
  | _, _, .nil => .nil
  | _, _, .cons r t => .cons (f _ _ r) (Paired.imp f t)
theorem Paired.snoc {α β : Type} {F : α → β → Prop} {a : α} {b : β} (h : F a b) : ∀ {xs : List α} {ys : List β}, Paired F xs ys → Paired F (xs ++ [a]) (ys ++ [b])
  | _, _, .nil => .cons h .nil
  | _, _, .cons r t => .cons r (Paired.snoc h t)
theorem Paired.app {α β : Type} {F : α → β → Prop} {zs : List α} {ws : List β} (h : Paired F zs ws) : ∀ {xs : List α} {ys : List β}, Paired F xs ys → Paired F (xs ++ zs) (ys ++ ws)
  | _, _, .nil => h
  | _, _, .cons r t => .cons r (Paired.app h t)
theorem Paired.at {α β : Type} {F : α → β → Prop} : ∀ {xs : List α} {ys : List β}, Paired F xs ys → ∀ {i : Nat} {x : α}, xs[i]? = some x → ∃ y, ys[i]? = some y ∧ F x y
  | _, _, .nil, i, x, e => by simp at e
  | _, _, .cons r t, 0, x, e => by
    simp at e
    subst e
    exact ⟨_, rfl, r⟩
  | _, _, .cons r t, i + 1, x, e => by
    obtain ⟨y, e1, e2⟩ := Paired.at t (i := i) (x := x) (by simpa using e)
    exact ⟨y, by simpa using e1, e2⟩
theorem Paired.len {α β : Type} {F : α → β → Prop} : ∀ {xs : List α} {ys : List β}, Paired F xs ys → xs.length = ys.length
  | _, _, .nil => rfl
  | _, _, .cons _ t => by rw [List.length_cons, List.length_cons, Paired.len t]
theorem Ties.same {C : Addr} {H H' : Hp} (s : Same H H') {xs : List V} {ts : List Row} (h : Ties C H xs ts) : Ties C H' xs ts := Paired.imp (fun _ _ ⟨q, e, t⟩ => ⟨q, e, Same.tie s t⟩) h
theorem Notes.same {H H' : Hp} (s : Same H H') {xs : List V} {ns : List (Int × Int)} (h : Notes H xs ns) : Notes H' xs ns := Paired.imp (fun _ _ ⟨q, e, t⟩ => ⟨q, e, s _ _ t⟩) h
theorem RowsAt.same {H H' : Hp} (s : Same H H') {xs : List V} {ts : List Row} (h : RowsAt H xs ts) : RowsAt H' xs ts := Paired.imp (fun _ _ ⟨q, e, t⟩ => ⟨q, e, s _ _ t⟩) h
/-- the attributes of a book, in the sequence in which __init__ stores them -/
def bfs1 (t : Str) : List (Str × V) := putF "text" (.str t) []
def bfs2 (t : Str) (z : Int) : List (Str × V) := putF "size" (.int z) (bfs1 t)
def bfs3 (t : Str) (z : Int) (ta : Addr) : List (Str × V) := putF "ties" (.ref ta) (bfs2 t z)
def bfs (t : Str) (z : Int) (ta na : Addr) : List (Str × V) := putF "notes" (.ref na) (bfs3 t z ta)
theorem bfs_lookup (t : Str) (z : Int) (ta na : Addr) (g : Str) : (bfs t z ta na).lookup g = if g = "notes" then some (.ref na) else if g = "ties" then some (.ref ta) else if g = "size" then some (.int z) else if g = "text" then some (.str t) else none := by
  unfold bfs bfs3 bfs2 bfs1
  rw [lookup_putF, lookup_putF, lookup_putF, lookup_putF]
  rfl
theorem bfs_notes (t : Str) (z : Int) (ta na : Addr) : (bfs t z ta na).lookup ("notes" : Str) = some (.ref na) := by rw [bfs_lookup, if_pos rfl]
theorem bfs_ties (t : Str) (z : Int) (ta na : Addr) : (bfs t z ta na).lookup ("ties" : Str) = some (.ref ta) := by rw [bfs_lookup, if_neg (by decide +kernel), if_pos rfl]
theorem bfs_size (t : Str) (z : Int) (ta na : Addr) : (bfs t z ta na).lookup ("size" : Str) = some (.int z) := by rw [bfs_lookup, if_neg (by decide +kernel), if_neg (by decide +kernel), if_pos rfl]
theorem bfs_text (t : Str) (z : Int) (ta na : Addr) : (bfs t z ta na).lookup ("text" : Str) = some (.str t) := by rw [bfs_lookup, if_neg (by decide +kernel), if_neg (by decide +kernel), if_neg (by decide +kernel), if_pos rfl]
/-- a tuple that is known to have no dict -/
def FT (H : Hp) (a : Addr) (xs : List V) : Prop := ∃ o : Obj, H a = some (.frz o (.tup xs)) ∧ o.dict = none
theorem FT.sq {K : PySem.W.Frag} {H : Hp} {a : Addr} {xs : List V} (h : FT H a xs) : SqT K H a xs := .inl (.inr (h.imp fun _ h => h.1))
theorem FT.same {H H' : Hp} {a : Addr} {xs : List V} (h : FT H a xs) (s : Same H H') : FT H' a xs := h.imp fun _ h => ⟨s _ _ h.1, h.2⟩
/-- a book that tells b stands at q; its text is t -/
structure BookIs (C B : Addr) (H : Hp) (q : Addr) (t : Str) (b : Lore) (dx ta na : Addr) (tr nr : List V) : Prop where
  ins : H q = some (.ins B dx (bfs t b.z ta na))
  ties : H ta = some (.tup tr)
  notes : FT H na nr
  ts : Ties C H tr b.ts
  ns : Notes H nr b.ns
def BookAt (C B : Addr) (H : Hp) (q : Addr) (t : Str) (b : Lore) : Prop := ∃ dx ta na tr nr, BookIs C B H q t b dx ta na tr nr
theorem BookAt.same {C B : Addr} {H H' : Hp} (s : Same H H') {q : Addr} {t : Str} {b : Lore} (h : BookAt C B H q t b) : BookAt C B H' q t b := by
  obtain ⟨dx, ta, na, tr, nr, h⟩ := h
  exact ⟨dx, ta, na, tr, nr, s _ _ h.ins, s _ _ h.ties, h.notes.same s, h.ts.same s, h.ns.same s⟩
end TT


set_option maxHeartbeats 4000000
namespace TT
open PySem PySem.Spec PyProof.Rows L2 LamX TL
/-! ### lines read, of a book that stands -/
theorem ints_flat (is : List Int) : (is.map V.int).all flatV = true := by
  induction is with
  | nil => rfl
  | cons a t ih =>
    rw [List.map_cons, List.all_cons, ih]
    rfl
theorem non_notin (is : List Int) : inV .non (is.map V.int) = false := by
  induction is with
  | nil => rfl
  | cons a t ih =>
    unfold inV at ih ⊢
    rw [List.map_cons, List.any_cons, ih]
    rfl
theorem cut_tail (x : V) (xs : List V) : cutV (x :: xs) (some 1) none = xs := by
  unfold cutV
  have e1 : HT.sIx (x :: xs).length 0 (some 1) = 1 := by
    show (if (1 : Int) < 0 then ((1 : Int) + ((x :: xs).length : Int)).toNat else min (1 : Int).toNat (x :: xs).length) = 1
    rw [if_neg (by decide), List.length_cons]
    show min 1 (xs.length + 1) = 1
    omega
  have e2 : HT.sIx (x :: xs).length (x :: xs).length none = (x :: xs).length := rfl
  rw [e1, e2, List.length_cons, List.drop_one, List.tail_cons]
  exact List.take_of_length_le (by omega)
theorem at_head {x : V} {xs : List V} : atI (x :: xs) 0 = some x := atI_nat (j := 0) rfl
theorem take_snoc {α : Type} {l : List α} {i : Nat} {x : α} (h : l[i]? = some x) : l.take (i + 1) = l.take i ++ [x] := by
  rw [List.take_add_one, h]
  rfl
def sp_numbers_behind : Sp := fun vs H Q _ => ∃ (line word : Str) (ws : List Str) (is : List Int), vs = [.str line, .str word, .int (ws.length : Int)] ∧ Txt.split line (Str.ofString " ") = word :: ws ∧ line.length ≤ 1000 ∧ (∀ w ∈ ws, w.length ≤ 63) ∧ ws.length ≤ 100 ∧
  ws.map numRead = is.map some ∧ ∀ x H', H x = none → Same H H' → H' x = some (.tup (is.map V.int)) → Q (.ref x) H'
def sp_size_in : Sp := fun vs H Q _ => ∃ z : Int, vs = [.str (sizeL z)] ∧ 1 ≤ z ∧ z ≤ 10 ^ 30 ∧ ∀ H', Same H H' → Q (.int z) H'
def sp_note_in : Sp := fun vs H Q _ => ∃ (p : Int × Int) (z : Int), vs = [.str (noteL p), .int z] ∧ NoteIn p z ∧ z ≤ 10 ^ 30 ∧ ∀ x H', H x = none → Same H H' → NoteAt H' x p → Q (.ref x) H'
def sp_tie_behind (C : Addr) : Sp := fun vs H Q _ => (∃ (r : Row) (fl : Bool), vs = [.str (tieF fl r), .str (Str.ofString "tie")] ∧ r.Ok ∧ ∀ x H', H x = none → Same H H' → TieAt C H' x r → Q (.ref x) H') ∨
  ∃ (p : Int × Int) (z : Int), vs = [.str (noteL p), .str (Str.ofString "tie")] ∧ NoteIn p z ∧ z ≤ 10 ^ 30 ∧ ∀ H', Same H H' → Q .non H'
/-- a thing that is none of the class at C -/
def NotC (K : PySem.W.Frag) (C : Addr) (H : Hp) (v : V) : Prop := ∃ t, TyX K H v t ∧ PySem.W.kitOne K t (.ref C) = some false
def sp_is_tie_within (K : PySem.W.Frag) (C : Addr) : Sp := fun vs H Q _ => (∃ (q : Addr) (r : Row) (z : Int), vs = [.ref q, .int z] ∧ TieAt C H q r ∧ Q (.bl (decide ((if r.s > r.f then r.s else r.f) + r.l ≤ z))) H) ∨ ∃ (v : V) (z : Int), vs = [v, .int z] ∧ NotC K C H v ∧ Q (.bl false) H
def sp_tie_in (C : Addr) : Sp := fun vs H Q _ => (∃ (r : Row) (z : Int) (fl : Bool), vs = [.str (tieF fl r), .int z] ∧ r.In z ∧ ∀ x H', H x = none → Same H H' → TieAt C H' x r → Q (.ref x) H') ∨
  ∃ (p : Int × Int) (z : Int), vs = [.str (noteL p), .int z] ∧ NoteIn p z ∧ z ≤ 10 ^ 30 ∧ ∀ H', Same H H' → Q .non H'
section
variable {P : Program} {w : World} {K : PySem.W.Frag} {mg : Str → Option Value} {base : Heap} {Z : Zs}
theorem ok_numbers_behind (T : Txt K mg Z) : FnOk P w K mg base CX0 3 Z.f_numbers_behind Z.d_numbers_behind ["line", "word", "many"] sp_numbers_behind := by
  refine T.F_numbers_behind.ok sc_numbers_behind (fun vs H Q E h => ?_) (fun cdv A outer s H vs Q E hr h => ?_)
  · obtain ⟨l, w, ws, is, rfl, _⟩ := h
    rfl
  · obtain ⟨line, word, ws, is, rfl, hs, hl, hw, hn, hm, k⟩ := h
    have sl : sizeLine = 16777216 := sizeLine_eq
    refine ⟨_, (pss_cons (ps_set (i := 3) sc_numbers_behind.nd rfl (Or.inl rfl) (pe_split (pv 0) pe_str))
      (pss_cons (ps_if (PW.pt (pw_or (pt_cmpR op_ne (pe_callB  call_len (by rfl) T.b_len (by decide +kernel) (pa_cons (pv 3) pa_nil)) (pe_op op_add (pv 2) pe_int) (nomark _)) (pw_or1 (pt_cmpR op_ne (pe_ix ix_list (pv 3) pe_int (fun _ _ => rfl)) (pv 1) (nomark _))))) (pss_one (ps_ret pe_non)) pss_nil)
      (pss_cons (ps_setLc (i := 4) (own := [("one", 5)]) rfl sc_numbers_behind.nd rfl rfl (sw_true rfl rfl rfl (by decide +kernel)) (pi_list (pe_slice sl_list (pv 3) (po_some pe_int) po_none)) (blkOk_by (own := [("one", 5)]) (N := ["line", "word", "many", "words", "numbers", "one"]) (sc := defScope s_numbers_behind) (by decide +kernel)) (fun _ _ _ _ _ => (pg_name (i := 5) sc_numbers_behind.nd rfl (Or.inl rfl))) (fun _ _ _ _ _ => pts_nil) (fun _ _ _ _ _ => (pe_call (ok_number_in T) (hr.mono (by decide)) rfl T.g_number_in T.k_number_in T.bn_number_in .nil pass0 (pa_cons (pv 5) pa_nil))))
      (pss_one (ps_ret (pe_ifExp (pt_cmpR op_in_seq pe_non (pv 4) (by with_unfolding_all rfl)) pe_non (pe_callTy call_tuple_of (by rfl) T.b_tuple (by decide +kernel) (pa_cons (pv 4) pa_nil)))))))), ?_⟩
    refine ⟨_, rfl, ⟨_, rfl⟩, _, _, rfl, rfl, by decide, by omega, fun wl hwl => ?_⟩
    rw [hs]
    have sW := Same.new (o := .lst ((word :: ws).map V.str)) (Same.refl H) hwl
    have atW : upd H wl (.lst ((word :: ws).map V.str)) wl = some (.lst (V.str word :: ws.map V.str)) := upd_same
    generalize upd H wl (.lst ((word :: ws).map V.str)) = H1 at sW atW ⊢
    refine ⟨_, rfl, _, _, rfl, .inl ⟨_, SqL.of atW, rfl⟩, _, rfl, _, _, rfl, rfl, rfl, false, ?_, iteF ?_⟩
    · rw [List.length_cons, List.length_map, decide_eq_true]
      · rfl
      · rfl
    refine ⟨_, rfl, wl, _, _, _, rfl, rfl, SqL.of atW, at_head, _, rfl, rfl, false, by rw [decide_eq_true rfl] <;> rfl, iteF ?_⟩
    refine ⟨_, rfl, _, rfl, wl, _, rfl, SqL.of atW, fun w2 hw2 => ⟨w2, rfl, ⟨_, SqL.of upd_same⟩, fun D hD => ?_⟩⟩
    rw [cut_tail] at hD ⊢
    have s2 := Same.new (o := .lst (ws.map V.str)) (Same.refl H1) hw2
    have at2 : upd H1 w2 (.lst (ws.map V.str)) w2 = some (.lst (ws.map V.str)) := upd_same
    generalize upd H1 w2 (.lst (ws.map V.str)) = H2 at s2 at2 hD ⊢
    have hlen : ws.length = is.length := by simpa using congrArg List.length hm
    have sD := Same.new (o := .lst []) (Same.refl H2) hD
    refine lc_list (xs := ws.map V.str) (fun i H' => H' D = some (.lst ((is.map V.int).take i)) ∧ Same H2 H') ⟨upd_same, sD⟩ (fun i H' _ h => SqL.of (h.2 _ _ at2)) ?_ ?_
    · rintro i x H' hi ⟨hDi, sm⟩
      refine ⟨rfl, ?_⟩
      unfold tYes
      refine iteT ?_
      rw [List.getElem?_map] at hi
      obtain ⟨v, hv, rfl⟩ := Option.map_eq_some_iff.mp hi
      have hvl : v.length ≤ 63 := hw v (List.mem_of_getElem? hv)
      have hnv : (is.map some)[i]? = some (numRead v) := by rw [← hm, List.getElem?_map, hv] <;> rfl
      rw [List.getElem?_map] at hnv
      obtain ⟨n, hin, en⟩ := Option.map_eq_some_iff.mp hnv
      refine ⟨_, rfl, v, rfl, hvl, ?_⟩
      rw [← en]
      have tl' := List.length_take_le i (is.map V.int)
      have il : i < is.length := (List.getElem?_eq_some_iff.mp hin).1
      refine ⟨_, hDi, by omega, ?_, fun b u e => ?_⟩
      · rw [upd_same, take_snoc (x := V.int n) (by rw [List.getElem?_map, hin] <;> rfl)]
        rfl
      · rw [upd_ne (ne_of_none e hD)]
        exact sm b u e
    · rintro H4 ⟨hD4, s4⟩
      rw [List.take_of_length_le (by rw [List.length_map, List.length_map]; omega)] at hD4
      refine ⟨_, rfl, D, _, rfl, .inl (SqL.of hD4), rfl, ints_flat is, false, by rw [non_notin] <;> rfl, iteF ?_⟩
      have sN := (sW.trans s2).trans s4
      exact ⟨_, rfl, D, _, rfl, .inl ⟨SqL.of hD4, fun l hl => k l _ (L2.Same.free sN hl) (Same.new sN hl) upd_same⟩⟩
theorem ok_size_in (T : Txt K mg Z) : FnOk P w K mg base CX0 4 Z.f_size_in Z.d_size_in ["line"] sp_size_in := by
  refine T.F_size_in.ok sc_size_in (fun vs H Q E h => ?_) (fun cdv A outer s H vs Q E hr h => ?_)
  · obtain ⟨z, rfl, _⟩ := h
    rfl
  · obtain ⟨z, rfl, z0, z1, k⟩ := h
    refine ⟨_, (pss_cons (ps_set (i := 1) sc_size_in.nd rfl (Or.inl rfl) (pe_call (ok_numbers_behind T) (hr.mono (by decide)) rfl T.g_numbers_behind T.k_numbers_behind T.bn_numbers_behind .nil pass0 (pa_cons (pv 0) (pa_cons pe_str (pa_cons pe_int pa_nil)))))
      (pss_one (ps_ret (pe_ifExp (PW.pt (pw_and (pt_cmpR op_notN (pv 1) pe_non (nomark _)) (pw_and1 (pt_val (pe_call (ok_is_between T) (hr.mono (by decide)) rfl T.g_is_between T.k_is_between T.bn_is_between .nil pass0 (pa_cons (pe_ix ix_tup (pv 1) pe_int (fun _ _ => rfl)) (pa_cons pe_int (pa_cons (pe_glob (v := .int 1000000000000000000000000000000) rfl T.c_GREATEST ⟨_, rfl⟩) pa_nil)))))))) (pe_ix ix_tup (pv 1) pe_int (fun _ _ => rfl)) pe_non)))), ?_⟩
    have nl := num_len (n := z) (by omega) z1
    refine ⟨_, rfl, sizeL z, Str.ofString "size", [Str.ofString (toString z)], [z], rfl, size_split (by omega), ?_, ?_, by show 1 ≤ 100; decide, by rw [List.map_cons, read_int (by omega)] <;> rfl, fun x H1 nx s1 hx => ?_⟩
    · unfold sizeL
      have e : (Str.ofString "size ").length = 5 := by decide
      rw [Str.length_append]
      omega
    · intro v hv
      rw [List.mem_singleton.mp hv]
      omega
    have e30 : (10 : Int) ^ 30 = 1000000000000000000000000000000 := by decide +kernel
    refine ⟨_, rfl, rfl, true, rfl, iteT ?_⟩
    refine ⟨_, rfl, x, _, _, _, rfl, rfl, SqT.of hx, rfl, .inl ⟨z, 1, _, rfl, true, ?_, iteT ?_⟩⟩
    · rw [decide_eq_true z0, decide_eq_true (by omega)] <;> rfl
    exact ⟨_, rfl, x, _, _, _, rfl, rfl, SqT.of hx, rfl, k H1 s1⟩
theorem ok_note_in (T : Txt K mg Z) : FnOk P w K mg base CX0 4 Z.f_note_in Z.d_note_in ["line", "size"] sp_note_in := by
  refine T.F_note_in.ok sc_note_in (fun vs H Q E h => ?_) (fun cdv A outer s H vs Q E hr h => ?_)
  · obtain ⟨p, z, rfl, _⟩ := h
    rfl
  · obtain ⟨p, z, rfl, hp, hz, k⟩ := h
    refine ⟨_, (pss_cons (ps_set (i := 2) sc_note_in.nd rfl (Or.inl rfl) (pe_call (ok_numbers_behind T) (hr.mono (by decide)) rfl T.g_numbers_behind T.k_numbers_behind T.bn_numbers_behind .nil pass0 (pa_cons (pv 0) (pa_cons pe_str (pa_cons pe_int pa_nil)))))
      (pss_one (ps_ret (pe_ifExp (PW.pt (pw_and (pt_cmpR op_notN (pv 2) pe_non (nomark _)) (pw_and1 (pt_val (pe_call (ok_is_between T) (hr.mono (by decide)) rfl T.g_is_between T.k_is_between T.bn_is_between .nil pass0 (pa_cons (pe_ix ix_tup (pv 2) pe_int (fun _ _ => rfl)) (pa_cons pe_int (pa_cons (pe_op op_sub (pv 1) pe_int) pa_nil)))))))) (pv 2) pe_non)))), ?_⟩
    have p0 := hp.p0; have pz := hp.pz
    have nl := num_len (n := p.1) p0 (by omega)
    have al := shown_len60 hp.lo hp.hi
    have ll := note_len hp hz
    refine ⟨_, rfl, noteL p, Str.ofString "note", [Str.ofString (toString p.1), shownInt p.2], [p.1, p.2], rfl, note_split p0, by omega, ?_, by show 2 ≤ 100; decide, by rw [List.map_cons, List.map_cons, read_int p0, read_shown] <;> rfl, fun x H1 nx s1 hx => ?_⟩
    · intro v hv
      simp only [List.mem_cons, List.not_mem_nil, or_false] at hv
      rcases hv with rfl | rfl <;> omega
    refine ⟨_, rfl, rfl, true, rfl, iteT ?_⟩
    refine ⟨_, rfl, x, _, _, _, rfl, rfl, SqT.of hx, rfl, _, rfl, _, _, rfl, rfl, .inl ⟨p.1, 0, z - 1, rfl, true, ?_, iteT ?_⟩⟩
    · rw [decide_eq_true p0, decide_eq_true (by omega)] <;> rfl
    exact ⟨_, rfl, k x H1 nx s1 hx⟩
theorem ok_is_tie_within (T : Txt K mg Z) : FnOk P w K mg base CX0 1 Z.f_is_tie_within Z.d_is_tie_within ["value", "size"] (sp_is_tie_within K Z.cC) := by
  refine T.F_is_tie_within.ok sc_is_tie_within (fun vs H Q E h => ?_) (fun cdv A outer s H vs Q E hr h => ?_)
  · rcases h with ⟨q, r, z, rfl, _⟩ | ⟨v, z, rfl, _⟩ <;> rfl
  · refine ⟨_, (pss_one (ps_ret (pe_and (pe_callB  call_isi (by rfl) T.b_isinstance (by decide +kernel) (pa_cons (pv 0) (pa_cons (pe_glob (v := .ref Z.cC) rfl T.g_C rfl) pa_nil))) (pe_one (pe_cmpR op_le (pe_op op_add (pe_callB  (call_max2 rfl) (by rfl) T.b_max (by decide +kernel) (pa_cons (pe_fld (pv 0) rfl) (pa_cons (pe_fld (pv 0) rfl) pa_nil))) (pe_fld (pv 0) rfl)) (pv 1) (nomark _)))))), ?_⟩
    rcases h with ⟨q, r, z, rfl, ⟨dx, hq⟩, k⟩ | ⟨v, z, rfl, ⟨t, ty, kt⟩, k⟩
    · refine ⟨_, rfl, _, _, _, _, true, rfl, .own Z.cC, .base (.ins hq T.cl T.z_cls T.z_get T.z_tk T.z_mro), T.z_kit, true, rfl, iteT ?_⟩
      exact ⟨_, rfl, q, _, dx, _, _, rfl, hq, T.cl, T.n_first, tfs_first r, _, rfl, q, _, dx, _, _, rfl, hq, T.cl, T.n_second, tfs_second r, _, _, rfl, _, rfl, q, _, dx, _, _, rfl, hq, T.cl, T.n_length, tfs_length r, _, _, rfl, rfl, _, rfl, _, _, rfl, rfl, k⟩
    · exact ⟨_, rfl, _, _, _, _, false, rfl, .own Z.cC, ty, kt, false, rfl, iteF k⟩
theorem ok_tie_behind (T : Txt K mg Z) : FnOk P w K mg base CX0 7 Z.f_tie_behind Z.d_tie_behind ["line", "word"] (sp_tie_behind Z.cC) := by
  refine T.F_tie_behind.ok sc_tie_behind (fun vs H Q E h => ?_) (fun cdv A outer s H vs Q E hr h => ?_)
  · rcases h with ⟨r, fl, rfl, _⟩ | ⟨p, z, rfl, _⟩ <;> rfl
  · have sl : sizeLine = 16777216 := sizeLine_eq
    refine ⟨_, (pss_cons (ps_asg (pe_m1 PySem.F.slot_str_partition PySem.F.type_str_partition mt_partition (pv 0) pe_str) (pg_tup rfl (pgs_cons (pg_name (i := 2) sc_tie_behind.nd rfl (Or.inl rfl)) (pgs_cons (pg_name (i := 3) sc_tie_behind.nd rfl (Or.inl rfl)) (pgs_cons (pg_name (i := 4) sc_tie_behind.nd rfl (Or.inl rfl)) pgs_nil)))))
      (pss_cons (ps_if (pt_cmpR op_ne (pv 2) (pv 1) (nomark _)) (pss_one (ps_ret pe_non)) pss_nil)
      (pss_cons (ps_try_thru0 (pss_one (ps_set (i := 5) sc_tie_behind.nd rfl (Or.inl rfl) (pe_stat (mc := .type "type") (pe_glob (v := .ref Z.cC) rfl T.g_C rfl) T.z_read T.z_sta (ok_T_of T) (hr.mono (by decide)) T.bn_T_of pass0 (pa_cons (pv 4) pa_nil)))))
      (pss_one (ps_ret (pv 5)))))), ?_⟩
    rcases h with ⟨r, fl, rfl, ok, k⟩ | ⟨p, z, rfl, hp, hz, k⟩
    · have hl := tie_lenF (fl := fl) ok
      refine ⟨_, rfl, ⟨_, rfl⟩, _, _, rfl, rfl, by decide, by omega, fun t ht => ?_⟩
      rw [tie_partsF]
      refine ⟨t, _, rfl, SqT.of upd_same, rfl, _, _, rfl, _, _, rfl, _, _, rfl, rfl, ?_⟩
      have s1 := Same.new (o := .tup [.str (Str.ofString "tie"), .str (Str.ofString " "), .str (rowText r ((fl && decide (r.l = 1)) || r.b))]) (Same.refl H) ht
      refine ⟨_, rfl, _, rfl, rfl, _, rfl, ?_⟩
      rw [decide_eq_true rfl]
      refine iteF ⟨rfl, _, rfl, r, ((fl && decide (r.l = 1)) || r.b), rfl, ok, ?_, fun x H1 nx s2 hx => ⟨_, rfl, k x H1 (L2.Same.free s1 nx) (s1.trans s2) hx⟩⟩
      cases hb : r.b with
      | true => rw [decide_eq_true (ok.bk hb), Bool.or_true] <;> rfl
      | false =>
        by_cases c : r.l = 1
        · rw [c, decide_eq_false (by decide : ¬ (1 : Int) < 1), Bool.and_false]
        · rw [decide_eq_false c, Bool.and_false] <;> rfl
    · have hl := note_len hp hz
      refine ⟨_, rfl, ⟨_, rfl⟩, _, _, rfl, rfl, by decide, by omega, fun t ht => ?_⟩
      rw [note_parts]
      refine ⟨t, _, rfl, SqT.of upd_same, rfl, _, _, rfl, _, _, rfl, _, _, rfl, rfl, ?_⟩
      refine ⟨_, rfl, _, rfl, rfl, _, rfl, ?_⟩
      rw [show decide (V.str (Str.ofString "note") = V.str (Str.ofString "tie")) = false by decide +kernel]
      exact iteT (k _ (Same.new (Same.refl H) ht))
theorem ok_tie_in (T : Txt K mg Z) : FnOk P w K mg base CX0 8 Z.f_tie_in Z.d_tie_in ["line", "size"] (sp_tie_in Z.cC) := by
  refine T.F_tie_in.ok sc_tie_in (fun vs H Q E h => ?_) (fun cdv A outer s H vs Q E hr h => ?_)
  · rcases h with ⟨r, z, fl, rfl, _⟩ | ⟨p, z, rfl, _⟩ <;> rfl
  · refine ⟨_, (pss_cons (ps_set (i := 2) sc_tie_in.nd rfl (Or.inl rfl) (pe_call (ok_tie_behind T) (hr.mono (by decide)) rfl T.g_tie_behind T.k_tie_behind T.bn_tie_behind .nil pass0 (pa_cons (pv 0) (pa_cons pe_str pa_nil))))
      (pss_one (ps_ret (pe_ifExp (pt_val (pe_call (ok_is_tie_within T) (hr.mono (by decide)) rfl T.g_is_tie_within T.k_is_tie_within T.bn_is_tie_within .nil pass0 (pa_cons (pv 2) (pa_cons (pv 1) pa_nil)))) (pv 2) pe_non)))), ?_⟩
    rcases h with ⟨r, z, fl, rfl, hr', k⟩ | ⟨p, z, rfl, hp, hz, k⟩
    · refine ⟨_, rfl, .inl ⟨r, fl, rfl, hr'.ok, fun x H1 nx s1 hx => ?_⟩⟩
      refine ⟨_, rfl, _, rfl, .inl ⟨x, r, z, rfl, hx, true, ?_, iteT ⟨_, rfl, k x H1 nx s1 hx⟩⟩⟩
      have := hr'.fz; have := hr'.sz
      rw [decide_eq_true]
      split <;> omega
    · exact ⟨_, rfl, .inr ⟨p, z, rfl, hp, hz, fun H1 s1 => ⟨_, rfl, _, rfl, .inr ⟨.non, z, rfl, ⟨_, .base .non, T.z_kitN⟩, false, rfl, iteF (k H1 s1)⟩⟩⟩⟩
end
end TT

set_option maxHeartbeats 4000000
namespace TT
open PySem PySem.Spec PyProof.Rows L2 LamX TL
/-! ### a book's text read -/
theorem TieAt.put {C D x : Addr} {H : Hp} {xs : List V} {o : HO} {r : Row} (hD : H D = some (.lst xs)) (h : TieAt C H x r) : TieAt C (upd H D o) x r := by
  obtain ⟨dx, e⟩ := h
  exact ⟨dx, by rw [upd_ne (ne_of e hD fun z => nomatch z)]; exact e⟩
theorem Ties.put {C D : Addr} {H : Hp} {xs : List V} {o : HO} (hD : H D = some (.lst xs)) {tr : List V} {ts : List Row} (h : Ties C H tr ts) : Ties C (upd H D o) tr ts := Paired.imp (fun _ _ ⟨q, e, t⟩ => ⟨q, e, t.put hD⟩) h
theorem Notes.put {D : Addr} {H : Hp} {xs : List V} {o : HO} (hD : H D = some (.lst xs)) {tr : List V} {ns : List (Int × Int)} (h : Notes H tr ns) : Notes (upd H D o) tr ns :=
  Paired.imp (fun _ _ ⟨q, e, t⟩ => ⟨q, e, (upd_ne (ne_of t hD fun z => nomatch z)).trans t⟩) h
theorem same_put {D : Addr} {H H1 : Hp} {o : HO} (s : Same H H1) (hD : H D = none) : Same H (upd H1 D o) := fun b u e => by
  rw [upd_ne (ne_of_none e hD)]
  exact s b u e
theorem in_firsts {p : Int} (ns : List (Int × Int)) : inV (.int p) (ns.map fun q => V.int q.1) = decide (p ∈ ns.map (·.1)) := by
  induction ns with
  | nil => rfl
  | cons a t ih =>
    unfold inV at ih ⊢
    rw [List.map_cons, List.any_cons, ih, List.map_cons]
    show ((a.1 == p) || _) = _
    by_cases c : a.1 = p
    · subst c
      simp
    · have c' : ¬ p = a.1 := fun e => c e.symm
      rw [beq_eq_false_iff_ne.mpr c]
      simp [c']
theorem firsts_flat (ns : List (Int × Int)) : (ns.map fun q => V.int q.1).all flatV = true := by
  induction ns with
  | nil => rfl
  | cons a t ih =>
    rw [List.map_cons, List.all_cons, ih]
    rfl
theorem cut_at {x : V} {xs ys : List V} {n : Int} (h : n = 1 + (xs.length : Int)) : cutV (x :: (xs ++ ys)) (some n) none = ys := by
  subst h
  unfold cutV
  have e1 : HT.sIx (x :: (xs ++ ys)).length 0 (some (1 + (xs.length : Int))) = xs.length + 1 := by
    show (if (1 + (xs.length : Int)) < 0 then ((1 + (xs.length : Int)) + ((x :: (xs ++ ys)).length : Int)).toNat else min (1 + (xs.length : Int)).toNat (x :: (xs ++ ys)).length) = _
    rw [if_neg (by omega), List.length_cons, List.length_append]
    omega
  have e2 : HT.sIx (x :: (xs ++ ys)).length (x :: (xs ++ ys)).length none = (x :: (xs ++ ys)).length := rfl
  rw [e1, e2, List.drop_succ_cons, List.drop_left]
  exact List.take_of_length_le (by rw [List.length_cons, List.length_append]; omega)
def sp_has_note : Sp := fun vs H Q _ => ∃ (a : Addr) (p : Int) (nr : List V) (ns : List (Int × Int)), vs = [.ref a, .int p] ∧ (H a = some (.lst nr) ∨ FT H a nr) ∧ Notes H nr ns ∧ nr.length ≤ 1000 ∧ ∀ H', Same H H' → Q (.bl (decide (p ∈ ns.map (·.1)))) H'
def sp_first_ties (C : Addr) : Sp := fun vs H Q _ => ∃ (a : Addr) (z : Int) (ts : List Row) (ns : List (Int × Int)) (fl : Bool), vs = [.ref a, .int z] ∧ H a = some (.lst ((ts.map (tieF fl) ++ ns.map noteL).map V.str)) ∧ z ≤ 10 ^ 30 ∧ (∀ r ∈ ts, r.In z) ∧ (∀ p ∈ ns, NoteIn p z) ∧ ts.length ≤ 12 ∧
  ∀ x tr H', H x = none → Same H H' → H' x = some (.lst tr) → Ties C H' tr ts → Q (.ref x) H'
def sp_first_notes : Sp := fun vs H Q _ => ∃ (a : Addr) (z : Int) (ns : List (Int × Int)), vs = [.ref a, .int z] ∧ H a = some (.lst ((ns.map noteL).map V.str)) ∧ z ≤ 10 ^ 30 ∧ (∀ p ∈ ns, NoteIn p z) ∧ ns.length ≤ 12 ∧ (ns.map (·.1)).Nodup ∧
  ∀ x nr H', H x = none → Same H H' → H' x = some (.lst nr) → Notes H' nr ns → Q (.ref x) H'
def sp_contents (C : Addr) : Sp := fun vs H Q _ => ∃ (b : Lore) (fl : Bool), vs = [.str (b.textF fl)] ∧ b.Ok ∧ ∀ x ta na tr nr H', Same H H' → H' x = some (.tup [.int b.z, .ref ta, .ref na]) → H' ta = some (.tup tr) → FT H' na nr → Ties C H' tr b.ts → Notes H' nr b.ns → Q (.ref x) H'
def sp_B_init (C B : Addr) : Sp := fun vs H Q _ => ∃ (p dx : Addr) (b : Lore) (fl : Bool), vs = [.ref p, .str (b.textF fl)] ∧ b.Ok ∧ H p = some (.ins B dx []) ∧ ∀ H', BookAt C B H' p (b.textF fl) b → Keep p H H' → Q .non H'
section
variable {P : Program} {w : World} {K : PySem.W.Frag} {mg : Str → Option Value} {base : Heap} {Z : Zs}
theorem ok_has_note (T : Txt K mg Z) : FnOk P w K mg base CX0 1 Z.f_has_note Z.d_has_note ["notes", "place"] sp_has_note := by
  refine T.F_has_note.ok sc_has_note (fun vs H Q E h => ?_) (fun cdv A outer s H vs Q E hr h => ?_)
  · obtain ⟨a, p, nr, ns, rfl, _⟩ := h
    rfl
  · obtain ⟨a, p, nr, ns, rfl, ha, hns, hl, k⟩ := h
    rcases ha with ha | ha
    · skip
      have sl : sizeLine = 16777216 := sizeLine_eq
      refine ⟨_, (pss_one (ps_ret (pe_cmpR op_in_seq (pv 1) (pe_lc (own := [("told", 2), ("_", 3)]) rfl sc_has_note.nd (pi_list (pv 0)) (blkOk_by (own := [("told", 2), ("_", 3)]) (N := ["notes", "place", "told", "_"]) (sc := defScope s_has_note) (by decide +kernel)) (fun _ _ _ _ _ => (show PG _ _ (gTup K 2 _) from (pg_tup rfl (pgs_cons (pg_name (i := 2) sc_has_note.nd rfl (Or.inl rfl)) (pgs_cons (pg_name (i := 3) sc_has_note.nd rfl (Or.inl rfl)) pgs_nil))))) (fun _ _ _ _ _ => pts_nil) (fun _ _ _ _ _ => (pv 2))) (by with_unfolding_all rfl)))), ?_⟩
      refine ⟨_, rfl, _, rfl, a, rfl, ⟨_, SqL.of ha⟩, fun D hD => ?_⟩
      have ne := Paired.len hns
      refine lc_list (xs := nr) (fun i H' => H' D = some (.lst ((ns.map fun q => V.int q.1).take i)) ∧ Same H H') ⟨upd_same, Same.new (Same.refl H) hD⟩ (fun i H' _ h => SqL.of (h.2 _ _ ha)) ?_ ?_
      · rintro i x H' hi ⟨hDi, sm⟩
        obtain ⟨q, hq, y, rfl, hy⟩ := Paired.at hns hi
        have il : i < ns.length := (List.getElem?_eq_some_iff.mp hq).1
        refine ⟨y, _, rfl, SqT.of (sm _ _ hy), rfl, _, _, rfl, _, _, rfl, rfl, rfl, ?_⟩
        unfold tYes
        refine iteT ⟨_, rfl, _, hDi, ?_, ?_, same_put sm hD⟩
        · have := List.length_take_le i (ns.map fun q => V.int q.1)
          omega
        · rw [upd_same, take_snoc (x := V.int q.1) (by rw [List.getElem?_map, hq] <;> rfl)]
      · rintro H4 ⟨hD4, s4⟩
        rw [List.take_of_length_le (by rw [List.length_map]; omega)] at hD4
        refine ⟨D, _, rfl, .inl (SqL.of hD4), rfl, firsts_flat ns, ?_⟩
        rw [in_firsts]
        exact k H4 s4
    · skip
      have sl : sizeLine = 16777216 := sizeLine_eq
      refine ⟨_, (pss_one (ps_ret (pe_cmpR op_in_seq (pv 1) (pe_lc (own := [("told", 2), ("_", 3)]) rfl sc_has_note.nd (pi_tup (pv 0)) (blkOk_by (own := [("told", 2), ("_", 3)]) (N := ["notes", "place", "told", "_"]) (sc := defScope s_has_note) (by decide +kernel)) (fun _ _ _ _ _ => (show PG _ _ (gTup K 2 _) from (pg_tup rfl (pgs_cons (pg_name (i := 2) sc_has_note.nd rfl (Or.inl rfl)) (pgs_cons (pg_name (i := 3) sc_has_note.nd rfl (Or.inl rfl)) pgs_nil))))) (fun _ _ _ _ _ => pts_nil) (fun _ _ _ _ _ => (pv 2))) (by with_unfolding_all rfl)))), ?_⟩
      refine ⟨_, rfl, _, rfl, a, rfl, ⟨_, ha.sq⟩, fun D hD => ?_⟩
      have ne := Paired.len hns
      refine lc_tup (xs := nr) (fun i H' => H' D = some (.lst ((ns.map fun q => V.int q.1).take i)) ∧ Same H H') ⟨upd_same, Same.new (Same.refl H) hD⟩ (fun i H' _ h => (ha.same h.2).sq) ?_ ?_
      · rintro i x H' hi ⟨hDi, sm⟩
        obtain ⟨q, hq, y, rfl, hy⟩ := Paired.at hns hi
        have il : i < ns.length := (List.getElem?_eq_some_iff.mp hq).1
        refine ⟨y, _, rfl, SqT.of (sm _ _ hy), rfl, _, _, rfl, _, _, rfl, rfl, rfl, ?_⟩
        unfold tYes
        refine iteT ⟨_, rfl, _, hDi, ?_, ?_, same_put sm hD⟩
        · have := List.length_take_le i (ns.map fun q => V.int q.1)
          omega
        · rw [upd_same, take_snoc (x := V.int q.1) (by rw [List.getElem?_map, hq] <;> rfl)]
      · rintro H4 ⟨hD4, s4⟩
        rw [List.take_of_length_le (by rw [List.length_map]; omega)] at hD4
        refine ⟨D, _, rfl, .inl (SqL.of hD4), rfl, firsts_flat ns, ?_⟩
        rw [in_firsts]
        exact k H4 s4
theorem ok_first_ties (T : Txt K mg Z) : FnOk P w K mg base CX0 9 Z.f_first_ties Z.d_first_ties ["lines", "size"] (sp_first_ties Z.cC) := by
  refine T.F_first_ties.ok sc_first_ties (fun vs H Q E h => ?_) (fun cdv A outer s H vs Q E hr h => ?_)
  · obtain ⟨a, z, ts, ns, fl, rfl, _⟩ := h
    rfl
  · obtain ⟨a, z, ts, ns, fl, rfl, ha, hz, ht, hn, tn, k⟩ := h
    have sl : sizeLine = 16777216 := sizeLine_eq
    refine ⟨_, (pss_cons (ps_set (i := 2) sc_first_ties.nd rfl (Or.inl rfl) (pe_lst pa_nil))
      (pss_cons (ps_for PassesOwn.never rfl (pi_list (pv 0)) (pg_name (i := 3) sc_first_ties.nd rfl (Or.inl rfl)) (pss_cons (ps_set (i := 4) sc_first_ties.nd rfl (Or.inl rfl) (pe_call (ok_tie_in T) (hr.mono (by decide)) rfl T.g_tie_in T.k_tie_in T.bn_tie_in .nil pass0 (pa_cons (pv 3) (pa_cons (pv 1) pa_nil))))
      (pss_cons (ps_if (PW.pt (pw_or (pt_cmpR op_isN (pv 4) pe_non (nomark _)) (pw_or1 (pt_cmpR op_eq (pe_callB  call_len (by rfl) T.b_len (by decide +kernel) (pa_cons (pv 2) pa_nil)) (pe_glob (v := .int 12) rfl T.c_MOST ⟨_, rfl⟩) (nomark _))))) (pss_one ps_break) pss_nil)
      (pss_one (ps_expr (pe_bm PySem.F.plainAttrs_list PySem.F.slot_list_append PySem.F.type_list_append mt_append (pv 2) (pa_cons (pv 4) pa_nil)))))))
      (pss_one (ps_ret (pv 2))))), ?_⟩
    refine ⟨by show 0 ≤ sizeLine; exact Nat.zero_le _, fun D hD => ?_⟩
    have sD := Same.new (o := .lst []) (Same.refl H) hD
    refine ⟨_, rfl, a, rfl, ⟨_, SqL.of (sD _ _ ha)⟩, for_list (xs := (ts.map (tieF fl) ++ ns.map noteL).map V.str) (fun i σ H' => ∃ v3 v4 tr, i ≤ ts.length ∧ σ = [some (.ref a), some (.int z), some (.ref D), v3, v4] ∧ H' D = some (.lst tr) ∧ Ties Z.cC H' tr (ts.take i) ∧ Same H H') ⟨_, _, [], Nat.zero_le _, rfl, upd_same, .nil, sD⟩ (fun i σ H' _ ⟨_, _, _, _, _, _, _, s⟩ => SqL.of (s _ _ ha)) ?_ ?_⟩
    · rintro i x σ H1 hi ⟨v3, v4, tr, il, rfl, hD1, htr, s1⟩
      rw [List.getElem?_map] at hi
      obtain ⟨l, hl, rfl⟩ := Option.map_eq_some_iff.mp hi
      have tl' := Paired.len htr
      rw [List.length_take] at tl'
      by_cases c : i < ts.length
      · rw [List.getElem?_append_left (by rw [List.length_map]; exact c), List.getElem?_map] at hl
        obtain ⟨r, hr', rfl⟩ := Option.map_eq_some_iff.mp hl
        refine ⟨_, rfl, _, rfl, .inl ⟨r, z, fl, rfl, ht r (List.mem_of_getElem? hr'), fun y H2 ny s2 hy => ?_⟩⟩
        have hD2 := s2 _ _ hD1
        refine ⟨_, rfl, rfl, false, rfl, iteF ?_⟩
        refine ⟨_, rfl, _, _, rfl, .inl ⟨_, SqL.of hD2, rfl⟩, rfl, false, ?_, iteF ?_⟩
        · rw [decide_eq_false]
          intro e
          have := V.int.inj e
          omega
        refine ⟨_, rfl, .inl ⟨rfl, _, SqL.of hD2⟩, _, rfl, D, _, _, rfl, rfl, hD2, by omega, ?_⟩
        refine ⟨_, _, tr ++ [.ref y], c, rfl, upd_same, ?_, same_put (s1.trans s2) hD⟩
        rw [take_snoc hr']
        exact Paired.snoc ⟨y, rfl, hy.put hD2⟩ ((htr.same s2).put hD2)
      · have ei : i = ts.length := by omega
        subst ei
        rw [List.getElem?_append_right (by rw [List.length_map]; omega), List.getElem?_map] at hl
        obtain ⟨p, hp, rfl⟩ := Option.map_eq_some_iff.mp hl
        refine ⟨_, rfl, _, rfl, .inr ⟨p, z, rfl, hn p (List.mem_of_getElem? hp), hz, fun H2 s2 => ?_⟩⟩
        refine ⟨_, rfl, rfl, true, rfl, iteT ?_⟩
        rw [List.take_length] at htr
        exact ⟨_, rfl, k D tr H2 hD (s1.trans s2) (s2 _ _ hD1) (htr.same s2)⟩
    · rintro σ H1 ⟨v3, v4, tr, il, rfl, hD1, htr, s1⟩
      have e : ts.take ((ts.map (tieF fl) ++ ns.map noteL).map V.str).length = ts := List.take_of_length_le (by rw [List.length_map, List.length_append, List.length_map]; omega)
      rw [e] at htr
      exact ⟨_, rfl, k D tr H1 hD s1 hD1 htr⟩
theorem nodup_not {α : Type} [DecidableEq α] {l : List α} (h : l.Nodup) {i : Nat} {x : α} (e : l[i]? = some x) : x ∉ l.take i := by
  intro m
  obtain ⟨j, hj⟩ := List.mem_iff_getElem?.mp m
  rw [List.getElem?_take] at hj
  split at hj
  · rename_i c
    obtain ⟨h1, e1⟩ := List.getElem?_eq_some_iff.mp hj
    obtain ⟨h2, e2⟩ := List.getElem?_eq_some_iff.mp e
    have := (List.getElem_inj h).mp (e1.trans e2.symm)
    omega
  · cases hj
theorem ok_first_notes (T : Txt K mg Z) : FnOk P w K mg base CX0 5 Z.f_first_notes Z.d_first_notes ["lines", "size"] sp_first_notes := by
  refine T.F_first_notes.ok sc_first_notes (fun vs H Q E h => ?_) (fun cdv A outer s H vs Q E hr h => ?_)
  · obtain ⟨a, z, ns, rfl, _⟩ := h
    rfl
  · obtain ⟨a, z, ns, rfl, ha, hz, hn, nn, nd, k⟩ := h
    have sl : sizeLine = 16777216 := sizeLine_eq
    refine ⟨_, (pss_cons (ps_set (i := 2) sc_first_notes.nd rfl (Or.inl rfl) (pe_lst pa_nil))
      (pss_cons (ps_for PassesOwn.never rfl (pi_list (pv 0)) (pg_name (i := 3) sc_first_notes.nd rfl (Or.inl rfl)) (pss_cons (ps_set (i := 4) sc_first_notes.nd rfl (Or.inl rfl) (pe_call (ok_note_in T) (hr.mono (by decide)) rfl T.g_note_in T.k_note_in T.bn_note_in .nil pass0 (pa_cons (pv 3) (pa_cons (pv 1) pa_nil))))
      (pss_cons (ps_if (PW.pt (pw_or (pt_cmpR op_isN (pv 4) pe_non (nomark _)) (pw_or (pt_val (pe_call (ok_has_note T) (hr.mono (by decide)) rfl T.g_has_note T.k_has_note T.bn_has_note .nil pass0 (pa_cons (pv 2) (pa_cons (pe_ix ix_tup (pv 4) pe_int (fun _ _ => rfl)) pa_nil)))) (pw_or1 (pt_cmpR op_eq (pe_callB  call_len (by rfl) T.b_len (by decide +kernel) (pa_cons (pv 2) pa_nil)) (pe_glob (v := .int 12) rfl T.c_MOST ⟨_, rfl⟩) (nomark _)))))) (pss_one ps_break) pss_nil)
      (pss_one (ps_expr (pe_bm PySem.F.plainAttrs_list PySem.F.slot_list_append PySem.F.type_list_append mt_append (pv 2) (pa_cons (pv 4) pa_nil)))))))
      (pss_one (ps_ret (pv 2))))), ?_⟩
    refine ⟨by show 0 ≤ sizeLine; exact Nat.zero_le _, fun D hD => ?_⟩
    have sD := Same.new (o := .lst []) (Same.refl H) hD
    refine ⟨_, rfl, a, rfl, ⟨_, SqL.of (sD _ _ ha)⟩, for_list (xs := (ns.map noteL).map V.str) (fun i σ H' => ∃ v3 v4 nr, i ≤ ns.length ∧ σ = [some (.ref a), some (.int z), some (.ref D), v3, v4] ∧ H' D = some (.lst nr) ∧ Notes H' nr (ns.take i) ∧ Same H H') ⟨_, _, [], Nat.zero_le _, rfl, upd_same, .nil, sD⟩ (fun i σ H' _ ⟨_, _, _, _, _, _, _, s⟩ => SqL.of (s _ _ ha)) ?_ ?_⟩
    · rintro i x σ H1 hi ⟨v3, v4, nr, il, rfl, hD1, hnr, s1⟩
      rw [List.getElem?_map] at hi
      obtain ⟨l, hl, rfl⟩ := Option.map_eq_some_iff.mp hi
      have tl' := Paired.len hnr
      rw [List.length_take] at tl'
      rw [List.getElem?_map] at hl
      obtain ⟨p, hp, rfl⟩ := Option.map_eq_some_iff.mp hl
      have ic : i < ns.length := (List.getElem?_eq_some_iff.mp hp).1
      refine ⟨_, rfl, _, rfl, p, z, rfl, hn p (List.mem_of_getElem? hp), hz, fun y H2 ny s2 hy => ?_⟩
      have hD2 := s2 _ _ hD1
      refine ⟨_, rfl, rfl, false, rfl, iteF ?_⟩
      refine ⟨_, rfl, _, rfl, y, _, _, _, rfl, rfl, SqT.of hy, rfl, D, p.1, nr, ns.take i, rfl, .inl hD2, hnr.same s2, by omega, fun H3 s3 => ?_⟩
      have hD3 := s3 _ _ hD2
      refine ⟨false, ?_, iteF ?_⟩
      · rw [decide_eq_false]
        rw [List.map_take]
        exact nodup_not nd (by rw [List.getElem?_map, hp] <;> rfl)
      refine ⟨_, rfl, _, _, rfl, .inl ⟨_, SqL.of hD3, rfl⟩, rfl, false, ?_, iteF ?_⟩
      · rw [decide_eq_false]
        intro e
        have := V.int.inj e
        omega
      refine ⟨_, rfl, .inl ⟨rfl, _, SqL.of hD3⟩, _, rfl, D, _, _, rfl, rfl, hD3, by omega, ?_⟩
      refine ⟨_, _, nr ++ [.ref y], ic, rfl, upd_same, ?_, same_put ((s1.trans s2).trans s3) hD⟩
      rw [take_snoc hp]
      refine Paired.snoc ⟨y, rfl, ?_⟩ (((hnr.same s2).same s3).put hD3)
      have hy3 := s3 _ _ hy
      exact (upd_ne (ne_of hy3 hD3 fun z => nomatch z)).trans hy3
    · rintro σ H1 ⟨v3, v4, nr, il, rfl, hD1, hnr, s1⟩
      have e : ns.take ((ns.map noteL).map V.str).length = ns := List.take_of_length_le (by rw [List.length_map, List.length_map]; omega)
      rw [e] at hnr
      exact ⟨_, rfl, k D nr H1 hD s1 hD1 hnr⟩
theorem ok_contents (T : Txt K mg Z) : FnOk P w K mg base CX0 10 Z.f_contents Z.d_contents ["text"] (sp_contents Z.cC) := by
  refine T.F_contents.ok sc_contents (fun vs H Q E h => ?_) (fun cdv A outer s H vs Q E hr h => ?_)
  · obtain ⟨b, fl, rfl, _⟩ := h
    rfl
  · obtain ⟨b, fl, rfl, ok, k⟩ := h
    have sl : sizeLine = 16777216 := sizeLine_eq
    have tlen := text_lenF (fl := fl) ok
    have z0 := ok.fine.z0; have z1 := ok.fine.z1
    refine ⟨_, (pss_cons (ps_if (pt_not (pt_val (pe_callB  call_isi (by rfl) T.b_isinstance (by decide +kernel) (pa_cons (pv 0) (pa_cons (pe_bltn (v := .ty "str") rfl T.b_str (by decide +kernel) rfl) pa_nil))))) (pss_one ps_never) pss_nil)
      (pss_cons (ps_set (i := 1) sc_contents.nd rfl (Or.inl rfl) (pe_split (pv 0) pe_str))
      (pss_cons (ps_set (i := 2) sc_contents.nd rfl (Or.inl rfl) (pe_call (ok_size_in T) (hr.mono (by decide)) rfl T.g_size_in T.k_size_in T.bn_size_in .nil pass0 (pa_cons (pe_ix ix_list (pv 1) pe_int (fun _ _ => rfl)) pa_nil)))
      (pss_cons (ps_if (pt_cmpR op_isN (pv 2) pe_non (nomark _)) (pss_one ps_never) pss_nil)
      (pss_cons (ps_set (i := 3) sc_contents.nd rfl (Or.inl rfl) (pe_call (ok_first_ties T) (hr.mono (by decide)) rfl T.g_first_ties T.k_first_ties T.bn_first_ties .nil pass0 (pa_cons (pe_slice sl_list (pv 1) (po_some pe_int) po_none) (pa_cons (pv 2) pa_nil))))
      (pss_cons (ps_set (i := 4) sc_contents.nd rfl (Or.inl rfl) (pe_call (ok_first_notes T) (hr.mono (by decide)) rfl T.g_first_notes T.k_first_notes T.bn_first_notes .nil pass0 (pa_cons (pe_slice sl_list (pv 1) (po_some (pe_op op_add pe_int (pe_callB  call_len (by rfl) T.b_len (by decide +kernel) (pa_cons (pv 3) pa_nil)))) po_none) (pa_cons (pv 2) pa_nil))))
      (pss_cons (ps_set (i := 5) sc_contents.nd rfl (Or.inl rfl) (pe_op op_add (pe_op op_add pe_int (pe_callB  call_len (by rfl) T.b_len (by decide +kernel) (pa_cons (pv 3) pa_nil))) (pe_callB  call_len (by rfl) T.b_len (by decide +kernel) (pa_cons (pv 4) pa_nil))))
      (pss_cons (ps_if (pt_cmpR op_lt (pv 5) (pe_callB  call_len (by rfl) T.b_len (by decide +kernel) (pa_cons (pv 1) pa_nil)) (nomark _)) (pss_one ps_never) pss_nil)
      (pss_one (ps_ret (pe_tup (pa_cons (pv 2) (pa_cons (pe_callTy call_tuple_of (by rfl) T.b_tuple (by decide +kernel) (pa_cons (pv 3) pa_nil)) (pa_cons (pe_callTy call_tuple_frz (by rfl) T.b_tuple (by decide +kernel) (pa_cons (pv 4) pa_nil)) pa_nil)))))))))))))), ?_⟩
    refine ⟨_, rfl, _, _, _, _, true, rfl, .ty "str", .base (.str _), kit_ty (by decide +kernel), true, rfl, iteF ?_⟩
    refine ⟨_, rfl, ⟨_, rfl⟩, _, _, rfl, rfl, by decide, by omega, fun l hl => ?_⟩
    rw [split_textF ok.fine]
    have s1 := Same.new (o := .lst ((b.linesF fl).map V.str)) (Same.refl H) hl
    have at1 : upd H l (.lst ((b.linesF fl).map V.str)) l = some (.lst (V.str (sizeL b.z) :: ((b.ts.map (tieF fl)).map V.str ++ (b.ns.map noteL).map V.str))) := by
      rw [upd_same]
      unfold Lore.linesF
      rw [List.map_cons, List.map_append]
    generalize upd H l (.lst ((b.linesF fl).map V.str)) = H1 at s1 at1 ⊢
    refine ⟨_, rfl, l, _, _, _, rfl, rfl, SqL.of at1, at_head, b.z, rfl, z0, z1, fun H2 s2 => ?_⟩
    refine ⟨_, rfl, rfl, _, rfl, iteF ?_⟩
    have at2 := s2 _ _ at1
    refine ⟨_, rfl, _, rfl, l, _, rfl, SqL.of at2, fun l2 hl2 => ?_⟩
    rw [cut_tail]
    have s3 := Same.new (o := .lst ((b.ts.map (tieF fl)).map V.str ++ (b.ns.map noteL).map V.str)) (Same.refl H2) hl2
    refine ⟨_, rfl, l2, b.z, b.ts, b.ns, fl, rfl, by rw [upd_same, List.map_append], z1, ok.fine.ts, ok.fine.ns, ok.tn, fun x tr H3 nx s4 hx htr => ?_⟩
    have s24 := s3.trans s4
    have at3 := s24 _ _ at2
    have lt := Paired.len htr
    refine ⟨_, rfl, _, rfl, _, _, rfl, .inl ⟨_, SqL.of hx, rfl⟩, _, _, rfl, rfl, _, rfl, l, _, rfl, SqL.of at3, fun l3 hl3 => ?_⟩
    rw [cut_at (by rw [List.length_map, List.length_map, lt])]
    have s5 := Same.new (o := .lst ((b.ns.map noteL).map V.str)) (Same.refl H3) hl3
    refine ⟨_, rfl, l3, b.z, b.ns, rfl, upd_same, z1, ok.fine.ns, ok.nn, ok.nd, fun y nr H4 ny s6 hy hnr => ?_⟩
    have s36 := s5.trans s6
    have at4 := s36 _ _ at3
    have hx4 := s36 _ _ hx
    have htr4 := htr.same s36
    have ln := Paired.len hnr
    refine ⟨_, rfl, _, _, rfl, .inl ⟨_, SqL.of hx4, rfl⟩, _, _, rfl, rfl, _, rfl, _, _, rfl, .inl ⟨_, SqL.of hy, rfl⟩, _, _, rfl, rfl, ?_⟩
    refine ⟨_, rfl, _, rfl, _, _, rfl, .inl ⟨_, SqL.of at4, rfl⟩, _, _, rfl, rfl, _, rfl, ?_⟩
    rw [decide_eq_false (by rw [List.length_cons, List.length_append, List.length_map, List.length_map, List.length_map, List.length_map]; omega)]
    refine iteF ⟨_, rfl, _, rfl, x, _, rfl, .inl ⟨SqL.of hx4, fun ta hta => ?_⟩⟩
    have s7 := Same.new (o := .tup tr) (Same.refl H4) hta
    have hta7 : upd H4 ta (.tup tr) ta = some (.tup tr) := upd_same
    have hy7 := s7 _ _ hy
    have htr7 := htr4.same s7
    have hnr7 := hnr.same s7
    generalize upd H4 ta (.tup tr) = H5 at s7 hta7 hy7 htr7 hnr7 ⊢
    refine ⟨_, rfl, y, _, rfl, SqL.of hy7, fun na o ho hna => ?_⟩
    have s8 := Same.new (o := .frz o (.tup nr)) (Same.refl H5) hna
    refine ⟨by show 3 ≤ sizeLine; decide, fun u hu => ?_⟩
    have s9 := Same.new (o := .tup [.int b.z, .ref ta, .ref na]) s8 hu
    refine k u ta na tr nr _ ((((s1.trans s2).trans s24).trans s36).trans (s7.trans s9)) upd_same (s9 _ _ hta7) ?_ (htr7.same s9) (hnr7.same s9)
    exact ⟨o, (Same.new (o := .tup [.int b.z, .ref ta, .ref na]) (Same.refl _) hu) _ _ upd_same, ho⟩
theorem mkB (T : Txt K mg Z) : Mk K Z.cB Z.f_B_init := ⟨T.mkBc, T.a_B_init, T.i_B_init, T.kB⟩
theorem ok_B_init (T : Txt K mg Z) : FnOk P w K mg base CX0 11 Z.f_B_init Z.d_B_init ["self", "text"] (sp_B_init Z.cC Z.cB) := by
  refine T.F_B_init.ok sc_B_init (fun vs H Q E h => ?_) (fun cdv A outer s H vs Q E hr h => ?_)
  · obtain ⟨p, dx, b, fl, rfl, _⟩ := h
    rfl
  · obtain ⟨p, dx, b, fl, rfl, ok, hp, k⟩ := h
    refine ⟨_, (pss_cons (ps_asg (pe_call (ok_contents T) (hr.mono (by decide)) rfl T.g_contents T.k_contents T.bn_contents .nil pass0 (pa_cons (pv 1) pa_nil)) (pg_tup rfl (pgs_cons (pg_name (i := 2) sc_B_init.nd rfl (Or.inl rfl)) (pgs_cons (pg_name (i := 3) sc_B_init.nd rfl (Or.inl rfl)) (pgs_cons (pg_name (i := 4) sc_B_init.nd rfl (Or.inl rfl)) pgs_nil)))))
      (pss_cons (ps_fld (pv 0) (pv 1) rfl)
      (pss_cons (ps_fld (pv 0) (pv 2) rfl)
      (pss_cons (ps_fld (pv 0) (pv 3) rfl)
      (pss_one (ps_fld (pv 0) (pv 4) rfl)))))), ?_⟩
    refine ⟨_, rfl, b, fl, rfl, ok, fun x ta na tr nr H1 s1 hx hta hna htr hnr => ?_⟩
    have hp1 := s1 _ _ hp
    refine ⟨x, _, rfl, SqT.of hx, rfl, _, _, rfl, _, _, rfl, _, _, rfl, rfl, ?_⟩
    have l1 : (bfs1 (b.textF fl)).length ≤ 1 := len_putF (Nat.le_refl 0)
    have l2 : (bfs2 (b.textF fl) b.z).length ≤ 2 := len_putF l1
    have l3 : (bfs3 (b.textF fl) b.z ta).length ≤ 3 := len_putF l2
    refine ⟨_, rfl, _, rfl, p, _, dx, _, rfl, hp1, T.clB, T.nB_text, (by decide : 0 < 1000), ?_⟩
    refine ⟨_, rfl, _, rfl, p, _, dx, _, rfl, upd_same, T.clB, T.nB_size, Nat.lt_of_le_of_lt l1 (by decide), ?_⟩
    refine ⟨_, rfl, _, rfl, p, _, dx, _, rfl, upd_same, T.clB, T.nB_ties, Nat.lt_of_le_of_lt l2 (by decide), ?_⟩
    refine ⟨_, rfl, _, rfl, p, _, dx, _, rfl, upd_same, T.clB, T.nB_notes, Nat.lt_of_le_of_lt l3 (by decide), ?_⟩
    have keep : ∀ q o, q ≠ p → H1 q = some o → upd (upd (upd (upd H1 p (.ins Z.cB dx (bfs1 (b.textF fl)))) p (.ins Z.cB dx (bfs2 (b.textF fl) b.z))) p (.ins Z.cB dx (bfs3 (b.textF fl) b.z ta))) p (.ins Z.cB dx (bfs (b.textF fl) b.z ta na)) q = some o := fun q o n e => by
      rw [upd_ne n, upd_ne n, upd_ne n, upd_ne n]
      exact e
    refine k _ ⟨dx, ta, na, tr, nr, upd_same, keep _ _ (ne_of hta hp1 fun z => nomatch z) hta, (by obtain ⟨o, h1, h2⟩ := hna; exact ⟨o, keep _ _ (ne_of h1 hp1 fun z => nomatch z) h1, h2⟩), Paired.imp (fun v r ⟨q, e, t⟩ => ⟨q, e, ?_⟩) htr, Paired.imp (fun v r ⟨q, e, t⟩ => ⟨q, e, keep _ _ (ne_of t hp1 fun z => nomatch z) t⟩) hnr⟩ fun q o n e => keep _ _ n (s1 _ _ e)
    obtain ⟨d, t⟩ := t
    refine ⟨d, keep _ _ (ne_of t hp1 fun z => ?_) t⟩
    have e : tfs r = [] := by injection z
    have e2 := tfs_text r
    rw [e] at e2
    cases e2
end
end TT


set_option maxHeartbeats 4000000
namespace TT
open PySem PySem.Spec PyProof.Rows L2 LamX TL
/-! ### books written anew -/
/-- f'..' of two parts or more, by a name: so it can be told in a comprehension -/
def tJn (ts : List TE) : TE := fun σ H Q => tJs ts Str.empty σ H fun out H1 => Q (.str out) H1
theorem pe_jn {X : Cx} {v1 v2 : Expr} {rest : List Expr} {ts : List TE} {pos : Pos} (h : PJ X (v1 :: v2 :: rest) ts) : PE X (.JoinedStr (v1 :: v2 :: rest) pos) (tJn ts) := pe_joined h
theorem Out.mono {E : XK} {C : Addr} {v : V} {H H1 : Hp} (o : Out E C v H) (s : Same H H1) : Out E C v H1 := fun d H' s' hd e => o d H' (s.trans s') (L2.Same.free s hd) e
/-- the book of b, or Full(12) -/
def BookOr (Z : Zs) (E : XK) (H : Hp) (b : Lore) (Q : VK) : Prop := (b.ts.length ≤ 12 ∧ b.ns.length ≤ 12 ∧ ∀ x H', H x = none → Same H H' → BookAt Z.cC Z.cB H' x b.text b → Q (.ref x) H') ∨ ((12 < b.ts.length ∨ 12 < b.ns.length) ∧ Out E (Z.c 0) (.int 12) H)
theorem BookOr.mono {Z : Zs} {E : XK} {H H1 : Hp} {b : Lore} {Q : VK} (s : Same H H1) (h : BookOr Z E H b Q) : BookOr Z E H1 b Q := by
  rcases h with ⟨h1, h2, k⟩ | ⟨h1, o⟩
  · exact .inl ⟨h1, h2, fun x H' nx s' hx => k x H' (L2.Same.free s nx) (s.trans s') hx⟩
  · exact .inr ⟨h1, o.mono s⟩
def sp_book_of (Z : Zs) : Sp := fun vs H Q E => ∃ (a n : Addr) (tr nr : List V) (b : Lore), vs = [.int b.z, .ref a, .ref n] ∧ ((H a = some (.lst tr) ∧ H n = some (.lst nr)) ∨ (H a = some (.lst tr) ∧ FT H n nr) ∨ (H a = some (.tup tr) ∧ H n = some (.lst nr))) ∧ Ties Z.cC H tr b.ts ∧ Notes H nr b.ns ∧ b.Fine ∧ (b.ns.map (·.1)).Nodup ∧ BookOr Z E H b Q
def Row.far (r : Row) (z : Int) : Row := { r with f := r.f + z, s := r.s + z }
theorem Row.In.far {r : Row} {z y : Int} (h : r.In z) (y0 : 0 ≤ y) (yz : y + z ≤ 10 ^ 30) : (r.far y).In (y + z) := by
  have h1 := h.fz; have h2 := h.sz
  exact ⟨h.ok.far y0 (by omega) (by omega), by show r.f + y + r.l ≤ y + z; omega, by show r.s + y + r.l ≤ y + z; omega⟩
theorem Row.In.wide {r : Row} {z y : Int} (h : r.In z) (yz : z ≤ y) : r.In y := ⟨h.ok, by have := h.fz; omega, by have := h.sz; omega⟩
def sp_moved (C : Addr) : Sp := fun vs H Q _ => ∃ (q : Addr) (r : Row) (y : Int), vs = [.ref q, .int y] ∧ TieAt C H q r ∧ r.Ok ∧ (r.far y).Ok ∧ ∀ x H', H x = none → Same H H' → TieAt C H' x (r.far y) → Q (.ref x) H'
theorem e_tie (r : Row) : Str.empty ++ Str.ofString "tie " ++ tieText r = tieL r := by
  unfold tieL
  rw [tieText_eq]
  refine ext_tl ?_
  simp only [tl_append]
  rfl
theorem e_note (p : Int × Int) : Str.empty ++ Str.ofString "note " ++ Str.ofString (toString p.1) ++ Str.ofString " " ++ shownInt p.2 = noteL p := by
  unfold noteL
  refine ext_tl ?_
  simp only [tl_append]
  rfl
theorem e_size (z : Int) : Str.empty ++ Str.ofString "size " ++ Str.ofString (toString z) = sizeL z := by
  unfold sizeL
  refine ext_tl ?_
  simp only [tl_append]
  rfl
theorem takeN {α β : Type} {f : α → β} {l : List α} {i : Nat} {x : α} (h : l[i]? = some x) : (l.take (i + 1)).map f = (l.take i).map f ++ [f x] := by
  rw [take_snoc h, List.map_append]
  rfl
theorem free_up {H : Hp} {l x : Addr} {o : HO} (h : upd H l o x = none) : H x = none := by
  by_cases c : x = l
  · rw [c, upd_same] at h
    cases h
  · rw [upd_ne c] at h
    exact h
theorem gt_t {i j : Int} (h : j < i) : V.bl (decide (j < i)) = V.bl true := by rw [decide_eq_true h]
theorem gt_f {i j : Int} (h : i ≤ j) : V.bl (decide (j < i)) = V.bl false := by rw [decide_eq_false (by omega)]
def sp_B_eq (Z : Zs) : Sp := fun vs H Q _ => ∃ (a c : Addr) (t u : Str) (b d : Lore), vs = [.ref a, .ref c] ∧ BookAt Z.cC Z.cB H a t b ∧ BookAt Z.cC Z.cB H c u d ∧ Q (.bl (decide (t = u))) H
section
variable {P : Program} {w : World} {K : PySem.W.Frag} {mg : Str → Option Value} {base : Heap} {Z : Zs}
theorem ok_moved (T : Txt K mg Z) : FnOk P w K mg base CX0 6 Z.f_moved Z.d_moved ["tie", "by"] (sp_moved Z.cC) := by
  refine T.F_moved.ok sc_moved (fun vs H Q E h => ?_) (fun cdv A outer s H vs Q E hr h => ?_)
  · obtain ⟨q, r, y, rfl, _⟩ := h
    rfl
  · obtain ⟨q, r, y, rfl, ⟨dx0, hq⟩, ok0, ok, k⟩ := h
    obtain ⟨its, mv, kb⟩ := kb_tie T
    refine ⟨_, (pss_one (ps_ret (pe_makeK (mkT T) (ok_T_init T) (hr.mono (by decide)) rfl T.g_C kb pass0 (pa_cons (pe_op op_add (pe_fld (pv 0) rfl) (pv 1)) (pa_cons (pe_op op_add (pe_fld (pv 0) rfl) (pv 1)) (pa_cons (pe_fld (pv 0) rfl) (pa_cons (pe_fld (pv 0) rfl) pa_nil)))) (pk_cons (pe_fld (pv 0) rfl) (pk_cons (pe_fld (pv 0) rfl) pk_nil))))), ?_⟩
    refine ⟨_, rfl, q, _, dx0, _, _, rfl, hq, T.cl, T.n_first, tfs_first r, _, rfl, _, _, rfl, rfl, ?_⟩
    refine ⟨_, rfl, q, _, dx0, _, _, rfl, hq, T.cl, T.n_second, tfs_second r, _, rfl, _, _, rfl, rfl, ?_⟩
    refine ⟨_, rfl, q, _, dx0, _, _, rfl, hq, T.cl, T.n_length, tfs_length r, _, rfl, q, _, dx0, _, _, rfl, hq, T.cl, T.n_amount, tfs_amount r, ?_⟩
    refine ⟨_, rfl, q, _, dx0, _, _, rfl, hq, T.cl, T.n_down, tfs_down r, _, rfl, q, _, dx0, _, _, rfl, hq, T.cl, T.n_backward, tfs_backward r, rfl, rfl, fun x dx nx nd ne => ?_⟩
    refine ⟨x, dx, r.far y, r.b, rfl, ok, ?_, upd_same, fun H' hx kp => ⟨rfl, k x H' nx (made nx nd kp) ⟨dx, hx⟩⟩⟩
    show r.b = (r.b && decide (1 < r.l))
    cases hb : r.b with
    | true => rw [decide_eq_true (ok0.bk hb)] <;> rfl
    | false => rfl
theorem ok_book_of (T : Txt K mg Z) : FnOk P w K mg base (L2.CX P w) 13 Z.f_book_of Z.d_book_of ["size", "ties", "notes"] (sp_book_of Z) := by
  refine T.F_book_of.okX sc_book_of (fun vs H Q E h => ?_) (fun cdv A outer s H vs Q E hr h => ?_)
  · obtain ⟨a, n, tr, nr, b, rfl, _⟩ := h
    rfl
  · obtain ⟨a, n, tr, nr, b, rfl, hh, htr, hnr, fine, nd, h⟩ := h
    rcases hh with ⟨ha, hn⟩ | ⟨ha, hn⟩ | ⟨ha, hn⟩
    · skip
      have sl : sizeLine = 16777216 := sizeLine_eq
      have z0 := fine.z0; have z1 := fine.z1
      have lt := Paired.len htr; have ln := Paired.len hnr
      refine ⟨_, (pss_cons (ps_if (PW.pt (pw_or (pt_cmpR op_gt (pe_callB  call_len (by rfl) T.b_len (by decide +kernel) (pa_cons (pv 1) pa_nil)) (pe_glob (v := .int 12) rfl T.c_MOST ⟨_, rfl⟩) (nomark _)) (pw_or1 (pt_cmpR op_gt (pe_callB  call_len (by rfl) T.b_len (by decide +kernel) (pa_cons (pv 2) pa_nil)) (pe_glob (v := .int 12) rfl T.c_MOST ⟨_, rfl⟩) (nomark _))))) (pss_one (ps_raise rfl (takes_of rfl rfl rfl rfl) (pmk_oex (T.ex 0 (by decide)).ox (T.ex 0 (by decide)).ini T.t_E_init (ok_E_init T) (hr.mono (by decide)) T.bn_E_init .nil pass0 rfl T.g_Full (pa_cons (pe_glob (v := .int 12) rfl T.c_MOST ⟨_, rfl⟩) pa_nil)))) pss_nil)
      (pss_cons (ps_setLc (i := 3) (own := [("tie", 5)]) rfl sc_book_of.nd rfl rfl (sw_true rfl rfl rfl (by decide +kernel)) (pi_list (pv 1)) (blkOk_by (own := [("tie", 5)]) (N := ["size", "ties", "notes", "tie_lines", "note_lines", "tie", "place", "note"]) (sc := defScope s_book_of) (by decide +kernel)) (fun _ _ _ _ _ => (pg_name (i := 5) sc_book_of.nd rfl (Or.inl rfl))) (fun _ _ _ _ _ => pts_nil) (fun _ _ _ _ _ => (pe_jn (.cons pe_str (.cons (pe_fmt (show PE _ _ (tFld K (tVar 5) "text") from pe_fld (pv 5) rfl)) .nil)))))
      (pss_cons (ps_setLc (i := 4) (own := [("place", 6), ("note", 7)]) rfl sc_book_of.nd rfl rfl (sw_true rfl rfl rfl (by decide +kernel)) (pi_list (pv 2)) (blkOk_by (own := [("place", 6), ("note", 7)]) (N := ["size", "ties", "notes", "tie_lines", "note_lines", "tie", "place", "note"]) (sc := defScope s_book_of) (by decide +kernel)) (fun _ _ _ _ _ => (show PG _ _ (gTup K 2 _) from (pg_tup rfl (pgs_cons (pg_name (i := 6) sc_book_of.nd rfl (Or.inl rfl)) (pgs_cons (pg_name (i := 7) sc_book_of.nd rfl (Or.inl rfl)) pgs_nil))))) (fun _ _ _ _ _ => pts_nil) (fun _ _ _ _ _ => (pe_jn (.cons pe_str (.cons (pe_fmt (pv 6)) (.cons pe_str (.cons (pe_fmt (pe_call (ok_written T) (hr.mono (by decide)) rfl T.g_written T.k_written T.bn_written .nil pass0 (pa_cons (pv 7) pa_nil))) .nil)))))))
      (pss_one (ps_ret (pe_make (mkB T) (ok_B_init T) (hr.mono (by decide)) rfl T.g_Bk T.bn_B_init .nil pass0 (pa_cons (pe_join pe_str (pe_lst (pa_cons (pe_joined (.cons pe_str (.cons (pe_fmt (pv 0)) .nil))) (StX.pa_star (pv 3) (StX.pa_star (pv 4) pa_nil))))) pa_nil))))))), ?_⟩
      refine ⟨_, rfl, _, _, rfl, .inl ⟨_, SqL.of ha, rfl⟩, _, _, rfl, rfl, ?_⟩
      have X0 := T.ex 0 (by decide)
      rw [lt]
      rcases h with ⟨h1, h2, k⟩ | ⟨h1, o⟩
      case inr =>
        by_cases c : 12 < b.ts.length
        · exact ⟨true, gt_t (by omega), iteT (iteT (mkR X0 o))⟩
        · have := h1.resolve_left c
          exact ⟨false, gt_f (by omega), iteF ⟨_, rfl, _, _, rfl, .inl ⟨_, SqL.of hn, rfl⟩, _, _, rfl, rfl, true, gt_t (by omega), iteT (mkR X0 o)⟩⟩
      case inl =>
        refine ⟨false, gt_f (by omega), iteF ⟨_, rfl, _, _, rfl, .inl ⟨_, SqL.of hn, rfl⟩, _, _, rfl, rfl, false, gt_f (by omega), iteF ?_⟩⟩
        -- the ties' lines
        refine ⟨_, rfl, a, rfl, ⟨_, SqL.of ha⟩, fun D hD => ?_⟩
        refine lc_list (xs := tr) (fun i H' => H' D = some (.lst (((b.ts.take i).map tieL).map V.str)) ∧ Same H H') ⟨upd_same, Same.new (Same.refl H) hD⟩ (fun i H' _ h => SqL.of (h.2 _ _ ha)) ?_ ?_
        · rintro i x H' hi ⟨hDi, sm⟩
          refine ⟨rfl, ?_⟩
          unfold tYes
          refine iteT ?_
          obtain ⟨r, hr', y, rfl, dx, hy⟩ := Paired.at htr hi
          have hy' := sm _ _ hy
          have il : i < b.ts.length := (List.getElem?_eq_some_iff.mp hr').1
          have okr := (fine.ts r (List.mem_of_getElem? hr')).ok
          have rl := row_len okr r.b
          have tl' := tie_len okr
          refine ⟨_, rfl, by decide, _, rfl, y, _, dx, _, _, rfl, hy', T.cl, T.n_text, tfs_text r, .inl ⟨_, rfl, by rw [tieText_eq]; omega, _, rfl, by rw [e_tie]; omega, ?_⟩⟩
          refine ⟨_, hDi, by rw [List.length_map, List.length_map, List.length_take]; omega, ?_, same_put sm hD⟩
          rw [upd_same, takeN hr', List.map_append, e_tie]
          rfl
        · rintro H2 ⟨hD2, s2⟩
          rw [List.take_of_length_le (by omega)] at hD2
          -- the notes' lines
          have hn2 := s2 _ _ hn
          have hnr2 := hnr.same s2
          refine ⟨_, rfl, n, rfl, ⟨_, SqL.of hn2⟩, fun G hG => ?_⟩
          refine lc_list (xs := nr) (fun i H' => H' G = some (.lst (((b.ns.take i).map noteL).map V.str)) ∧ Same H2 H') ⟨upd_same, Same.new (Same.refl H2) hG⟩ (fun i H' _ h => SqL.of (h.2 _ _ hn2)) ?_ ?_
          · rintro i x H' hi ⟨hGi, sm⟩
            obtain ⟨p, hp, y, rfl, hy⟩ := Paired.at hnr2 hi
            have il : i < b.ns.length := (List.getElem?_eq_some_iff.mp hp).1
            have np := fine.ns p (List.mem_of_getElem? hp)
            have p0 := np.p0; have pz := np.pz; have lo := np.lo; have hi' := np.hi
            have nl := num_len p0 (by omega)
            have al := shown_len60 lo hi'
            have ll := note_len np z1
            have e60 : (10 : Int) ^ 60 < 10 ^ 64 := by decide +kernel
            have l4 : (Str.ofString "note ").length = 5 := by decide
            have l1 : (Str.ofString " ").length = 1 := by decide
            have l0 : Str.empty.length = 0 := rfl
            refine ⟨y, _, rfl, SqT.of (sm _ _ hy), rfl, _, _, rfl, _, _, rfl, rfl, rfl, ?_⟩
            unfold tYes
            refine iteT ?_
            refine ⟨_, rfl, by decide, _, rfl, .inr ⟨p.1, rfl, log_le (by omega) (by omega), _, rfl, by simp only [Str.length_append]; omega, ?_⟩⟩
            refine ⟨_, rfl, by simp only [Str.length_append]; omega, _, rfl, p.2, rfl, by omega, by omega, fun H3 s3 => .inl ⟨_, rfl, by omega, _, rfl, by simp only [Str.length_append]; omega, ?_⟩⟩
            have sm3 := sm.trans s3
            refine ⟨_, s3 _ _ hGi, by rw [List.length_map, List.length_map, List.length_take]; omega, ?_, same_put sm3 hG⟩
            rw [upd_same, takeN hp, List.map_append]
            have e := e_note p
            rw [← e]
            rfl
          · rintro H4 ⟨hG4, s4⟩
            rw [List.take_of_length_le (by omega)] at hG4
            have ok : b.Ok := ⟨fine, h1, h2, nd⟩
            have ls := lines_sum ok
            have sn := size_len fine
            have l5 : (Str.ofString "size ").length = 5 := by decide
            have l0 : Str.empty.length = 0 := rfl
            have nl := num_len (n := b.z) (by omega) z1
            have hD4 := s4 _ _ hD2
            refine ⟨⟨_, rfl⟩, _, rfl, by decide, _, rfl, .inr ⟨b.z, rfl, log_le (by omega) (by omega), _, rfl, by simp only [Str.length_append]; omega, ?_⟩⟩
            refine ⟨_, rfl, D, _, rfl, .inr (SqL.of hD4), _, rfl, G, _, rfl, .inr (SqL.of hG4), ?_, fun l hl => ?_⟩
            · simp only [List.length_cons, List.length_append, List.length_map, List.length_nil]
              omega
            have es : Same H4 (upd H4 l (.lst (b.lines.map V.str))) := Same.new (Same.refl H4) hl
            refine ⟨_, l, b.lines, rfl, rfl, .inl (SqL.of ?_), by omega, fun x dx nx nd' ne => ?_⟩
            · rw [upd_same]
              unfold Lore.lines
              rw [List.map_cons, List.map_append, ← e_size, List.append_nil]
            refine ⟨x, dx, b, false, rfl, ok, upd_same, fun H' hb kp => ⟨rfl, k x H' ?_ ?_ hb⟩⟩
            · exact (s2.trans s4).free (free_up nx)
            · exact (s2.trans s4).trans ((Same.new (Same.refl H4) hl).trans (made nx nd' kp))
    · skip
      have sl : sizeLine = 16777216 := sizeLine_eq
      have z0 := fine.z0; have z1 := fine.z1
      have lt := Paired.len htr; have ln := Paired.len hnr
      refine ⟨_, (pss_cons (ps_if (PW.pt (pw_or (pt_cmpR op_gt (pe_callB  call_len (by rfl) T.b_len (by decide +kernel) (pa_cons (pv 1) pa_nil)) (pe_glob (v := .int 12) rfl T.c_MOST ⟨_, rfl⟩) (nomark _)) (pw_or1 (pt_cmpR op_gt (pe_callB  call_len (by rfl) T.b_len (by decide +kernel) (pa_cons (pv 2) pa_nil)) (pe_glob (v := .int 12) rfl T.c_MOST ⟨_, rfl⟩) (nomark _))))) (pss_one (ps_raise rfl (takes_of rfl rfl rfl rfl) (pmk_oex (T.ex 0 (by decide)).ox (T.ex 0 (by decide)).ini T.t_E_init (ok_E_init T) (hr.mono (by decide)) T.bn_E_init .nil pass0 rfl T.g_Full (pa_cons (pe_glob (v := .int 12) rfl T.c_MOST ⟨_, rfl⟩) pa_nil)))) pss_nil)
      (pss_cons (ps_setLc (i := 3) (own := [("tie", 5)]) rfl sc_book_of.nd rfl rfl (sw_true rfl rfl rfl (by decide +kernel)) (pi_list (pv 1)) (blkOk_by (own := [("tie", 5)]) (N := ["size", "ties", "notes", "tie_lines", "note_lines", "tie", "place", "note"]) (sc := defScope s_book_of) (by decide +kernel)) (fun _ _ _ _ _ => (pg_name (i := 5) sc_book_of.nd rfl (Or.inl rfl))) (fun _ _ _ _ _ => pts_nil) (fun _ _ _ _ _ => (pe_jn (.cons pe_str (.cons (pe_fmt (show PE _ _ (tFld K (tVar 5) "text") from pe_fld (pv 5) rfl)) .nil)))))
      (pss_cons (ps_setLc (i := 4) (own := [("place", 6), ("note", 7)]) rfl sc_book_of.nd rfl rfl (sw_true rfl rfl rfl (by decide +kernel)) (pi_tup (pv 2)) (blkOk_by (own := [("place", 6), ("note", 7)]) (N := ["size", "ties", "notes", "tie_lines", "note_lines", "tie", "place", "note"]) (sc := defScope s_book_of) (by decide +kernel)) (fun _ _ _ _ _ => (show PG _ _ (gTup K 2 _) from (pg_tup rfl (pgs_cons (pg_name (i := 6) sc_book_of.nd rfl (Or.inl rfl)) (pgs_cons (pg_name (i := 7) sc_book_of.nd rfl (Or.inl rfl)) pgs_nil))))) (fun _ _ _ _ _ => pts_nil) (fun _ _ _ _ _ => (pe_jn (.cons pe_str (.cons (pe_fmt (pv 6)) (.cons pe_str (.cons (pe_fmt (pe_call (ok_written T) (hr.mono (by decide)) rfl T.g_written T.k_written T.bn_written .nil pass0 (pa_cons (pv 7) pa_nil))) .nil)))))))
      (pss_one (ps_ret (pe_make (mkB T) (ok_B_init T) (hr.mono (by decide)) rfl T.g_Bk T.bn_B_init .nil pass0 (pa_cons (pe_join pe_str (pe_lst (pa_cons (pe_joined (.cons pe_str (.cons (pe_fmt (pv 0)) .nil))) (StX.pa_star (pv 3) (StX.pa_star (pv 4) pa_nil))))) pa_nil))))))), ?_⟩
      refine ⟨_, rfl, _, _, rfl, .inl ⟨_, SqL.of ha, rfl⟩, _, _, rfl, rfl, ?_⟩
      have X0 := T.ex 0 (by decide)
      rw [lt]
      rcases h with ⟨h1, h2, k⟩ | ⟨h1, o⟩
      case inr =>
        by_cases c : 12 < b.ts.length
        · exact ⟨true, gt_t (by omega), iteT (iteT (mkR X0 o))⟩
        · have := h1.resolve_left c
          exact ⟨false, gt_f (by omega), iteF ⟨_, rfl, _, _, rfl, .inr ⟨_, hn.sq, rfl⟩, _, _, rfl, rfl, true, gt_t (by omega), iteT (mkR X0 o)⟩⟩
      case inl =>
        refine ⟨false, gt_f (by omega), iteF ⟨_, rfl, _, _, rfl, .inr ⟨_, hn.sq, rfl⟩, _, _, rfl, rfl, false, gt_f (by omega), iteF ?_⟩⟩
        -- the ties' lines
        refine ⟨_, rfl, a, rfl, ⟨_, SqL.of ha⟩, fun D hD => ?_⟩
        refine lc_list (xs := tr) (fun i H' => H' D = some (.lst (((b.ts.take i).map tieL).map V.str)) ∧ Same H H') ⟨upd_same, Same.new (Same.refl H) hD⟩ (fun i H' _ h => SqL.of (h.2 _ _ ha)) ?_ ?_
        · rintro i x H' hi ⟨hDi, sm⟩
          refine ⟨rfl, ?_⟩
          unfold tYes
          refine iteT ?_
          obtain ⟨r, hr', y, rfl, dx, hy⟩ := Paired.at htr hi
          have hy' := sm _ _ hy
          have il : i < b.ts.length := (List.getElem?_eq_some_iff.mp hr').1
          have okr := (fine.ts r (List.mem_of_getElem? hr')).ok
          have rl := row_len okr r.b
          have tl' := tie_len okr
          refine ⟨_, rfl, by decide, _, rfl, y, _, dx, _, _, rfl, hy', T.cl, T.n_text, tfs_text r, .inl ⟨_, rfl, by rw [tieText_eq]; omega, _, rfl, by rw [e_tie]; omega, ?_⟩⟩
          refine ⟨_, hDi, by rw [List.length_map, List.length_map, List.length_take]; omega, ?_, same_put sm hD⟩
          rw [upd_same, takeN hr', List.map_append, e_tie]
          rfl
        · rintro H2 ⟨hD2, s2⟩
          rw [List.take_of_length_le (by omega)] at hD2
          -- the notes' lines
          have hn2 := hn.same s2
          have hnr2 := hnr.same s2
          refine ⟨_, rfl, n, rfl, ⟨_, hn2.sq⟩, fun G hG => ?_⟩
          refine lc_tup (xs := nr) (fun i H' => H' G = some (.lst (((b.ns.take i).map noteL).map V.str)) ∧ Same H2 H') ⟨upd_same, Same.new (Same.refl H2) hG⟩ (fun i H' _ h => (hn2.same h.2).sq) ?_ ?_
          · rintro i x H' hi ⟨hGi, sm⟩
            obtain ⟨p, hp, y, rfl, hy⟩ := Paired.at hnr2 hi
            have il : i < b.ns.length := (List.getElem?_eq_some_iff.mp hp).1
            have np := fine.ns p (List.mem_of_getElem? hp)
            have p0 := np.p0; have pz := np.pz; have lo := np.lo; have hi' := np.hi
            have nl := num_len p0 (by omega)
            have al := shown_len60 lo hi'
            have ll := note_len np z1
            have e60 : (10 : Int) ^ 60 < 10 ^ 64 := by decide +kernel
            have l4 : (Str.ofString "note ").length = 5 := by decide
            have l1 : (Str.ofString " ").length = 1 := by decide
            have l0 : Str.empty.length = 0 := rfl
            refine ⟨y, _, rfl, SqT.of (sm _ _ hy), rfl, _, _, rfl, _, _, rfl, rfl, rfl, ?_⟩
            unfold tYes
            refine iteT ?_
            refine ⟨_, rfl, by decide, _, rfl, .inr ⟨p.1, rfl, log_le (by omega) (by omega), _, rfl, by simp only [Str.length_append]; omega, ?_⟩⟩
            refine ⟨_, rfl, by simp only [Str.length_append]; omega, _, rfl, p.2, rfl, by omega, by omega, fun H3 s3 => .inl ⟨_, rfl, by omega, _, rfl, by simp only [Str.length_append]; omega, ?_⟩⟩
            have sm3 := sm.trans s3
            refine ⟨_, s3 _ _ hGi, by rw [List.length_map, List.length_map, List.length_take]; omega, ?_, same_put sm3 hG⟩
            rw [upd_same, takeN hp, List.map_append]
            have e := e_note p
            rw [← e]
            rfl
          · rintro H4 ⟨hG4, s4⟩
            rw [List.take_of_length_le (by omega)] at hG4
            have ok : b.Ok := ⟨fine, h1, h2, nd⟩
            have ls := lines_sum ok
            have sn := size_len fine
            have l5 : (Str.ofString "size ").length = 5 := by decide
            have l0 : Str.empty.length = 0 := rfl
            have nl := num_len (n := b.z) (by omega) z1
            have hD4 := s4 _ _ hD2
            refine ⟨⟨_, rfl⟩, _, rfl, by decide, _, rfl, .inr ⟨b.z, rfl, log_le (by omega) (by omega), _, rfl, by simp only [Str.length_append]; omega, ?_⟩⟩
            refine ⟨_, rfl, D, _, rfl, .inr (SqL.of hD4), _, rfl, G, _, rfl, .inr (SqL.of hG4), ?_, fun l hl => ?_⟩
            · simp only [List.length_cons, List.length_append, List.length_map, List.length_nil]
              omega
            have es : Same H4 (upd H4 l (.lst (b.lines.map V.str))) := Same.new (Same.refl H4) hl
            refine ⟨_, l, b.lines, rfl, rfl, .inl (SqL.of ?_), by omega, fun x dx nx nd' ne => ?_⟩
            · rw [upd_same]
              unfold Lore.lines
              rw [List.map_cons, List.map_append, ← e_size, List.append_nil]
            refine ⟨x, dx, b, false, rfl, ok, upd_same, fun H' hb kp => ⟨rfl, k x H' ?_ ?_ hb⟩⟩
            · exact (s2.trans s4).free (free_up nx)
            · exact (s2.trans s4).trans ((Same.new (Same.refl H4) hl).trans (made nx nd' kp))
    · skip
      have sl : sizeLine = 16777216 := sizeLine_eq
      have z0 := fine.z0; have z1 := fine.z1
      have lt := Paired.len htr; have ln := Paired.len hnr
      refine ⟨_, (pss_cons (ps_if (PW.pt (pw_or (pt_cmpR op_gt (pe_callB  call_len (by rfl) T.b_len (by decide +kernel) (pa_cons (pv 1) pa_nil)) (pe_glob (v := .int 12) rfl T.c_MOST ⟨_, rfl⟩) (nomark _)) (pw_or1 (pt_cmpR op_gt (pe_callB  call_len (by rfl) T.b_len (by decide +kernel) (pa_cons (pv 2) pa_nil)) (pe_glob (v := .int 12) rfl T.c_MOST ⟨_, rfl⟩) (nomark _))))) (pss_one (ps_raise rfl (takes_of rfl rfl rfl rfl) (pmk_oex (T.ex 0 (by decide)).ox (T.ex 0 (by decide)).ini T.t_E_init (ok_E_init T) (hr.mono (by decide)) T.bn_E_init .nil pass0 rfl T.g_Full (pa_cons (pe_glob (v := .int 12) rfl T.c_MOST ⟨_, rfl⟩) pa_nil)))) pss_nil)
      (pss_cons (ps_setLc (i := 3) (own := [("tie", 5)]) rfl sc_book_of.nd rfl rfl (sw_true rfl rfl rfl (by decide +kernel)) (pi_tup (pv 1)) (blkOk_by (own := [("tie", 5)]) (N := ["size", "ties", "notes", "tie_lines", "note_lines", "tie", "place", "note"]) (sc := defScope s_book_of) (by decide +kernel)) (fun _ _ _ _ _ => (pg_name (i := 5) sc_book_of.nd rfl (Or.inl rfl))) (fun _ _ _ _ _ => pts_nil) (fun _ _ _ _ _ => (pe_jn (.cons pe_str (.cons (pe_fmt (show PE _ _ (tFld K (tVar 5) "text") from pe_fld (pv 5) rfl)) .nil)))))
      (pss_cons (ps_setLc (i := 4) (own := [("place", 6), ("note", 7)]) rfl sc_book_of.nd rfl rfl (sw_true rfl rfl rfl (by decide +kernel)) (pi_list (pv 2)) (blkOk_by (own := [("place", 6), ("note", 7)]) (N := ["size", "ties", "notes", "tie_lines", "note_lines", "tie", "place", "note"]) (sc := defScope s_book_of) (by decide +kernel)) (fun _ _ _ _ _ => (show PG _ _ (gTup K 2 _) from (pg_tup rfl (pgs_cons (pg_name (i := 6) sc_book_of.nd rfl (Or.inl rfl)) (pgs_cons (pg_name (i := 7) sc_book_of.nd rfl (Or.inl rfl)) pgs_nil))))) (fun _ _ _ _ _ => pts_nil) (fun _ _ _ _ _ => (pe_jn (.cons pe_str (.cons (pe_fmt (pv 6)) (.cons pe_str (.cons (pe_fmt (pe_call (ok_written T) (hr.mono (by decide)) rfl T.g_written T.k_written T.bn_written .nil pass0 (pa_cons (pv 7) pa_nil))) .nil)))))))
      (pss_one (ps_ret (pe_make (mkB T) (ok_B_init T) (hr.mono (by decide)) rfl T.g_Bk T.bn_B_init .nil pass0 (pa_cons (pe_join pe_str (pe_lst (pa_cons (pe_joined (.cons pe_str (.cons (pe_fmt (pv 0)) .nil))) (StX.pa_star (pv 3) (StX.pa_star (pv 4) pa_nil))))) pa_nil))))))), ?_⟩
      refine ⟨_, rfl, _, _, rfl, .inr ⟨_, SqT.of ha, rfl⟩, _, _, rfl, rfl, ?_⟩
      have X0 := T.ex 0 (by decide)
      rw [lt]
      rcases h with ⟨h1, h2, k⟩ | ⟨h1, o⟩
      case inr =>
        by_cases c : 12 < b.ts.length
        · exact ⟨true, gt_t (by omega), iteT (iteT (mkR X0 o))⟩
        · have := h1.resolve_left c
          exact ⟨false, gt_f (by omega), iteF ⟨_, rfl, _, _, rfl, .inl ⟨_, SqL.of hn, rfl⟩, _, _, rfl, rfl, true, gt_t (by omega), iteT (mkR X0 o)⟩⟩
      case inl =>
        refine ⟨false, gt_f (by omega), iteF ⟨_, rfl, _, _, rfl, .inl ⟨_, SqL.of hn, rfl⟩, _, _, rfl, rfl, false, gt_f (by omega), iteF ?_⟩⟩
        -- the ties' lines
        refine ⟨_, rfl, a, rfl, ⟨_, SqT.of ha⟩, fun D hD => ?_⟩
        refine lc_tup (xs := tr) (fun i H' => H' D = some (.lst (((b.ts.take i).map tieL).map V.str)) ∧ Same H H') ⟨upd_same, Same.new (Same.refl H) hD⟩ (fun i H' _ h => SqT.of (h.2 _ _ ha)) ?_ ?_
        · rintro i x H' hi ⟨hDi, sm⟩
          refine ⟨rfl, ?_⟩
          unfold tYes
          refine iteT ?_
          obtain ⟨r, hr', y, rfl, dx, hy⟩ := Paired.at htr hi
          have hy' := sm _ _ hy
          have il : i < b.ts.length := (List.getElem?_eq_some_iff.mp hr').1
          have okr := (fine.ts r (List.mem_of_getElem? hr')).ok
          have rl := row_len okr r.b
          have tl' := tie_len okr
          refine ⟨_, rfl, by decide, _, rfl, y, _, dx, _, _, rfl, hy', T.cl, T.n_text, tfs_text r, .inl ⟨_, rfl, by rw [tieText_eq]; omega, _, rfl, by rw [e_tie]; omega, ?_⟩⟩
          refine ⟨_, hDi, by rw [List.length_map, List.length_map, List.length_take]; omega, ?_, same_put sm hD⟩
          rw [upd_same, takeN hr', List.map_append, e_tie]
          rfl
        · rintro H2 ⟨hD2, s2⟩
          rw [List.take_of_length_le (by omega)] at hD2
          -- the notes' lines
          have hn2 := s2 _ _ hn
          have hnr2 := hnr.same s2
          refine ⟨_, rfl, n, rfl, ⟨_, SqL.of hn2⟩, fun G hG => ?_⟩
          refine lc_list (xs := nr) (fun i H' => H' G = some (.lst (((b.ns.take i).map noteL).map V.str)) ∧ Same H2 H') ⟨upd_same, Same.new (Same.refl H2) hG⟩ (fun i H' _ h => SqL.of (h.2 _ _ hn2)) ?_ ?_
          · rintro i x H' hi ⟨hGi, sm⟩
            obtain ⟨p, hp, y, rfl, hy⟩ := Paired.at hnr2 hi
            have il : i < b.ns.length := (List.getElem?_eq_some_iff.mp hp).1
            have np := fine.ns p (List.mem_of_getElem? hp)
            have p0 := np.p0; have pz := np.pz; have lo := np.lo; have hi' := np.hi
            have nl := num_len p0 (by omega)
            have al := shown_len60 lo hi'
            have ll := note_len np z1
            have e60 : (10 : Int) ^ 60 < 10 ^ 64 := by decide +kernel
            have l4 : (Str.ofString "note ").length = 5 := by decide
            have l1 : (Str.ofString " ").length = 1 := by decide
            have l0 : Str.empty.length = 0 := rfl
            refine ⟨y, _, rfl, SqT.of (sm _ _ hy), rfl, _, _, rfl, _, _, rfl, rfl, rfl, ?_⟩
            unfold tYes
            refine iteT ?_
            refine ⟨_, rfl, by decide, _, rfl, .inr ⟨p.1, rfl, log_le (by omega) (by omega), _, rfl, by simp only [Str.length_append]; omega, ?_⟩⟩
            refine ⟨_, rfl, by simp only [Str.length_append]; omega, _, rfl, p.2, rfl, by omega, by omega, fun H3 s3 => .inl ⟨_, rfl, by omega, _, rfl, by simp only [Str.length_append]; omega, ?_⟩⟩
            have sm3 := sm.trans s3
            refine ⟨_, s3 _ _ hGi, by rw [List.length_map, List.length_map, List.length_take]; omega, ?_, same_put sm3 hG⟩
            rw [upd_same, takeN hp, List.map_append]
            have e := e_note p
            rw [← e]
            rfl
          · rintro H4 ⟨hG4, s4⟩
            rw [List.take_of_length_le (by omega)] at hG4
            have ok : b.Ok := ⟨fine, h1, h2, nd⟩
            have ls := lines_sum ok
            have sn := size_len fine
            have l5 : (Str.ofString "size ").length = 5 := by decide
            have l0 : Str.empty.length = 0 := rfl
            have nl := num_len (n := b.z) (by omega) z1
            have hD4 := s4 _ _ hD2
            refine ⟨⟨_, rfl⟩, _, rfl, by decide, _, rfl, .inr ⟨b.z, rfl, log_le (by omega) (by omega), _, rfl, by simp only [Str.length_append]; omega, ?_⟩⟩
            refine ⟨_, rfl, D, _, rfl, .inr (SqL.of hD4), _, rfl, G, _, rfl, .inr (SqL.of hG4), ?_, fun l hl => ?_⟩
            · simp only [List.length_cons, List.length_append, List.length_map, List.length_nil]
              omega
            have es : Same H4 (upd H4 l (.lst (b.lines.map V.str))) := Same.new (Same.refl H4) hl
            refine ⟨_, l, b.lines, rfl, rfl, .inl (SqL.of ?_), by omega, fun x dx nx nd' ne => ?_⟩
            · rw [upd_same]
              unfold Lore.lines
              rw [List.map_cons, List.map_append, ← e_size, List.append_nil]
            refine ⟨x, dx, b, false, rfl, ok, upd_same, fun H' hb kp => ⟨rfl, k x H' ?_ ?_ hb⟩⟩
            · exact (s2.trans s4).free (free_up nx)
            · exact (s2.trans s4).trans ((Same.new (Same.refl H4) hl).trans (made nx nd' kp))
theorem ok_B_eq (T : Txt K mg Z) : FnOk P w K mg base CX0 1 Z.f_B_eq Z.d_B_eq ["self", "other"] (sp_B_eq Z) := by
  refine T.F_B_eq.ok sc_B_eq (fun vs H Q E h => ?_) (fun cdv A outer s H vs Q E hr h => ?_)
  · obtain ⟨a, c, t, u, b, d, rfl, _⟩ := h
    rfl
  · obtain ⟨a, c, t, u, b, d, rfl, ⟨dx, ta, na, tr, nr, ba⟩, ⟨dy, tc, nc, tr', nr', bc⟩, k⟩ := h
    refine ⟨_, (pss_one (ps_ret (pe_and (pe_callB  call_isi (by rfl) T.b_isinstance (by decide +kernel) (pa_cons (pv 1) (pa_cons (pe_glob (v := .ref Z.cB) rfl T.g_Bk rfl) pa_nil))) (pe_one (pe_cmpR op_eq (pe_fld (pv 0) rfl) (pe_fld (pv 1) rfl) (nomark _)))))), ?_⟩
    refine ⟨_, rfl, _, _, _, _, true, rfl, .own Z.cB, .base (.ins bc.ins T.clB T.z_clsB T.z_get T.z_tk T.z_mroB), T.z_kitB, true, rfl, iteT ?_⟩
    refine ⟨_, rfl, a, _, dx, _, _, rfl, ba.ins, T.clB, T.nB_text, bfs_text _ _ _ _, _, rfl, c, _, dy, _, _, rfl, bc.ins, T.clB, T.nB_text, bfs_text _ _ _ _, rfl, ?_⟩
    have e : decide (V.str t = V.str u) = decide (t = u) := by
      by_cases q : t = u
      · rw [decide_eq_true q, q, decide_eq_true rfl]
      · rw [decide_eq_false q, decide_eq_false fun z => q (V.str.inj z)]
    rw [e]
    exact k
end
end TT


set_option maxHeartbeats 4000000
namespace TT
open PySem PySem.Spec PyProof.Rows L2 LamX TL
/-! ### books of one size joined -/
def eqN (p q : Int × Int) : Bool := (p.1 == q.1) && ((p.2 == q.2) && true)
def datN (p : Int × Int) : PyData := .tuple [.int p.1, .int p.2]
theorem eqN_dat (p q : Int × Int) : PyData.eqv (datN p) (datN q) = eqN p q := by
  unfold datN eqN
  simp only [PyData.eqv, PyData.eqvAll]
theorem eqN_iff {p q : Int × Int} : eqN p q = true ↔ p = q := by
  obtain ⟨a, b⟩ := p
  obtain ⟨c, d⟩ := q
  unfold eqN
  simp
theorem eqB_iff {r q : Row} : eqB r q = true ↔ r = q := by
  rw [eqB_eq]
  obtain ⟨f, s, l, a, d, b⟩ := r
  obtain ⟨f', s', l', a', d', b'⟩ := q
  simp
def Lore.hasT (b : Lore) (r : Row) : Bool := b.ts.any fun t => eqB t r
def Lore.hasN (b : Lore) (q : Int × Int) : Bool := b.ns.any fun p => eqN p q
def Lore.or (b c : Lore) : Lore := ⟨b.z, b.ts ++ c.ts.filter (fun r => !b.hasT r), b.ns ++ c.ns.filter (fun q => !b.hasN q)⟩
def tells (ns : List (Int × Int)) (p : Int) : Option Int := (ns.find? fun q => decide (q.1 = p)).map (·.2)
/-- q gives another note to a place that has one -/
def Lore.off (b : Lore) (q : Int × Int) : Bool := !decide ((tells b.ns q.1).getD q.2 = q.2)
def kvsN (ns : List (Int × Int)) : List (Key × V) := ns.map fun q => (Sum.inl q.1, V.int q.2)
theorem merge_app : ∀ (l acc : List (Key × V)), (∀ p ∈ l, ∀ q ∈ acc, q.1 ≠ p.1) → (l.map (·.1)).Nodup → mergeK acc l = acc ++ l
  | [], acc, _, _ => by
    rw [List.append_nil]
    rfl
  | p :: l, acc, h, nd => by
    have e : putK acc p.1 p.2 = acc ++ [p] := by
      unfold putK
      rw [if_neg]
      rw [List.any_eq_true]
      rintro ⟨q, hq, e⟩
      exact h p (by simp) q hq (of_decide_eq_true e)
    obtain ⟨n1, n2⟩ := List.nodup_cons.mp nd
    show mergeK (putK acc p.1 p.2) l = _
    rw [e, merge_app l (acc ++ [p]) (fun x hx q hq => ?_) n2, List.append_assoc]
    · rfl
    · rcases List.mem_append.mp hq with hq | hq
      · exact h x (List.mem_cons_of_mem _ hx) q hq
      · rw [List.mem_singleton.mp hq]
        exact fun e => n1 (List.mem_map.mpr ⟨x, hx, e.symm⟩)
theorem merge_kvs {ns : List (Int × Int)} (h : (ns.map (·.1)).Nodup) : mergeK [] (kvsN ns) = kvsN ns := by
  have := merge_app (kvsN ns) [] (fun _ _ _ h => nomatch h) (by
    have e : (kvsN ns).map (·.1) = (ns.map (·.1)).map (Sum.inl : Int → Key) := by
      unfold kvsN
      rw [List.map_map, List.map_map]
      rfl
    rw [e]
    unfold List.Nodup at h ⊢
    rw [List.pairwise_map]
    exact List.Pairwise.imp (fun n e => n (Sum.inl.inj e)) h)
  rw [List.nil_append] at this
  exact this
theorem val_kvs (ns : List (Int × Int)) (p : Int) : valV (kvsN ns) (Sum.inl p) = (tells ns p).map V.int := by
  induction ns with
  | nil => rfl
  | cons q t ih =>
    by_cases c : q.1 = p
    · have e1 : valV (kvsN (q :: t)) (Sum.inl p) = some (V.int q.2) := valV_pos (congrArg Sum.inl c)
      rw [e1]
      unfold tells
      rw [List.find?_cons, decide_eq_true c]
      rfl
    · have e1 : valV (kvsN (q :: t)) (Sum.inl p) = valV (kvsN t) (Sum.inl p) := valV_neg fun e => c (Sum.inl.inj e)
      rw [e1, ih]
      unfold tells
      rw [List.find?_cons, decide_eq_false c]
theorem tells_mem {ns : List (Int × Int)} {p m : Int} (h : tells ns p = some m) : (p, m) ∈ ns := by
  unfold tells at h
  obtain ⟨q, hq, rfl⟩ := Option.map_eq_some_iff.mp h
  have h1 := List.mem_of_find?_eq_some hq
  have h2 : q.1 = p := of_decide_eq_true (by simpa using List.find?_some hq)
  obtain ⟨a, b⟩ := q
  cases h2
  exact h1
theorem tells_some {ns : List (Int × Int)} {p : Int} (h : p ∈ ns.map (·.1)) : ∃ m, tells ns p = some m := by
  obtain ⟨q, hq, rfl⟩ := List.mem_map.mp h
  unfold tells
  cases e : ns.find? (fun x => decide (x.1 = q.1)) with
  | some x => exact ⟨_, rfl⟩
  | none => exact absurd (List.find?_eq_none.mp e q hq) (by simp)
theorem filter_sub {α : Type} {f : α → Bool} {l : List α} {x : α} (h : x ∈ l.filter f) : x ∈ l ∧ f x = true := List.mem_filter.mp h
theorem Lore.Fine.or {b d : Lore} (h : b.Fine) (g : d.Fine) (z : b.z = d.z) : (b.or d).Fine := by
  refine ⟨h.z0, h.z1, fun r hr => ?_, fun q hq => ?_⟩
  · rcases List.mem_append.mp hr with hr | hr
    · exact h.ts r hr
    · have := g.ts r (filter_sub hr).1
      rw [← z] at this
      exact this
  · rcases List.mem_append.mp hq with hq | hq
    · exact h.ns q hq
    · have := g.ns q (filter_sub hq).1
      rw [← z] at this
      exact this
theorem Lore.nd_or {b d : Lore} (n : (b.ns.map (·.1)).Nodup) (m : (d.ns.map (·.1)).Nodup) (ok : ∀ q ∈ d.ns, b.off q = false) : ((b.or d).ns.map (·.1)).Nodup := by
  show ((b.ns ++ d.ns.filter fun q => !b.hasN q).map (·.1)).Nodup
  rw [List.map_append, List.nodup_append]
  refine ⟨n, ?_, fun x hx y hy e => ?_⟩
  · unfold List.Nodup at m ⊢
    rw [List.pairwise_map] at m ⊢
    exact m.filter _
  · obtain ⟨q, hq, rfl⟩ := List.mem_map.mp hy
    obtain ⟨h1, h2⟩ := filter_sub hq
    rw [e] at hx
    obtain ⟨k, hk⟩ := tells_some hx
    have o := ok q h1
    unfold Lore.off at o
    rw [hk] at o
    have e2 : k = q.2 := by simpa using o
    have mem := tells_mem hk
    rw [e2] at mem
    have : b.hasN q = true := by
      unfold Lore.hasN
      rw [List.any_eq_true]
      exact ⟨_, mem, eqN_iff.mpr rfl⟩
    rw [this] at h2
    cases h2
theorem tfs_inj {r q : Row} (h : tfs r = tfs q) : r = q := by
  have h1 : V.int r.f = V.int q.f := by have a := tfs_first r; rw [h, tfs_first q] at a; exact (Option.some.inj a).symm
  have h2 : V.int r.s = V.int q.s := by have a := tfs_second r; rw [h, tfs_second q] at a; exact (Option.some.inj a).symm
  have h3 : V.int r.l = V.int q.l := by have a := tfs_length r; rw [h, tfs_length q] at a; exact (Option.some.inj a).symm
  have h4 : V.int r.a = V.int q.a := by have a := tfs_amount r; rw [h, tfs_amount q] at a; exact (Option.some.inj a).symm
  have h5 : V.bl r.d = V.bl q.d := by have a := tfs_down r; rw [h, tfs_down q] at a; exact (Option.some.inj a).symm
  have h6 : V.bl r.b = V.bl q.b := by have a := tfs_backward r; rw [h, tfs_backward q] at a; exact (Option.some.inj a).symm
  obtain ⟨f, s, l, a, d, b⟩ := r
  obtain ⟨f', s', l', a', d', b'⟩ := q
  cases h1; cases h2; cases h3; cases h4; cases h5; cases h6
  rfl
theorem TieAt.uniq {C x : Addr} {H : Hp} {r q : Row} (h : TieAt C H x r) (g : TieAt C H x q) : r = q := by
  obtain ⟨dx, h⟩ := h
  obtain ⟨dy, g⟩ := g
  rw [h] at g
  injection g with g
  injection g with _ _ g
  exact tfs_inj g
/-- the ties of a tuple, each with the answer to == r -/
theorem Ties.es {C : Addr} {H : Hp} (r : Row) : ∀ {tr : List V} {ts : List Row}, Ties C H tr ts → ∃ es : List (Addr × Bool), (es.map fun e => V.ref e.1) = tr ∧ (∀ e ∈ es, ∃ t, TieAt C H e.1 t ∧ e.2 = eqB t r) ∧ es.any (·.2) = ts.any fun t => eqB t r
  | _, _, .nil => ⟨[], rfl, (fun _ h => nomatch h), rfl⟩
  | _, _, .cons (b := t) ⟨q, e, h⟩ rest => by
    obtain ⟨es, h1, h2, h3⟩ := Ties.es r rest
    refine ⟨(q, eqB t r) :: es, by rw [List.map_cons, h1, e], fun x hx => ?_, by rw [List.any_cons, List.any_cons, h3]⟩
    rcases List.mem_cons.mp hx with rfl | hx
    · exact ⟨t, h, rfl⟩
    · exact h2 x hx
theorem Notes.dps {K : PySem.W.Frag} {H : Hp} : ∀ {nr : List V} {ns : List (Int × Int)}, Notes H nr ns → DpAll K H nr (ns.map datN)
  | _, _, .nil => .nil
  | _, _, .cons ⟨q, e, h⟩ t => by
    subst e
    exact .cons (.tup (SqT.of h) (.cons (.int _) (.cons (.int _) .nil))) (Notes.dps t)
theorem datN_shaped (p : Int × Int) : SeqAt.shaped (datN p) = true := by
  unfold datN
  simp [SeqAt.shaped, PyData.canLay0, PyData.canLayAll0, PyData.depth, PyData.depthAll]
theorem datNs_lay (ns : List (Int × Int)) : PyData.canLayAll0 (ns.map datN) = true ∧ PyData.depthAll (ns.map datN) ≤ 1 := by
  induction ns with
  | nil => simp [PyData.canLayAll0, PyData.depthAll]
  | cons a t ih =>
    obtain ⟨h1, h2⟩ := ih
    rw [List.map_cons, PyData.canLayAll0, PyData.depthAll, h1]
    refine ⟨by unfold datN; simp [PyData.canLay0, PyData.canLayAll0], ?_⟩
    have : (datN a).depth ≤ 1 := by unfold datN; simp [PyData.depth, PyData.depthAll]
    omega
theorem datNs_shaped (ns : List (Int × Int)) : SeqAt.shaped (.tuple (ns.map datN)) = true := by
  obtain ⟨h1, h2⟩ := datNs_lay ns
  unfold SeqAt.shaped
  rw [PyData.canLay0, h1, PyData.depth, decide_eq_true (by omega)] <;> rfl
theorem any_dats (ns : List (Int × Int)) (q : Int × Int) : (ns.map datN).any (fun z => PyData.eqv z (datN q)) = ns.any fun p => eqN p q := by
  rw [List.any_map]
  have e : ((fun z => PyData.eqv z (datN q)) ∘ datN) = fun p => eqN p q := funext fun p => eqN_dat p q
  rw [e]
/-- the first note of d that b tells otherwise, and what is due then -/
def FirstOff (b d : Lore) (G : Int × Int → Prop) : Prop := ∃ l1 q l2, d.ns = l1 ++ q :: l2 ∧ (∀ x ∈ l1, b.off x = false) ∧ b.off q = true ∧ G q
theorem Paired.nil2 {α β : Type} {F : α → β → Prop} {xs : List α} {ys : List β} (h : Paired F xs ys) : Paired F (xs ++ []) ys := (List.append_nil xs).symm ▸ h
def sp_check_notes (Z : Zs) : Sp := fun vs H Q E => ∃ (a c : Addr) (t u : Str) (b d : Lore), vs = [.ref a, .ref c] ∧ BookAt Z.cC Z.cB H a t b ∧ BookAt Z.cC Z.cB H c u d ∧ b.Ok ∧ d.Ok ∧
  (((∀ q ∈ d.ns, b.off q = false) ∧ ∀ H', Same H H' → Q .non H') ∨ FirstOff b d fun q => ∀ t H', Same H H' → H' t = some (.tup [.int q.1, .int q.2]) → Out E (Z.c 1) (.ref t) H')
def sp_B_or (Z : Zs) : Sp := fun vs H Q E => ∃ (a c : Addr) (t u : Str) (b d : Lore), vs = [.ref a, .ref c] ∧ BookAt Z.cC Z.cB H a t b ∧ BookAt Z.cC Z.cB H c u d ∧ b.Ok ∧ d.Ok ∧
  ((b.z ≠ d.z ∧ Out E (Z.c 2) (.ref c) H) ∨ (b.z = d.z ∧ (FirstOff b d (fun q => ∀ t H', Same H H' → H' t = some (.tup [.int q.1, .int q.2]) → Out E (Z.c 1) (.ref t) H') ∨ ((∀ q ∈ d.ns, b.off q = false) ∧ BookOr Z E H (b.or d) Q))))
section
variable {P : Program} {w : World} {K : PySem.W.Frag} {mg : Str → Option Value} {base : Heap} {Z : Zs}
theorem ok_check_notes (T : Txt K mg Z) : FnOk P w K mg base (L2.CX P w) 4 Z.f_check_notes Z.d_check_notes ["one", "other"] (sp_check_notes Z) := by
  refine T.F_check_notes.okX sc_check_notes (fun vs H Q E h => ?_) (fun cdv A outer s H vs Q E hr h => ?_)
  · obtain ⟨a, c, t, u, b, d, rfl, _⟩ := h
    rfl
  · obtain ⟨a, c, t, u, b, d, rfl, ⟨dx, ta, na, tr, nr, ba⟩, ⟨dy, tc, nc, tr', nr', bc⟩, okb, okd, h⟩ := h
    have X0 := T.ex 1 (by decide)
    refine ⟨_, (pss_cons (ps_set (i := 2) sc_check_notes.nd rfl (Or.inl rfl) (pe_callTy (call_dictT rfl) (by rfl) T.b_dict (by decide +kernel) (pa_cons (pe_fld (pv 0) rfl) pa_nil)))
      (pss_one (ps_for (passes_of rfl) rfl (pi_tup (pe_fld (pv 1) rfl)) (pg_tup rfl (pgs_cons (pg_name (i := 3) sc_check_notes.nd rfl (Or.inl rfl)) (pgs_cons (pg_name (i := 4) sc_check_notes.nd rfl (Or.inl rfl)) pgs_nil))) (pss_one (ps_if (pt_cmpR op_ne (pe_dget2 (hu_of hr) (pv 2) (pv 3) (pv 4) ⟨rfl, rfl, rfl, rfl⟩) (pv 4) (nomark _)) (pss_one (ps_raise rfl (takes_of rfl rfl rfl rfl) (pmk_oex (T.ex 1 (by decide)).ox (T.ex 1 (by decide)).ini T.t_E_init (ok_E_init T) (hr.mono (by decide)) T.bn_E_init .nil pass0 rfl T.g_OtherNote (pa_cons (pe_tup (pa_cons (pv 3) (pa_cons (pv 4) pa_nil))) pa_nil)))) pss_nil))))), ?_⟩
    obtain ⟨o, hna, ho⟩ := ba.notes
    have addrs : ∃ ps : List Addr, nr = ps.map V.ref ∧ Paired (fun p kv => SqT K H p [kV kv.1, kv.2]) ps (kvsN b.ns) := by
      have key : ∀ {xs : List V} {ns : List (Int × Int)}, Notes H xs ns → ∃ ps : List Addr, xs = ps.map V.ref ∧ Paired (fun p kv => SqT K H p [kV kv.1, kv.2]) ps (kvsN ns) := by
        intro xs ns h
        induction h with
        | nil => exact ⟨[], rfl, .nil⟩
        | cons r _ ih =>
          obtain ⟨q, e, h⟩ := r
          obtain ⟨ps, e2, h2⟩ := ih
          exact ⟨q :: ps, by rw [e, e2] <;> rfl, .cons (SqT.of h) h2⟩
      exact key ba.ns
    obtain ⟨ps, eps, hps⟩ := addrs
    rw [eps] at hna
    refine ⟨_, rfl, a, _, dx, _, _, rfl, ba.ins, T.clB, T.nB_notes, bfs_notes _ _ _ _, na, o, ps, kvsN b.ns, rfl, hna, ho, hps, fun D hD => ?_⟩
    rw [merge_kvs okb.nd]
    have s1 := Same.new (o := .dK (kvsN b.ns)) (Same.refl H) hD
    have atD : upd H D (.dK (kvsN b.ns)) D = some (.dK (kvsN b.ns)) := upd_same
    generalize upd H D (.dK (kvsN b.ns)) = H1 at s1 atD ⊢
    have nc1 := bc.notes.same s1
    have ns1 := bc.ns.same s1
    refine ⟨_, rfl, c, _, dy, _, _, rfl, s1 _ _ bc.ins, T.clB, T.nB_notes, bfs_notes _ _ _ _, nc, rfl, ⟨_, nc1.sq⟩, for_tup (xs := nr') (fun i σ H' => ∃ v3 v4, σ = [some (.ref a), some (.ref c), some (.ref D), v3, v4] ∧ Same H1 H' ∧ ∀ x ∈ d.ns.take i, b.off x = false) ⟨_, _, rfl, Same.refl _, fun _ h => nomatch h⟩ (fun i σ H' _ ⟨_, _, _, s, _⟩ => (nc1.same s).sq) ?_ ?_⟩
    · rintro i x σ H2 hi ⟨v3, v4, rfl, s2, no⟩
      obtain ⟨q, hq, y, rfl, hy⟩ := Paired.at ns1 hi
      have D2 := s2 _ _ atD
      refine ⟨y, _, rfl, SqT.of (s2 _ _ hy), rfl, _, _, rfl, _, _, rfl, rfl, ?_⟩
      refine ⟨_, rfl, D, rfl, .inl ⟨_, .inl D2⟩, _, rfl, _, rfl, _, .inl ⟨_, Sum.inl q.1, .inl D2, rfl, rfl⟩, _, rfl, ?_⟩
      rw [val_kvs]
      have e : (((tells b.ns q.1).map V.int).getD (V.int q.2)) = V.int ((tells b.ns q.1).getD q.2) := by
        cases tells b.ns q.1 <;> rfl
      rw [e]
      refine ⟨rfl, _, rfl, ?_⟩
      have e2 : (!decide (V.int ((tells b.ns q.1).getD q.2) = V.int q.2)) = b.off q := by
        unfold Lore.off
        by_cases c : (tells b.ns q.1).getD q.2 = q.2
        · rw [c, decide_eq_true rfl, decide_eq_true rfl]
        · rw [decide_eq_false c, decide_eq_false fun z => c (V.int.inj z)]
      rw [e2]
      cases hof : b.off q with
      | false =>
        refine iteF ⟨_, _, rfl, s2, fun x hx => ?_⟩
        rw [take_snoc hq] at hx
        rcases List.mem_append.mp hx with hx | hx
        · exact no x hx
        · rw [List.mem_singleton.mp hx]
          exact hof
      | true =>
        rcases h with ⟨all, _⟩ | ⟨l1, q', l2, e3, n1, o1, k⟩
        · rw [all q (List.mem_of_getElem? hq)] at hof
          cases hof
        have il : i = l1.length := by
          rcases Nat.lt_trichotomy i l1.length with c | c | c
          · rw [e3, List.getElem?_append_left c] at hq
            rw [n1 q (List.mem_of_getElem? hq)] at hof
            cases hof
          · exact c
          · exfalso
            have : q' ∈ d.ns.take i := by
              rw [e3, List.take_append, List.mem_append]
              refine .inr ?_
              rw [show i - l1.length = (i - l1.length - 1) + 1 by omega, List.take_succ_cons]
              exact List.mem_cons_self ..
            rw [no q' this] at o1
            cases o1
        have eq : q = q' := by
          rw [e3, il, List.getElem?_append_right (Nat.le_refl _), Nat.sub_self] at hq
          exact (Option.some.inj hq).symm
        subst eq
        exact iteT ⟨_, rfl, _, rfl, by show 2 ≤ sizeLine; decide, fun t ht => mkR X0 (k t _ ((s1.trans s2).trans (Same.new (Same.refl _) ht)) upd_same)⟩
    · rintro σ H2 ⟨v3, v4, rfl, s2, no⟩
      rw [List.take_of_length_le (by rw [Paired.len ns1]; exact Nat.le_refl _)] at no
      rcases h with ⟨_, k⟩ | ⟨l1, q', l2, e3, n1, o1, k⟩
      · exact k H2 (s1.trans s2)
      · rw [no q' (by rw [e3]; simp)] at o1
        cases o1
theorem ok_B_or (T : Txt K mg Z) : FnOk P w K mg base (L2.CX P w) 14 Z.f_B_or Z.d_B_or ["self", "other"] (sp_B_or Z) := by
  refine T.F_B_or.okX sc_B_or (fun vs H Q E h => ?_) (fun cdv A outer s H vs Q E hr h => ?_)
  · obtain ⟨a, c, t, u, b, d, rfl, _⟩ := h
    rfl
  · obtain ⟨a, c, t, u, b, d, rfl, ba0, bc0, okb, okd, h⟩ := h
    obtain ⟨dx, ta, na, tr, nr, ba⟩ := id ba0
    obtain ⟨dy, tc, nc, tr', nr', bc⟩ := id bc0
    have sl : sizeLine = 16777216 := sizeLine_eq
    have X0 := T.ex 2 (by decide)
    refine ⟨_, (pss_cons (ps_if (pt_not (pt_val (pe_callB  call_isi (by rfl) T.b_isinstance (by decide +kernel) (pa_cons (pv 1) (pa_cons (pe_glob (v := .ref Z.cB) rfl T.g_Bk rfl) pa_nil))))) (pss_one ps_never) pss_nil)
      (pss_cons (ps_if (pt_cmpR op_ne (pe_fld (pv 0) rfl) (pe_fld (pv 1) rfl) (nomark _)) (pss_one (ps_raise rfl (takes_of rfl rfl rfl rfl) (pmk_oex (T.ex 2 (by decide)).ox (T.ex 2 (by decide)).ini T.t_E_init (ok_E_init T) (hr.mono (by decide)) T.bn_E_init .nil pass0 rfl T.g_OtherSize (pa_cons (pv 1) pa_nil)))) pss_nil)
      (pss_cons (ps_expr (pe_call (ok_check_notes T) (hr.mono (by decide)) rfl T.g_check_notes T.k_check_notes T.bn_check_notes .nil (passes_call (takes_of rfl rfl rfl rfl) (fun _ _ _ _ h => h)) (pa_cons (pv 0) (pa_cons (pv 1) pa_nil))))
      (pss_cons (ps_setLc (i := 2) (own := [("tie", 4)]) rfl sc_B_or.nd rfl rfl (sw_true rfl rfl rfl (by decide +kernel)) (pi_tup (pe_fld (pv 1) rfl)) (blkOk_by (own := [("tie", 4)]) (N := ["self", "other", "ties", "notes", "tie", "note"]) (sc := defScope s_B_or) (by decide +kernel)) (fun _ _ _ _ _ => (pg_name (i := 4) sc_B_or.nd rfl (Or.inl rfl))) (fun _ _ _ _ _ => (pts_one (pt_cmpR (r := rNotInO K Z.cC (sp_T_eqB Z) E0 true) (op_notInO (ok_T_eqB T) T.a_T_eq T.i_T_eq T.bn_T_eq pass0 (hr.mono (by decide))) (pv 4) (show PE _ _ (tFld K (tVar 0) "ties") from pe_fld (pv 0) rfl) (by with_unfolding_all rfl)))) (fun _ _ _ _ _ => (pv 4)))
      (pss_cons (ps_setLc (i := 3) (own := [("note", 5)]) rfl sc_B_or.nd rfl rfl (sw_true rfl rfl rfl (by decide +kernel)) (pi_tup (pe_fld (pv 1) rfl)) (blkOk_by (own := [("note", 5)]) (N := ["self", "other", "ties", "notes", "tie", "note"]) (sc := defScope s_B_or) (by decide +kernel)) (fun _ _ _ _ _ => (pg_name (i := 5) sc_B_or.nd rfl (Or.inl rfl))) (fun _ _ _ _ _ => (pts_one (pt_cmpR (r := rNotInDT K) (op_notInDT (by exact (hr.mono (j := 1) (by decide)).in1.units)) (pv 5) (show PE _ _ (tFld K (tVar 0) "notes") from pe_fld (pv 0) rfl) (by with_unfolding_all rfl)))) (fun _ _ _ _ _ => (pv 5)))
      (pss_one (ps_ret (pe_call (ok_book_of T) (hr.mono (by decide)) rfl T.g_book_of T.k_book_of T.bn_book_of .nil (passes_call (takes_of rfl rfl rfl rfl) (fun _ _ _ _ h => h)) (pa_cons (pe_fld (pv 0) rfl) (pa_cons (pe_lst (StX.pa_star (pe_fld (pv 0) rfl) (StX.pa_star (pv 2) pa_nil))) (pa_cons (pe_lst (StX.pa_star (pe_fld (pv 0) rfl) (StX.pa_star (pv 3) pa_nil))) pa_nil))))))))))), ?_⟩
    refine ⟨_, rfl, _, _, _, _, true, rfl, .own Z.cB, .base (.ins bc.ins T.clB T.z_clsB T.z_get T.z_tk T.z_mroB), T.z_kitB, true, rfl, iteF ?_⟩
    refine ⟨_, rfl, a, _, dx, _, _, rfl, ba.ins, T.clB, T.nB_size, bfs_size _ _ _ _, _, rfl, c, _, dy, _, _, rfl, bc.ins, T.clB, T.nB_size, bfs_size _ _ _ _, rfl, _, rfl, ?_⟩
    rcases h with ⟨zz, out⟩ | ⟨zz, h⟩
    · rw [decide_eq_false (fun z => zz (V.int.inj z))]
      exact iteT ⟨_, rfl, mkR X0 out⟩
    rw [zz, decide_eq_true rfl]
    refine iteF ?_
    rcases h with ⟨l1, q, l2, e1, n1, o1, k⟩ | ⟨all, h⟩
    · exact ⟨_, rfl, _, rfl, a, c, _, _, b, d, rfl, ba0, bc0, okb, okd, .inr ⟨l1, q, l2, e1, n1, o1, k⟩⟩
    refine ⟨_, rfl, _, rfl, a, c, _, _, b, d, rfl, ba0, bc0, okb, okd, .inl ⟨all, fun H1 s1 => ?_⟩⟩
    have tb := okb.tn; have td := okd.tn; have nb := okb.nn; have nd := okd.nn
    have lt := Paired.len ba.ts; have ln := Paired.len ba.ns; have lt' := Paired.len bc.ts; have ln' := Paired.len bc.ns
    -- the ties that are not there
    have tc1 := s1 _ _ bc.ties
    refine ⟨_, rfl, c, _, dy, _, _, rfl, s1 _ _ bc.ins, T.clB, T.nB_ties, bfs_ties _ _ _ _, tc, rfl, ⟨_, SqT.of tc1⟩, fun D hD => ?_⟩
    refine lc_tup (xs := tr') (fun i H' => ∃ l, H' D = some (.lst l) ∧ l.length ≤ i ∧ Ties Z.cC H' l ((d.ts.take i).filter fun r => !b.hasT r) ∧ Same H1 H') ⟨[], upd_same, Nat.le_refl _, .nil, Same.new (Same.refl H1) hD⟩ (fun i H' _ ⟨_, _, _, _, s⟩ => SqT.of (s _ _ tc1)) ?_ ?_
    · rintro i x H2 hi ⟨l, hDi, hlen, hl, s2⟩
      refine ⟨rfl, ?_⟩
      obtain ⟨r, hr', y, rfl, hy⟩ := Paired.at bc.ts hi
      have s12 := s1.trans s2
      have hy2 := Same.tie s12 hy
      have il : i < d.ts.length := (List.getElem?_eq_some_iff.mp hr').1
      obtain ⟨es, h1, h2, h3⟩ := Ties.es r (ba.ts.same s12)
      have hta := s12 _ _ ba.ties
      rw [← h1] at hta
      refine ⟨_, rfl, _, rfl, a, _, dx, _, _, rfl, s12 _ _ ba.ins, T.clB, T.nB_ties, bfs_ties _ _ _ _, y, ta, es, rfl, rfl, SqT.of hta, hy2.imp fun _ e => ⟨_, e⟩, fun e he => ?_, fun e he f hf eq => ?_, _, rfl, ?_⟩
      · obtain ⟨t, ht, e2⟩ := h2 e he
        refine ⟨ht.imp fun _ e => ⟨_, e⟩, fun eq => ?_, e.1, .ref y, t, rfl, ht, .inl ⟨y, r, rfl, hy2, by rw [e2], rfl⟩⟩
        rw [eq] at ht
        rw [e2, ht.uniq hy2]
        exact eqB_iff.mpr rfl
      · obtain ⟨t, ht, e2⟩ := h2 e he
        obtain ⟨t', ht', e2'⟩ := h2 f hf
        rw [eq] at ht
        rw [e2, e2', ht.uniq ht']
      · have e4 : (!es.any (·.2)) = !b.hasT r := by rw [h3] <;> rfl
        show (if (!es.any (·.2)) = true then _ else _)
        rw [e4]
        cases hh : b.hasT r with
        | false =>
          refine iteT ⟨_, rfl, _, hDi, by omega, l ++ [.ref y], upd_same, by rw [List.length_append]; simp; omega, ?_, same_put s2 hD⟩
          rw [take_snoc hr', List.filter_append, List.filter_cons, hh]
          exact Paired.snoc ⟨y, rfl, hy2.put hDi⟩ (hl.put hDi)
        | true =>
          refine iteF ⟨l, hDi, by omega, ?_, s2⟩
          rw [take_snoc hr', List.filter_append, List.filter_cons, hh]
          simpa using hl
    rintro H2 ⟨l, hD2, hlen, hl, s2⟩
    rw [List.take_of_length_le (by omega)] at hl
    -- the notes that are not there
    have s12 := s1.trans s2
    have nc2 := bc.notes.same s12
    refine ⟨_, rfl, c, _, dy, _, _, rfl, s12 _ _ bc.ins, T.clB, T.nB_notes, bfs_notes _ _ _ _, nc, rfl, ⟨_, nc2.sq⟩, fun G hG => ?_⟩
    refine lc_tup (xs := nr') (fun i H' => ∃ l, H' G = some (.lst l) ∧ l.length ≤ i ∧ Notes H' l ((d.ns.take i).filter fun q => !b.hasN q) ∧ Same H2 H') ⟨[], upd_same, Nat.le_refl _, .nil, Same.new (Same.refl H2) hG⟩ (fun i H' _ ⟨_, _, _, _, s⟩ => (nc2.same s).sq) ?_ ?_
    · rintro i x H3 hi ⟨m, hGi, hmlen, hm, s3⟩
      refine ⟨rfl, ?_⟩
      obtain ⟨q, hq, y, rfl, hy⟩ := Paired.at bc.ns hi
      have s13 := s12.trans s3
      have hy3 := s13 _ _ hy
      have il : i < d.ns.length := (List.getElem?_eq_some_iff.mp hq).1
      refine ⟨_, rfl, _, rfl, a, _, dx, _, _, rfl, s13 _ _ ba.ins, T.clB, T.nB_notes, bfs_notes _ _ _ _, datN q, b.ns.map datN, .tup (SqT.of hy3) (.cons (.int _) (.cons (.int _) .nil)), .tup (ba.notes.same s13).sq (ba.ns.same s13).dps, datN_shaped q, datNs_shaped _, _, rfl, ?_⟩
      rw [any_dats]
      have e4 : (!b.ns.any fun p => eqN p q) = !b.hasN q := rfl
      rw [e4]
      cases hh : b.hasN q with
      | false =>
        refine iteT ⟨_, rfl, _, hGi, by omega, m ++ [.ref y], upd_same, by rw [List.length_append]; simp; omega, ?_, same_put s3 hG⟩
        rw [take_snoc hq, List.filter_append, List.filter_cons, hh]
        exact Paired.snoc ⟨y, rfl, (upd_ne (ne_of hy3 hGi fun z => nomatch z)).trans hy3⟩ (hm.put hGi)
      | true =>
        refine iteF ⟨m, hGi, by omega, ?_, s3⟩
        rw [take_snoc hq, List.filter_append, List.filter_cons, hh]
        simpa using hm
    rintro H4 ⟨m, hG4, hmlen, hm, s4⟩
    rw [List.take_of_length_le (by omega)] at hm
    have s14 := s12.trans s4
    refine ⟨_, rfl, a, _, dx, _, _, rfl, s14 _ _ ba.ins, T.clB, T.nB_size, bfs_size _ _ _ _, ?_⟩
    refine ⟨_, rfl, a, _, dx, _, _, rfl, s14 _ _ ba.ins, T.clB, T.nB_ties, bfs_ties _ _ _ _, ta, _, rfl, .inl (SqT.of (s14 _ _ ba.ties)), _, rfl, D, _, rfl, .inr (SqL.of (s4 _ _ hD2)), ?_, fun t1 ht1 => ?_⟩
    · rw [List.append_nil, List.length_append]
      omega
    have s5 := Same.new (o := .lst (tr ++ (l ++ []))) (Same.refl H4) ht1
    have s15 := s14.trans s5
    refine ⟨_, rfl, a, _, dx, _, _, rfl, s15 _ _ ba.ins, T.clB, T.nB_notes, bfs_notes _ _ _ _, na, _, rfl, .inl (ba.notes.same s15).sq, _, rfl, G, _, rfl, .inr (SqL.of (s5 _ _ hG4)), ?_, fun n1 hn1 => ?_⟩
    · rw [List.append_nil, List.length_append]
      omega
    have s6 := Same.new (o := .lst (nr ++ (m ++ []))) (Same.refl _) hn1
    have s16 := s15.trans s6
    refine ⟨t1, n1, _, _, b.or d, rfl, .inl ⟨s6 _ _ upd_same, upd_same⟩, ?_, ?_, okb.fine.or okd.fine zz, Lore.nd_or okb.nd okd.nd all, h.mono s16⟩
    · exact Paired.app (Paired.nil2 (((hl.same s4).same s5).same s6)) (ba.ts.same s16)
    · exact Paired.app (Paired.nil2 ((hm.same s5).same s6)) (ba.ns.same s16)
end
end TT

set_option maxHeartbeats 4000000
namespace TT
open PySem PySem.Spec PyProof.Rows L2 LamX TL
/-! ### one book behind the other -/
def Lore.add (b d : Lore) : Lore := ⟨b.z + d.z, b.ts ++ d.ts.map (Row.far · b.z), b.ns ++ d.ns.map fun p => (b.z + p.1, p.2)⟩
theorem Lore.Fine.add {b d : Lore} (h : b.Fine) (g : d.Fine) (z : b.z + d.z ≤ 10 ^ 30) : (b.add d).Fine := by
  have b0 := h.z0; have d0 := g.z0
  refine ⟨by show 1 ≤ b.z + d.z; omega, z, fun r hr => ?_, fun p hp => ?_⟩
  · rcases List.mem_append.mp hr with hr | hr
    · exact (h.ts r hr).wide (by show b.z ≤ b.z + d.z; omega)
    · obtain ⟨q, hq, rfl⟩ := List.mem_map.mp hr
      exact (g.ts q hq).far (by omega) z
  · rcases List.mem_append.mp hp with hp | hp
    · have := h.ns p hp
      have := this.pz
      exact ⟨(h.ns p hp).p0, by show p.1 < b.z + d.z; omega, (h.ns p hp).lo, (h.ns p hp).hi⟩
    · obtain ⟨q, hq, rfl⟩ := List.mem_map.mp hp
      have n := g.ns q hq
      have := n.p0; have := n.pz
      exact ⟨by show 0 ≤ b.z + q.1; omega, by show b.z + q.1 < b.z + d.z; omega, n.lo, n.hi⟩
theorem Lore.nd_add {b d : Lore} (h : b.Fine) (g : d.Fine) (n : (b.ns.map (·.1)).Nodup) (m : (d.ns.map (·.1)).Nodup) : ((b.add d).ns.map (·.1)).Nodup := by
  have e : (b.add d).ns.map (·.1) = b.ns.map (·.1) ++ (d.ns.map (·.1)).map (b.z + ·) := by
    show (b.ns ++ d.ns.map fun p => (b.z + p.1, p.2)).map (·.1) = _
    rw [List.map_append, List.map_map, List.map_map]
    rfl
  rw [e, List.nodup_append]
  refine ⟨n, ?_, ?_⟩
  · unfold List.Nodup at m ⊢
    rw [List.pairwise_map]
    exact List.Pairwise.imp (fun h z => h (by omega)) m
  · intro x hx y hy e
    obtain ⟨p, hp, rfl⟩ := List.mem_map.mp hx
    obtain ⟨q', hq', rfl⟩ := List.mem_map.mp hy
    obtain ⟨q, hq, rfl⟩ := List.mem_map.mp hq'
    have := (h.ns p hp).pz; have := (g.ns q hq).p0
    omega
theorem Paired.nilr {α β : Type} {F : α → β → Prop} {xs : List α} {ys : List β} (h : Paired F xs ys) : Paired F (xs ++ []) ys := (List.append_nil xs).symm ▸ h
def sp_B_add (Z : Zs) : Sp := fun vs H Q E => ∃ (a c : Addr) (t u : Str) (b d : Lore), vs = [.ref a, .ref c] ∧ BookAt Z.cC Z.cB H a t b ∧ BookAt Z.cC Z.cB H c u d ∧ b.Ok ∧ d.Ok ∧
  ((10 ^ 30 < b.z + d.z ∧ Out E (Z.c 3) (.int (b.z + d.z)) H) ∨ (b.z + d.z ≤ 10 ^ 30 ∧ BookOr Z E H (b.add d) Q))
section
variable {P : Program} {w : World} {K : PySem.W.Frag} {mg : Str → Option Value} {base : Heap} {Z : Zs}
theorem ok_B_add (T : Txt K mg Z) : FnOk P w K mg base (L2.CX P w) 14 Z.f_B_add Z.d_B_add ["self", "other"] (sp_B_add Z) := by
  refine T.F_B_add.okX sc_B_add (fun vs H Q E h => ?_) (fun cdv A outer s H vs Q E hr h => ?_)
  · obtain ⟨a, c, t, u, b, d, rfl, _⟩ := h
    rfl
  · obtain ⟨a, c, t, u, b, d, rfl, ⟨dx, ta, na, tr, nr, ba⟩, ⟨dy, tc, nc, tr', nr', bc⟩, okb, okd, h⟩ := h
    have sl : sizeLine = 16777216 := sizeLine_eq
    have X0 := T.ex 3 (by decide)
    refine ⟨_, (pss_cons (ps_if (pt_not (pt_val (pe_callB  call_isi (by rfl) T.b_isinstance (by decide +kernel) (pa_cons (pv 1) (pa_cons (pe_glob (v := .ref Z.cB) rfl T.g_Bk rfl) pa_nil))))) (pss_one ps_never) pss_nil)
      (pss_cons (ps_set (i := 2) sc_B_add.nd rfl (Or.inl rfl) (pe_op op_add (pe_fld (pv 0) rfl) (pe_fld (pv 1) rfl)))
      (pss_cons (ps_if (pt_cmpR op_gt (pv 2) (pe_glob (v := .int 1000000000000000000000000000000) rfl T.c_GREATEST ⟨_, rfl⟩) (nomark _)) (pss_one (ps_raise rfl (takes_of rfl rfl rfl rfl) (pmk_oex (T.ex 3 (by decide)).ox (T.ex 3 (by decide)).ini T.t_E_init (ok_E_init T) (hr.mono (by decide)) T.bn_E_init .nil pass0 rfl T.g_BadSize (pa_cons (pv 2) pa_nil)))) pss_nil)
      (pss_cons (ps_setLc (i := 3) (own := [("tie", 5)]) rfl sc_B_add.nd rfl rfl (sw_true rfl rfl rfl (by decide +kernel)) (pi_tup (pe_fld (pv 1) rfl)) (blkOk_by (own := [("tie", 5)]) (N := ["self", "other", "size", "ties", "notes", "tie", "place", "note"]) (sc := defScope s_B_add) (by decide +kernel)) (fun _ _ _ _ _ => (pg_name (i := 5) sc_B_add.nd rfl (Or.inl rfl))) (fun _ _ _ _ _ => pts_nil) (fun _ _ _ _ _ => (pe_call (ok_moved T) (hr.mono (by decide)) rfl T.g_moved T.k_moved T.bn_moved .nil pass0 (pa_cons (pv 5) (pa_cons (show PE _ _ (tFld K (tVar 0) "size") from pe_fld (pv 0) rfl) pa_nil)))))
      (pss_cons (ps_setLc (i := 4) (own := [("place", 6), ("note", 7)]) rfl sc_B_add.nd rfl rfl (sw_true rfl rfl rfl (by decide +kernel)) (pi_tup (pe_fld (pv 1) rfl)) (blkOk_by (own := [("place", 6), ("note", 7)]) (N := ["self", "other", "size", "ties", "notes", "tie", "place", "note"]) (sc := defScope s_B_add) (by decide +kernel)) (fun _ _ _ _ _ => (show PG _ _ (gTup K 2 _) from (pg_tup rfl (pgs_cons (pg_name (i := 6) sc_B_add.nd rfl (Or.inl rfl)) (pgs_cons (pg_name (i := 7) sc_B_add.nd rfl (Or.inl rfl)) pgs_nil))))) (fun _ _ _ _ _ => pts_nil) (fun _ _ _ _ _ => (pe_tup (pa_cons (pe_op op_add (show PE _ _ (tFld K (tVar 0) "size") from pe_fld (pv 0) rfl) (pv 6)) (pa_cons (pv 7) pa_nil)))))
      (pss_one (ps_ret (pe_call (ok_book_of T) (hr.mono (by decide)) rfl T.g_book_of T.k_book_of T.bn_book_of .nil (passes_call (takes_of rfl rfl rfl rfl) (fun _ _ _ _ h => h)) (pa_cons (pv 2) (pa_cons (pe_lst (StX.pa_star (pe_fld (pv 0) rfl) (StX.pa_star (pv 3) pa_nil))) (pa_cons (pe_lst (StX.pa_star (pe_fld (pv 0) rfl) (StX.pa_star (pv 4) pa_nil))) pa_nil))))))))))), ?_⟩
    refine ⟨_, rfl, _, _, _, _, true, rfl, .own Z.cB, .base (.ins bc.ins T.clB T.z_clsB T.z_get T.z_tk T.z_mroB), T.z_kitB, true, rfl, iteF ?_⟩
    refine ⟨_, rfl, a, _, dx, _, _, rfl, ba.ins, T.clB, T.nB_size, bfs_size _ _ _ _, _, rfl, c, _, dy, _, _, rfl, bc.ins, T.clB, T.nB_size, bfs_size _ _ _ _, _, _, rfl, rfl, ?_⟩
    have e30 : (10 : Int) ^ 30 = 1000000000000000000000000000000 := by decide +kernel
    refine ⟨_, rfl, _, _, rfl, rfl, _, rfl, ?_⟩
    rcases h with ⟨z, o⟩ | ⟨z, h⟩
    · rw [decide_eq_true (by omega)]
      exact iteT ⟨_, rfl, mkR X0 o⟩
    rw [decide_eq_false (by omega)]
    refine iteF ?_
    have b0 := okb.fine.z0
    have fb := okb.fine; have fd := okd.fine
    -- the ties, moved
    refine ⟨_, rfl, c, _, dy, _, _, rfl, bc.ins, T.clB, T.nB_ties, bfs_ties _ _ _ _, tc, rfl, ⟨_, SqT.of bc.ties⟩, fun D hD => ?_⟩
    refine lc_tup (xs := tr') (fun i H' => ∃ l, H' D = some (.lst l) ∧ Ties Z.cC H' l ((d.ts.take i).map (Row.far · b.z)) ∧ Same H H') ⟨[], upd_same, .nil, Same.new (Same.refl H) hD⟩ (fun i H' _ ⟨_, _, _, s⟩ => SqT.of (s _ _ bc.ties)) ?_ ?_
    · rintro i x H1 hi ⟨l, hDi, hl, s1⟩
      refine ⟨rfl, ?_⟩
      unfold tYes
      refine iteT ?_
      obtain ⟨r, hr', y, rfl, hy⟩ := Paired.at bc.ts hi
      have inr := fd.ts r (List.mem_of_getElem? hr')
      have ll := Paired.len hl
      rw [List.length_map, List.length_take] at ll
      have il : i < d.ts.length := (List.getElem?_eq_some_iff.mp hr').1
      have tn := okd.tn
      refine ⟨_, rfl, _, rfl, a, _, dx, _, _, rfl, s1 _ _ ba.ins, T.clB, T.nB_size, bfs_size _ _ _ _, y, r, b.z, rfl, Same.tie s1 hy, inr.ok, (inr.far (by omega) z).ok, fun x2 H2 nx s2 hx => ?_⟩
      have hD2 := s2 _ _ hDi
      refine ⟨_, hD2, by omega, l ++ [.ref x2], upd_same, ?_, same_put (s1.trans s2) hD⟩
      rw [takeN (f := (Row.far · b.z)) hr']
      exact Paired.snoc ⟨x2, rfl, hx.put hD2⟩ ((hl.same s2).put hD2)
    rintro H2 ⟨l, hD2, hl, s2⟩
    rw [List.take_of_length_le (by have := Paired.len bc.ts; omega)] at hl
    have ll := Paired.len hl
    rw [List.length_map] at ll
    have nc2 := bc.notes.same s2
    -- the notes, moved
    refine ⟨_, rfl, c, _, dy, _, _, rfl, s2 _ _ bc.ins, T.clB, T.nB_notes, bfs_notes _ _ _ _, nc, rfl, ⟨_, nc2.sq⟩, fun G hG => ?_⟩
    refine lc_tup (xs := nr') (fun i H' => ∃ l, H' G = some (.lst l) ∧ Notes H' l ((d.ns.take i).map fun p => (b.z + p.1, p.2)) ∧ Same H2 H') ⟨[], upd_same, .nil, Same.new (Same.refl H2) hG⟩ (fun i H' _ ⟨_, _, _, s⟩ => (nc2.same s).sq) ?_ ?_
    · rintro i x H3 hi ⟨m, hGi, hm, s3⟩
      obtain ⟨p, hp, y, rfl, hy⟩ := Paired.at bc.ns hi
      have mm := Paired.len hm
      rw [List.length_map, List.length_take] at mm
      have il : i < d.ns.length := (List.getElem?_eq_some_iff.mp hp).1
      have nn := okd.nn
      refine ⟨y, _, rfl, SqT.of (s3 _ _ (s2 _ _ hy)), rfl, _, _, rfl, _, _, rfl, rfl, rfl, ?_⟩
      unfold tYes
      refine iteT ?_
      refine ⟨_, rfl, a, _, dx, _, _, rfl, s3 _ _ (s2 _ _ ba.ins), T.clB, T.nB_size, bfs_size _ _ _ _, _, rfl, _, _, rfl, rfl, _, rfl, by show 2 ≤ sizeLine; decide, fun x2 hx2 => ?_⟩
      have s4 := Same.new (o := .tup [.int (b.z + p.1), .int p.2]) (Same.refl H3) hx2
      have hG4 := s4 _ _ hGi
      refine ⟨_, hG4, by omega, m ++ [.ref x2], upd_same, ?_, same_put (s3.trans s4) hG⟩
      rw [takeN (f := fun p : Int × Int => (b.z + p.1, p.2)) hp]
      exact Paired.snoc ⟨x2, rfl, (upd_ne (ne_of upd_same hG4 fun z => nomatch z)).trans upd_same⟩ ((hm.same s4).put hG4)
    rintro H4 ⟨m, hG4, hm, s4⟩
    rw [List.take_of_length_le (by have := Paired.len bc.ns; omega)] at hm
    have mm := Paired.len hm
    rw [List.length_map] at mm
    have s24 := s2.trans s4
    have lt := Paired.len ba.ts; have ln := Paired.len ba.ns
    have tb := okb.tn; have td := okd.tn; have nb := okb.nn; have nd' := okd.nn
    refine ⟨_, rfl, _, rfl, a, _, dx, _, _, rfl, s24 _ _ ba.ins, T.clB, T.nB_ties, bfs_ties _ _ _ _, ta, _, rfl, .inl (SqT.of (s24 _ _ ba.ties)), _, rfl, D, _, rfl, .inr (SqL.of (s4 _ _ hD2)), ?_, fun t1 ht1 => ?_⟩
    · rw [List.append_nil, List.length_append]
      omega
    have s5 := Same.new (o := .lst (tr ++ (l ++ []))) (Same.refl H4) ht1
    have s25 := s24.trans s5
    refine ⟨_, rfl, a, _, dx, _, _, rfl, s25 _ _ ba.ins, T.clB, T.nB_notes, bfs_notes _ _ _ _, na, _, rfl, .inl ((ba.notes.same s25).sq), _, rfl, G, _, rfl, .inr (SqL.of (s5 _ _ hG4)), ?_, fun n1 hn1 => ?_⟩
    · rw [List.append_nil, List.length_append]
      omega
    have s6 := Same.new (o := .lst (nr ++ (m ++ []))) (Same.refl _) hn1
    have s26 := s25.trans s6
    refine ⟨t1, n1, _, _, b.add d, rfl, .inl ⟨s6 _ _ upd_same, upd_same⟩, ?_, ?_, fb.add fd z, Lore.nd_add fb fd okb.nd okd.nd, h.mono s26⟩
    · exact Paired.app (Paired.nilr (((hl.same s4).same s5).same s6)) (ba.ts.same s26)
    · exact Paired.app (Paired.nilr ((hm.same s5).same s6)) (ba.ns.same s26)
end
end TT

set_option maxHeartbeats 4000000
namespace TT
open PySem PySem.Spec PyProof.Rows L2 LamX TL
/-! ### books turned about, upside down -/
def Row.turn (r : Row) (z : Int) : Row := { r with f := z - r.f - r.l, s := z - r.s - r.l }
def Row.up (r : Row) : Row := { r with a := -r.a }
theorem Row.In.turn {r : Row} {z : Int} (h : r.In z) (hz : z ≤ 10 ^ 30) : (r.turn z).In z := by
  have h1 := h.fz; have h2 := h.sz; have o := h.ok
  have f0 := o.f0; have s0 := o.s0; have l0 := o.l0
  exact ⟨⟨by show 0 ≤ z - r.f - r.l; omega, by show 0 ≤ z - r.s - r.l; omega, l0, by show z - r.f - r.l + r.l ≤ 10 ^ 30; omega, by show z - r.s - r.l + r.l ≤ 10 ^ 30; omega, o.al, o.ah, o.bk⟩,
    by show z - r.f - r.l + r.l ≤ z; omega, by show z - r.s - r.l + r.l ≤ z; omega⟩
theorem Row.In.up {r : Row} {z : Int} (h : r.In z) : r.up.In z := by
  have o := h.ok
  have al := o.al; have ah := o.ah
  exact ⟨⟨o.f0, o.s0, o.l0, o.fe, o.se, by show -(10 ^ 60) < -r.a; omega, by show -r.a < 10 ^ 60; omega, o.bk⟩, h.fz, h.sz⟩
def Lore.turn (b : Lore) : Lore := ⟨b.z, b.ts.map (Row.turn · b.z), b.ns.map fun q => (b.z - 1 - q.1, q.2)⟩
def Lore.up (b : Lore) : Lore := ⟨b.z, b.ts.map Row.up, b.ns.map fun q => (q.1, -q.2)⟩
theorem Lore.Fine.turn {b : Lore} (h : b.Fine) : b.turn.Fine := by
  refine ⟨h.z0, h.z1, fun r hr => ?_, fun q hq => ?_⟩
  · obtain ⟨r', h1, rfl⟩ := List.mem_map.mp hr
    exact (h.ts r' h1).turn h.z1
  · obtain ⟨q', h1, rfl⟩ := List.mem_map.mp hq
    have n := h.ns q' h1
    have := n.p0; have := n.pz
    exact ⟨by show 0 ≤ b.z - 1 - q'.1; omega, by show b.z - 1 - q'.1 < b.z; omega, n.lo, n.hi⟩
theorem Lore.Fine.up {b : Lore} (h : b.Fine) : b.up.Fine := by
  refine ⟨h.z0, h.z1, fun r hr => ?_, fun q hq => ?_⟩
  · obtain ⟨r', h1, rfl⟩ := List.mem_map.mp hr
    exact (h.ts r' h1).up
  · obtain ⟨q', h1, rfl⟩ := List.mem_map.mp hq
    have n := h.ns q' h1
    have lo := n.lo; have hi := n.hi
    exact ⟨n.p0, n.pz, by show -(10 ^ 60) < -q'.2; omega, by show -q'.2 < 10 ^ 60; omega⟩
theorem nodup_inj {l : List Int} {f : Int → Int} (h : l.Nodup) (i : ∀ x y, f x = f y → x = y) : (l.map f).Nodup := by
  unfold List.Nodup at h ⊢
  rw [List.pairwise_map]
  exact List.Pairwise.imp (fun n e => n (i _ _ e)) h
theorem Lore.nd_turn {b : Lore} (h : (b.ns.map (·.1)).Nodup) : (b.turn.ns.map (·.1)).Nodup := by
  have e : b.turn.ns.map (·.1) = (b.ns.map (·.1)).map (fun x => b.z - 1 - x) := by
    show (b.ns.map fun q => (b.z - 1 - q.1, q.2)).map (·.1) = _
    rw [List.map_map, List.map_map]
    rfl
  rw [e]
  exact nodup_inj h fun x y e => by omega
theorem Lore.nd_up {b : Lore} (h : (b.ns.map (·.1)).Nodup) : (b.up.ns.map (·.1)).Nodup := by
  have e : b.up.ns.map (·.1) = b.ns.map (·.1) := by
    show (b.ns.map fun q => (q.1, -q.2)).map (·.1) = _
    rw [List.map_map]
    rfl
  rw [e]
  exact h
theorem Lore.Ok.turn {b : Lore} (h : b.Ok) : b.turn.Ok := ⟨h.fine.turn, by show (b.ts.map _).length ≤ 12; rw [List.length_map]; exact h.tn, by show (b.ns.map _).length ≤ 12; rw [List.length_map]; exact h.nn, Lore.nd_turn h.nd⟩
theorem Lore.Ok.up {b : Lore} (h : b.Ok) : b.up.Ok := ⟨h.fine.up, by show (b.ts.map _).length ≤ 12; rw [List.length_map]; exact h.tn, by show (b.ns.map _).length ≤ 12; rw [List.length_map]; exact h.nn, Lore.nd_up h.nd⟩
theorem map_self {α : Type} {f : α → α} {l : List α} (h : ∀ x, f x = x) : l.map f = l := by
  induction l with
  | nil => rfl
  | cons a t ih => rw [List.map_cons, h, ih]
theorem Lore.turn_turn (b : Lore) : b.turn.turn = b := by
  obtain ⟨z, ts, ns⟩ := b
  unfold Lore.turn
  dsimp only
  rw [List.map_map, List.map_map, map_self, map_self]
  · rintro ⟨p, n⟩
    show (z - 1 - (z - 1 - p), n) = (p, n)
    congr 1
    omega
  · rintro ⟨f, s, l, a, d, b⟩
    show (⟨z - (z - f - l) - l, z - (z - s - l) - l, l, a, d, b⟩ : Row) = _
    congr 1 <;> omega
theorem Lore.up_up (b : Lore) : b.up.up = b := by
  obtain ⟨z, ts, ns⟩ := b
  unfold Lore.up
  dsimp only
  rw [List.map_map, List.map_map, map_self, map_self]
  · rintro ⟨p, n⟩
    show (p, - -n) = (p, n)
    rw [Int.neg_neg]
  · rintro ⟨f, s, l, a, d, b⟩
    show (⟨f, s, l, - -a, d, b⟩ : Row) = _
    rw [Int.neg_neg]
theorem Lore.up_turn (b : Lore) : b.up.turn = b.turn.up := by
  obtain ⟨z, ts, ns⟩ := b
  unfold Lore.up Lore.turn
  dsimp only
  rw [List.map_map, List.map_map, List.map_map, List.map_map]
  rfl
def sp_turned (C : Addr) : Sp := fun vs H Q _ => ∃ (q : Addr) (r : Row) (z : Int), vs = [.ref q, .int z] ∧ TieAt C H q r ∧ r.In z ∧ z ≤ 10 ^ 30 ∧ ∀ x H', H x = none → Same H H' → TieAt C H' x (r.turn z) → Q (.ref x) H'
def sp_upside_down (C : Addr) : Sp := fun vs H Q _ => ∃ (q : Addr) (r : Row) (z : Int), vs = [.ref q] ∧ TieAt C H q r ∧ r.In z ∧ ∀ x H', H x = none → Same H H' → TieAt C H' x r.up → Q (.ref x) H'
def sp_B_invert (Z : Zs) : Sp := fun vs H Q _ => ∃ (a : Addr) (t : Str) (b : Lore), vs = [.ref a] ∧ BookAt Z.cC Z.cB H a t b ∧ b.Ok ∧ ∀ x H', H x = none → Same H H' → BookAt Z.cC Z.cB H' x b.turn.text b.turn → Q (.ref x) H'
def sp_B_neg (Z : Zs) : Sp := fun vs H Q _ => ∃ (a : Addr) (t : Str) (b : Lore), vs = [.ref a] ∧ BookAt Z.cC Z.cB H a t b ∧ b.Ok ∧ ∀ x H', H x = none → Same H H' → BookAt Z.cC Z.cB H' x b.up.text b.up → Q (.ref x) H'
theorem bk_same {r : Row} (ok : r.Ok) : r.b = (r.b && decide (1 < r.l)) := by
  cases hb : r.b with
  | true => rw [decide_eq_true (ok.bk hb)] <;> rfl
  | false => rfl
section
variable {P : Program} {w : World} {K : PySem.W.Frag} {mg : Str → Option Value} {base : Heap} {Z : Zs}
theorem ok_turned (T : Txt K mg Z) : FnOk P w K mg base CX0 6 Z.f_turned Z.d_turned ["tie", "size"] (sp_turned Z.cC) := by
  refine T.F_turned.ok sc_turned (fun vs H Q E h => ?_) (fun cdv A outer s H vs Q E hr h => ?_)
  · obtain ⟨q, r, y, rfl, _⟩ := h
    rfl
  · obtain ⟨q, r, z, rfl, ⟨dx0, hq⟩, inz, hz, k⟩ := h
    obtain ⟨its, mv, kb⟩ := kb_tie T
    have ok := inz.ok
    refine ⟨_, (pss_cons (ps_set (i := 2) sc_turned.nd rfl (Or.inl rfl) (pe_op op_sub (pe_op op_sub (pv 1) (pe_fld (pv 0) rfl)) (pe_fld (pv 0) rfl)))
      (pss_cons (ps_set (i := 3) sc_turned.nd rfl (Or.inl rfl) (pe_op op_sub (pe_op op_sub (pv 1) (pe_fld (pv 0) rfl)) (pe_fld (pv 0) rfl)))
      (pss_one (ps_ret (pe_makeK (mkT T) (ok_T_init T) (hr.mono (by decide)) rfl T.g_C kb pass0 (pa_cons (pv 2) (pa_cons (pv 3) (pa_cons (pe_fld (pv 0) rfl) (pa_cons (pe_fld (pv 0) rfl) pa_nil)))) (pk_cons (pe_fld (pv 0) rfl) (pk_cons (pe_fld (pv 0) rfl) pk_nil))))))), ?_⟩
    refine ⟨_, rfl, _, rfl, q, _, dx0, _, _, rfl, hq, T.cl, T.n_first, tfs_first r, _, _, rfl, rfl, _, rfl, q, _, dx0, _, _, rfl, hq, T.cl, T.n_length, tfs_length r, _, _, rfl, rfl, ?_⟩
    refine ⟨_, rfl, _, rfl, q, _, dx0, _, _, rfl, hq, T.cl, T.n_second, tfs_second r, _, _, rfl, rfl, _, rfl, q, _, dx0, _, _, rfl, hq, T.cl, T.n_length, tfs_length r, _, _, rfl, rfl, ?_⟩
    refine ⟨_, rfl, _, rfl, _, rfl, q, _, dx0, _, _, rfl, hq, T.cl, T.n_length, tfs_length r, _, rfl, q, _, dx0, _, _, rfl, hq, T.cl, T.n_amount, tfs_amount r, ?_⟩
    refine ⟨_, rfl, q, _, dx0, _, _, rfl, hq, T.cl, T.n_down, tfs_down r, _, rfl, q, _, dx0, _, _, rfl, hq, T.cl, T.n_backward, tfs_backward r, rfl, rfl, fun x dx nx nd ne => ?_⟩
    exact ⟨x, dx, r.turn z, r.b, rfl, (inz.turn hz).ok, (show r.b = (r.b && decide (1 < r.l)) from bk_same ok), upd_same, fun H' hx kp => ⟨rfl, k x H' nx (made nx nd kp) ⟨dx, hx⟩⟩⟩
theorem ok_upside_down (T : Txt K mg Z) : FnOk P w K mg base CX0 6 Z.f_upside_down Z.d_upside_down ["tie"] (sp_upside_down Z.cC) := by
  refine T.F_upside_down.ok sc_upside_down (fun vs H Q E h => ?_) (fun cdv A outer s H vs Q E hr h => ?_)
  · obtain ⟨q, r, y, rfl, _⟩ := h
    rfl
  · obtain ⟨q, r, z, rfl, ⟨dx0, hq⟩, inz, k⟩ := h
    obtain ⟨its, mv, kb⟩ := kb_tie T
    refine ⟨_, (pss_one (ps_ret (pe_makeK (mkT T) (ok_T_init T) (hr.mono (by decide)) rfl T.g_C kb pass0 (pa_cons (pe_fld (pv 0) rfl) (pa_cons (pe_fld (pv 0) rfl) (pa_cons (pe_fld (pv 0) rfl) (pa_cons (pe_un un_neg (pe_fld (pv 0) rfl)) pa_nil)))) (pk_cons (pe_fld (pv 0) rfl) (pk_cons (pe_fld (pv 0) rfl) pk_nil))))), ?_⟩
    refine ⟨_, rfl, q, _, dx0, _, _, rfl, hq, T.cl, T.n_first, tfs_first r, _, rfl, q, _, dx0, _, _, rfl, hq, T.cl, T.n_second, tfs_second r, _, rfl, q, _, dx0, _, _, rfl, hq, T.cl, T.n_length, tfs_length r, _, rfl, q, _, dx0, _, _, rfl, hq, T.cl, T.n_amount, tfs_amount r, _, rfl, ?_⟩
    refine ⟨_, rfl, q, _, dx0, _, _, rfl, hq, T.cl, T.n_down, tfs_down r, _, rfl, q, _, dx0, _, _, rfl, hq, T.cl, T.n_backward, tfs_backward r, rfl, rfl, fun x dx nx nd ne => ?_⟩
    exact ⟨x, dx, r.up, r.b, rfl, inz.up.ok, (show r.b = (r.b && decide (1 < r.l)) from bk_same inz.ok), upd_same, fun H' hx kp => ⟨rfl, k x H' nx (made nx nd kp) ⟨dx, hx⟩⟩⟩
theorem ok_B_invert (T : Txt K mg Z) : FnOk P w K mg base CX0 14 Z.f_B_invert Z.d_B_invert ["self"] (sp_B_invert Z) := by
  refine T.F_B_invert.ok sc_B_invert (fun vs H Q E h => ?_) (fun cdv A outer s H vs Q E hr h => ?_)
  · obtain ⟨a, t, b, rfl, _⟩ := h
    rfl
  · obtain ⟨a, t, b, rfl, ⟨dx, ta, na, tr, nr, ba⟩, ok, k⟩ := h
    have sl : sizeLine = 16777216 := sizeLine_eq
    have fb := ok.fine
    have tn := ok.tn; have nn := ok.nn
    have lt := Paired.len ba.ts; have ln := Paired.len ba.ns
    refine ⟨_, (pss_cons (ps_setLc (i := 1) (own := [("tie", 3)]) rfl sc_B_invert.nd rfl rfl (sw_true rfl rfl rfl (by decide +kernel)) (pi_tup (pe_fld (pv 0) rfl)) (blkOk_by (own := [("tie", 3)]) (N := ["self", "ties", "notes", "tie", "place", "note"]) (sc := defScope s_B_invert) (by decide +kernel)) (fun _ _ _ _ _ => (pg_name (i := 3) sc_B_invert.nd rfl (Or.inl rfl))) (fun _ _ _ _ _ => pts_nil) (fun _ _ _ _ _ => (pe_call (ok_turned T) (hr.mono (by decide)) rfl T.g_turned T.k_turned T.bn_turned .nil pass0 (pa_cons (pv 3) (pa_cons (show PE _ _ (tFld K (tVar 0) "size") from pe_fld (pv 0) rfl) pa_nil)))))
      (pss_cons (ps_setLc (i := 2) (own := [("place", 4), ("note", 5)]) rfl sc_B_invert.nd rfl rfl (sw_true rfl rfl rfl (by decide +kernel)) (pi_tup (pe_fld (pv 0) rfl)) (blkOk_by (own := [("place", 4), ("note", 5)]) (N := ["self", "ties", "notes", "tie", "place", "note"]) (sc := defScope s_B_invert) (by decide +kernel)) (fun _ _ _ _ _ => (show PG _ _ (gTup K 2 _) from (pg_tup rfl (pgs_cons (pg_name (i := 4) sc_B_invert.nd rfl (Or.inl rfl)) (pgs_cons (pg_name (i := 5) sc_B_invert.nd rfl (Or.inl rfl)) pgs_nil))))) (fun _ _ _ _ _ => pts_nil) (fun _ _ _ _ _ => (pe_tup (pa_cons (pe_op op_sub (pe_op op_sub (show PE _ _ (tFld K (tVar 0) "size") from pe_fld (pv 0) rfl) pe_int) (pv 4)) (pa_cons (pv 5) pa_nil)))))
      (pss_one (ps_ret (pe_call (ok_book_of T) (hr.mono (by decide)) rfl T.g_book_of T.k_book_of T.bn_book_of .nil passF (pa_cons (pe_fld (pv 0) rfl) (pa_cons (pv 1) (pa_cons (pv 2) pa_nil)))))))), ?_⟩
    refine ⟨_, rfl, a, _, dx, _, _, rfl, ba.ins, T.clB, T.nB_ties, bfs_ties _ _ _ _, ta, rfl, ⟨_, SqT.of ba.ties⟩, fun D hD => ?_⟩
    refine lc_tup (xs := tr) (fun i H' => ∃ l, H' D = some (.lst l) ∧ Ties Z.cC H' l ((b.ts.take i).map (Row.turn · b.z)) ∧ Same H H') ⟨[], upd_same, .nil, Same.new (Same.refl H) hD⟩ (fun i H' _ ⟨_, _, _, s⟩ => SqT.of (s _ _ ba.ties)) ?_ ?_
    · rintro i x H1 hi ⟨l, hDi, hl, s1⟩
      refine ⟨rfl, ?_⟩
      unfold tYes
      refine iteT ?_
      obtain ⟨r, hr', y, rfl, hy⟩ := Paired.at ba.ts hi
      have ll := Paired.len hl
      rw [List.length_map, List.length_take] at ll
      have il : i < b.ts.length := (List.getElem?_eq_some_iff.mp hr').1
      refine ⟨_, rfl, _, rfl, a, _, dx, _, _, rfl, s1 _ _ ba.ins, T.clB, T.nB_size, bfs_size _ _ _ _, y, r, b.z, rfl, Same.tie s1 hy, fb.ts r (List.mem_of_getElem? hr'), fb.z1, fun x2 H2 nx s2 hx => ?_⟩
      have hD2 := s2 _ _ hDi
      refine ⟨_, hD2, by omega, l ++ [.ref x2], upd_same, ?_, same_put (s1.trans s2) hD⟩
      rw [takeN (f := (Row.turn · b.z)) hr']
      exact Paired.snoc ⟨x2, rfl, hx.put hD2⟩ ((hl.same s2).put hD2)
    rintro H2 ⟨l, hD2, hl, s2⟩
    rw [List.take_of_length_le (by omega)] at hl
    have nc2 := ba.notes.same s2
    refine ⟨_, rfl, a, _, dx, _, _, rfl, s2 _ _ ba.ins, T.clB, T.nB_notes, bfs_notes _ _ _ _, na, rfl, ⟨_, nc2.sq⟩, fun G hG => ?_⟩
    refine lc_tup (xs := nr) (fun i H' => ∃ l, H' G = some (.lst l) ∧ Notes H' l ((b.ns.take i).map fun q => (b.z - 1 - q.1, q.2)) ∧ Same H2 H') ⟨[], upd_same, .nil, Same.new (Same.refl H2) hG⟩ (fun i H' _ ⟨_, _, _, s⟩ => (nc2.same s).sq) ?_ ?_
    · rintro i x H3 hi ⟨m, hGi, hm, s3⟩
      obtain ⟨p, hp, y, rfl, hy⟩ := Paired.at ba.ns hi
      have mm := Paired.len hm
      rw [List.length_map, List.length_take] at mm
      have il : i < b.ns.length := (List.getElem?_eq_some_iff.mp hp).1
      refine ⟨y, _, rfl, SqT.of (s3 _ _ (s2 _ _ hy)), rfl, _, _, rfl, _, _, rfl, rfl, rfl, ?_⟩
      unfold tYes
      refine iteT ?_
      refine ⟨_, rfl, a, _, dx, _, _, rfl, s3 _ _ (s2 _ _ ba.ins), T.clB, T.nB_size, bfs_size _ _ _ _, _, _, rfl, rfl, _, rfl, _, _, rfl, rfl, _, rfl, by show 2 ≤ sizeLine; decide, fun x2 hx2 => ?_⟩
      have s4 := Same.new (o := .tup [.int (b.z - 1 - p.1), .int p.2]) (Same.refl H3) hx2
      have hG4 := s4 _ _ hGi
      refine ⟨_, hG4, by omega, m ++ [.ref x2], upd_same, ?_, same_put (s3.trans s4) hG⟩
      rw [takeN (f := fun q : Int × Int => (b.z - 1 - q.1, q.2)) hp]
      exact Paired.snoc ⟨x2, rfl, (upd_ne (ne_of upd_same hG4 fun z => nomatch z)).trans upd_same⟩ ((hm.same s4).put hG4)
    rintro H4 ⟨m, hG4, hm, s4⟩
    rw [List.take_of_length_le (by omega)] at hm
    have s24 := s2.trans s4
    refine ⟨_, rfl, a, _, dx, _, _, rfl, s24 _ _ ba.ins, T.clB, T.nB_size, bfs_size _ _ _ _, _, rfl, _, rfl, D, G, l, m, b.turn, rfl, .inl ⟨s4 _ _ hD2, hG4⟩, hl.same s4, hm, fb.turn, Lore.nd_turn ok.nd, ?_⟩
    exact .inl ⟨ok.turn.tn, ok.turn.nn, fun x H' nx s' hx => k x H' (L2.Same.free s24 nx) (s24.trans s') hx⟩
theorem ok_B_neg (T : Txt K mg Z) : FnOk P w K mg base CX0 14 Z.f_B_neg Z.d_B_neg ["self"] (sp_B_neg Z) := by
  refine T.F_B_neg.ok sc_B_neg (fun vs H Q E h => ?_) (fun cdv A outer s H vs Q E hr h => ?_)
  · obtain ⟨a, t, b, rfl, _⟩ := h
    rfl
  · obtain ⟨a, t, b, rfl, ⟨dx, ta, na, tr, nr, ba⟩, ok, k⟩ := h
    have sl : sizeLine = 16777216 := sizeLine_eq
    have fb := ok.fine
    have tn := ok.tn; have nn := ok.nn
    have lt := Paired.len ba.ts; have ln := Paired.len ba.ns
    refine ⟨_, (pss_cons (ps_setLc (i := 1) (own := [("tie", 3)]) rfl sc_B_neg.nd rfl rfl (sw_true rfl rfl rfl (by decide +kernel)) (pi_tup (pe_fld (pv 0) rfl)) (blkOk_by (own := [("tie", 3)]) (N := ["self", "ties", "notes", "tie", "place", "note"]) (sc := defScope s_B_neg) (by decide +kernel)) (fun _ _ _ _ _ => (pg_name (i := 3) sc_B_neg.nd rfl (Or.inl rfl))) (fun _ _ _ _ _ => pts_nil) (fun _ _ _ _ _ => (pe_call (ok_upside_down T) (hr.mono (by decide)) rfl T.g_upside_down T.k_upside_down T.bn_upside_down .nil pass0 (pa_cons (pv 3) pa_nil))))
      (pss_cons (ps_setLc (i := 2) (own := [("place", 4), ("note", 5)]) rfl sc_B_neg.nd rfl rfl (sw_true rfl rfl rfl (by decide +kernel)) (pi_tup (pe_fld (pv 0) rfl)) (blkOk_by (own := [("place", 4), ("note", 5)]) (N := ["self", "ties", "notes", "tie", "place", "note"]) (sc := defScope s_B_neg) (by decide +kernel)) (fun _ _ _ _ _ => (show PG _ _ (gTup K 2 _) from (pg_tup rfl (pgs_cons (pg_name (i := 4) sc_B_neg.nd rfl (Or.inl rfl)) (pgs_cons (pg_name (i := 5) sc_B_neg.nd rfl (Or.inl rfl)) pgs_nil))))) (fun _ _ _ _ _ => pts_nil) (fun _ _ _ _ _ => (pe_tup (pa_cons (pv 4) (pa_cons (pe_un un_neg (pv 5)) pa_nil)))))
      (pss_one (ps_ret (pe_call (ok_book_of T) (hr.mono (by decide)) rfl T.g_book_of T.k_book_of T.bn_book_of .nil passF (pa_cons (pe_fld (pv 0) rfl) (pa_cons (pv 1) (pa_cons (pv 2) pa_nil)))))))), ?_⟩
    refine ⟨_, rfl, a, _, dx, _, _, rfl, ba.ins, T.clB, T.nB_ties, bfs_ties _ _ _ _, ta, rfl, ⟨_, SqT.of ba.ties⟩, fun D hD => ?_⟩
    refine lc_tup (xs := tr) (fun i H' => ∃ l, H' D = some (.lst l) ∧ Ties Z.cC H' l ((b.ts.take i).map Row.up) ∧ Same H H') ⟨[], upd_same, .nil, Same.new (Same.refl H) hD⟩ (fun i H' _ ⟨_, _, _, s⟩ => SqT.of (s _ _ ba.ties)) ?_ ?_
    · rintro i x H1 hi ⟨l, hDi, hl, s1⟩
      refine ⟨rfl, ?_⟩
      unfold tYes
      refine iteT ?_
      obtain ⟨r, hr', y, rfl, hy⟩ := Paired.at ba.ts hi
      have ll := Paired.len hl
      rw [List.length_map, List.length_take] at ll
      have il : i < b.ts.length := (List.getElem?_eq_some_iff.mp hr').1
      refine ⟨_, rfl, y, r, b.z, rfl, Same.tie s1 hy, fb.ts r (List.mem_of_getElem? hr'), fun x2 H2 nx s2 hx => ?_⟩
      have hD2 := s2 _ _ hDi
      refine ⟨_, hD2, by omega, l ++ [.ref x2], upd_same, ?_, same_put (s1.trans s2) hD⟩
      rw [takeN (f := Row.up) hr']
      exact Paired.snoc ⟨x2, rfl, hx.put hD2⟩ ((hl.same s2).put hD2)
    rintro H2 ⟨l, hD2, hl, s2⟩
    rw [List.take_of_length_le (by omega)] at hl
    have nc2 := ba.notes.same s2
    refine ⟨_, rfl, a, _, dx, _, _, rfl, s2 _ _ ba.ins, T.clB, T.nB_notes, bfs_notes _ _ _ _, na, rfl, ⟨_, nc2.sq⟩, fun G hG => ?_⟩
    refine lc_tup (xs := nr) (fun i H' => ∃ l, H' G = some (.lst l) ∧ Notes H' l ((b.ns.take i).map fun q => (q.1, -q.2)) ∧ Same H2 H') ⟨[], upd_same, .nil, Same.new (Same.refl H2) hG⟩ (fun i H' _ ⟨_, _, _, s⟩ => (nc2.same s).sq) ?_ ?_
    · rintro i x H3 hi ⟨m, hGi, hm, s3⟩
      obtain ⟨p, hp, y, rfl, hy⟩ := Paired.at ba.ns hi
      have mm := Paired.len hm
      rw [List.length_map, List.length_take] at mm
      have il : i < b.ns.length := (List.getElem?_eq_some_iff.mp hp).1
      refine ⟨y, _, rfl, SqT.of (s3 _ _ (s2 _ _ hy)), rfl, _, _, rfl, _, _, rfl, rfl, rfl, ?_⟩
      unfold tYes
      refine iteT ?_
      refine ⟨_, rfl, _, rfl, _, rfl, by show 2 ≤ sizeLine; decide, fun x2 hx2 => ?_⟩
      have s4 := Same.new (o := .tup [.int p.1, .int (-p.2)]) (Same.refl H3) hx2
      have hG4 := s4 _ _ hGi
      refine ⟨_, hG4, by omega, m ++ [.ref x2], upd_same, ?_, same_put (s3.trans s4) hG⟩
      rw [takeN (f := fun q : Int × Int => (q.1, -q.2)) hp]
      exact Paired.snoc ⟨x2, rfl, (upd_ne (ne_of upd_same hG4 fun z => nomatch z)).trans upd_same⟩ ((hm.same s4).put hG4)
    rintro H4 ⟨m, hG4, hm, s4⟩
    rw [List.take_of_length_le (by omega)] at hm
    have s24 := s2.trans s4
    refine ⟨_, rfl, a, _, dx, _, _, rfl, s24 _ _ ba.ins, T.clB, T.nB_size, bfs_size _ _ _ _, _, rfl, _, rfl, D, G, l, m, b.up, rfl, .inl ⟨s4 _ _ hD2, hG4⟩, hl.same s4, hm, fb.up, Lore.nd_up ok.nd, ?_⟩
    exact .inl ⟨ok.up.tn, ok.up.nn, fun x H' nx s' hx => k x H' (L2.Same.free s24 nx) (s24.trans s') hx⟩
end
end TT

set_option maxHeartbeats 4000000
namespace TT
open PySem PySem.Spec PyProof.Rows L2 LamX TL
/-! ### ties and notes put in and taken out -/
def Lore.wt (b : Lore) (r : Row) : Lore := ⟨b.z, b.ts ++ [r], b.ns⟩
def Lore.wo (b : Lore) (j : Nat) : Lore := ⟨b.z, b.ts.eraseIdx j, b.ns⟩
def Lore.wn (b : Lore) (p m : Int) : Lore := ⟨b.z, b.ts, b.ns ++ [(p, m)]⟩
theorem Lore.Fine.wt {b : Lore} (h : b.Fine) {r : Row} (i : r.In b.z) : (b.wt r).Fine := by
  refine ⟨h.z0, h.z1, fun x hx => ?_, h.ns⟩
  rcases List.mem_append.mp hx with hx | hx
  · exact h.ts x hx
  · rw [List.mem_singleton.mp hx]
    exact i
theorem Lore.Ok.wo {b : Lore} (h : b.Ok) (j : Nat) : (b.wo j).Ok := by
  refine ⟨⟨h.fine.z0, h.fine.z1, fun x hx => h.fine.ts x (List.mem_of_mem_eraseIdx hx), h.fine.ns⟩, ?_, h.nn, h.nd⟩
  have := h.tn
  have := List.length_eraseIdx_le b.ts j
  show (b.ts.eraseIdx j).length ≤ 12
  omega
theorem Lore.Fine.wn {b : Lore} (h : b.Fine) {p m : Int} (i : NoteIn (p, m) b.z) : (b.wn p m).Fine := by
  refine ⟨h.z0, h.z1, h.ts, fun x hx => ?_⟩
  rcases List.mem_append.mp hx with hx | hx
  · exact h.ns x hx
  · rw [List.mem_singleton.mp hx]
    exact i
theorem Lore.nd_wn {b : Lore} (h : (b.ns.map (·.1)).Nodup) {p m : Int} (n : p ∉ b.ns.map (·.1)) : ((b.wn p m).ns.map (·.1)).Nodup := by
  show ((b.ns ++ [(p, m)]).map (·.1)).Nodup
  rw [List.map_append, List.nodup_append]
  refine ⟨h, by simp, fun x hx y hy e => ?_⟩
  have : y = p := by simpa using hy
  rw [e, this] at hx
  exact n hx
/-- without the j-th, as far as the i-th -/
theorem erase_take {α : Type} {l : List α} {i j : Nat} {x : α} (h : l[i]? = some x) : (l.take (i + 1)).eraseIdx j = if i = j then l.take i else (l.take i).eraseIdx j ++ [x] := by
  have il := (List.getElem?_eq_some_iff.mp h).1
  rw [take_snoc h]
  have tl : (l.take i).length = i := by rw [List.length_take]; omega
  by_cases c : i = j
  · rw [if_pos c, ← c, List.eraseIdx_append_of_length_le (by omega), tl, Nat.sub_self]
    simp
  · rw [if_neg c]
    by_cases c2 : j < i
    · rw [List.eraseIdx_append_of_lt_length (by omega)]
    · rw [List.eraseIdx_append_of_length_le (by omega), tl, List.eraseIdx_of_length_le (l := l.take i) (by omega)]
      congr 1
      exact List.eraseIdx_of_length_le (by simp; omega)
def sp_B_with_tie (K : PySem.W.Frag) (Z : Zs) : Sp := fun vs H Q E => ∃ (a : Addr) (t : Str) (b : Lore) (v : V), vs = [.ref a, v] ∧ BookAt Z.cC Z.cB H a t b ∧ b.Ok ∧
  ((∃ q r, v = .ref q ∧ TieAt Z.cC H q r ∧ r.Ok ∧ ((¬ r.In b.z ∧ Out E (Z.c 4) v H) ∨ (r.In b.z ∧ BookOr Z E H (b.wt r) Q))) ∨ (NotC K Z.cC H v ∧ Out E (Z.c 4) v H))
def sp_B_without (K : PySem.W.Frag) (Z : Zs) : Sp := fun vs H Q E => ∃ (a : Addr) (t : Str) (b : Lore) (v : V) (o : Option Int), vs = [.ref a, v] ∧ BookAt Z.cC Z.cB H a t b ∧ b.Ok ∧ IsI K H v o ∧
  ((∃ j : Nat, o = some (j : Int) ∧ j < b.ts.length ∧ ∀ x H', H x = none → Same H H' → BookAt Z.cC Z.cB H' x (b.wo j).text (b.wo j) → Q (.ref x) H') ∨ ((∀ i, o = some i → ¬ (0 ≤ i ∧ i < b.ts.length)) ∧ Out E (Z.c 5) v H))
def sp_B_with_note (K : PySem.W.Frag) (Z : Zs) : Sp := fun vs H Q E => ∃ (a : Addr) (t : Str) (b : Lore) (v u : V) (o o2 : Option Int), vs = [.ref a, v, u] ∧ BookAt Z.cC Z.cB H a t b ∧ b.Ok ∧ IsI K H v o ∧ (∀ H', Same H H' → IsI K H' u o2) ∧
  (((∀ p, o = some p → ¬ (0 ≤ p ∧ p < b.z ∧ p ∉ b.ns.map (·.1))) ∧ Out E (Z.c 6) v H) ∨
   ∃ p, o = some p ∧ 0 ≤ p ∧ p < b.z ∧ p ∉ b.ns.map (·.1) ∧ ((o2 = none ∧ Out E (Z.c 7) u H) ∨ ∃ m, o2 = some m ∧ -(10 ^ 60) < m ∧ m < 10 ^ 60 ∧ BookOr Z E H (b.wn p m) Q))
section
variable {P : Program} {w : World} {K : PySem.W.Frag} {mg : Str → Option Value} {base : Heap} {Z : Zs}
theorem ok_B_with_tie (T : Txt K mg Z) : FnOk P w K mg base (L2.CX P w) 14 Z.f_B_with_tie Z.d_B_with_tie ["self", "tie"] (sp_B_with_tie K Z) := by
  refine T.F_B_with_tie.okX sc_B_with_tie (fun vs H Q E h => ?_) (fun cdv A outer s H vs Q E hr h => ?_)
  · obtain ⟨a, t, b, v, rfl, _⟩ := h
    rfl
  · obtain ⟨a, t, b, v, rfl, ⟨dx, ta, na, tr, nr, ba⟩, okb, h⟩ := h
    have sl : sizeLine = 16777216 := sizeLine_eq
    have X0 := T.ex 4 (by decide)
    have lt := Paired.len ba.ts; have tb := okb.tn
    refine ⟨_, (pss_cons (ps_if (pt_not (pt_val (pe_call (ok_is_tie_within T) (hr.mono (by decide)) rfl T.g_is_tie_within T.k_is_tie_within T.bn_is_tie_within .nil pass0 (pa_cons (pv 1) (pa_cons (pe_fld (pv 0) rfl) pa_nil))))) (pss_one (ps_raise rfl (takes_of rfl rfl rfl rfl) (pmk_oex (T.ex 4 (by decide)).ox (T.ex 4 (by decide)).ini T.t_E_init (ok_E_init T) (hr.mono (by decide)) T.bn_E_init .nil pass0 rfl T.g_BadTie (pa_cons (pv 1) pa_nil)))) pss_nil)
      (pss_one (ps_ret (pe_call (ok_book_of T) (hr.mono (by decide)) rfl T.g_book_of T.k_book_of T.bn_book_of .nil (passes_call (takes_of rfl rfl rfl rfl) (fun _ _ _ _ h => h)) (pa_cons (pe_fld (pv 0) rfl) (pa_cons (pe_lst (StX.pa_star (pe_fld (pv 0) rfl) (pa_cons (pv 1) pa_nil))) (pa_cons (pe_fld (pv 0) rfl) pa_nil))))))), ?_⟩
    refine ⟨_, rfl, _, rfl, a, _, dx, _, _, rfl, ba.ins, T.clB, T.nB_size, bfs_size _ _ _ _, ?_⟩
    rcases h with ⟨q, r, rfl, hq, ok, h⟩ | ⟨nc, out⟩
    · refine .inl ⟨q, r, b.z, rfl, hq, ?_⟩
      have e : decide ((if r.s > r.f then r.s else r.f) + r.l ≤ b.z) = true ↔ r.In b.z := by
        rw [decide_eq_true_iff]
        constructor
        · intro h
          split at h
          · exact ⟨ok, by omega, by omega⟩
          · exact ⟨ok, by omega, by omega⟩
        · intro h
          have := h.fz; have := h.sz
          split <;> omega
      rcases h with ⟨no, out⟩ | ⟨yes, h⟩
      · have e2 : decide ((if r.s > r.f then r.s else r.f) + r.l ≤ b.z) = false := by
          cases c : decide ((if r.s > r.f then r.s else r.f) + r.l ≤ b.z) with
          | false => rfl
          | true => exact absurd (e.mp c) no
        rw [e2]
        exact ⟨false, rfl, iteT ⟨_, rfl, mkR X0 out⟩⟩
      · rw [e.mpr yes]
        refine ⟨true, rfl, iteF ?_⟩
        obtain ⟨dq, hq'⟩ := id hq
        refine ⟨_, rfl, a, _, dx, _, _, rfl, ba.ins, T.clB, T.nB_size, bfs_size _ _ _ _, ?_⟩
        refine ⟨_, rfl, a, _, dx, _, _, rfl, ba.ins, T.clB, T.nB_ties, bfs_ties _ _ _ _, ta, _, rfl, .inl (SqT.of ba.ties), _, rfl, ?_, fun l hl => ?_⟩
        · rw [List.length_append]
          simp
          omega
        have s1 := Same.new (o := .lst (tr ++ [.ref q])) (Same.refl H) hl
        refine ⟨_, rfl, a, _, dx, _, _, rfl, s1 _ _ ba.ins, T.clB, T.nB_notes, bfs_notes _ _ _ _, ?_⟩
        exact ⟨l, na, _, _, b.wt r, rfl, .inr (.inl ⟨upd_same, ba.notes.same s1⟩), Paired.snoc ⟨q, rfl, Same.tie s1 hq⟩ (ba.ts.same s1), ba.ns.same s1, okb.fine.wt yes, okb.nd, h.mono s1⟩
    · exact .inr ⟨v, b.z, rfl, nc, false, rfl, iteT ⟨_, rfl, mkR X0 out⟩⟩
theorem ok_B_without (T : Txt K mg Z) : FnOk P w K mg base (L2.CX P w) 14 Z.f_B_without Z.d_B_without ["self", "number"] (sp_B_without K Z) := by
  refine T.F_B_without.okX sc_B_without (fun vs H Q E h => ?_) (fun cdv A outer s H vs Q E hr h => ?_)
  · obtain ⟨a, t, b, v, o, rfl, _⟩ := h
    rfl
  · obtain ⟨a, t, b, v, o, rfl, ⟨dx, ta, na, tr, nr, ba⟩, okb, hv, h⟩ := h
    have sl : sizeLine = 16777216 := sizeLine_eq
    have X0 := T.ex 5 (by decide)
    have lt := Paired.len ba.ts; have tb := okb.tn
    refine ⟨_, (pss_cons (ps_if (pt_not (pt_val (pe_call (ok_is_between T) (hr.mono (by decide)) rfl T.g_is_between T.k_is_between T.bn_is_between .nil pass0 (pa_cons (pv 1) (pa_cons pe_int (pa_cons (pe_op op_sub (pe_callB  call_len (by rfl) T.b_len (by decide +kernel) (pa_cons (pe_fld (pv 0) rfl) pa_nil)) pe_int) pa_nil)))))) (pss_one (ps_raise rfl (takes_of rfl rfl rfl rfl) (pmk_oex (T.ex 5 (by decide)).ox (T.ex 5 (by decide)).ini T.t_E_init (ok_E_init T) (hr.mono (by decide)) T.bn_E_init .nil pass0 rfl T.g_NoTie (pa_cons (pv 1) pa_nil)))) pss_nil)
      (pss_cons (ps_setLc (i := 2) (own := [("at", 3), ("tie", 4)]) rfl sc_B_without.nd rfl rfl (sw_true rfl rfl rfl (by decide +kernel)) (pi_enumT (by rfl) T.b_enumerate (pa_cons (pe_fld (pv 0) rfl) pa_nil)) (blkOk_by (own := [("at", 3), ("tie", 4)]) (N := ["self", "number", "ties", "at", "tie"]) (sc := defScope s_B_without) (by decide +kernel)) (fun _ _ _ _ _ => (show PG _ _ (gTup K 2 _) from (pg_tup rfl (pgs_cons (pg_name (i := 3) sc_B_without.nd rfl (Or.inl rfl)) (pgs_cons (pg_name (i := 4) sc_B_without.nd rfl (Or.inl rfl)) pgs_nil))))) (fun _ _ _ _ _ => (pts_one (pt_cmpR op_ne (pv 3) (pv 1) (nomark _)))) (fun _ _ _ _ _ => (pv 4)))
      (pss_one (ps_ret (pe_call (ok_book_of T) (hr.mono (by decide)) rfl T.g_book_of T.k_book_of T.bn_book_of .nil (passes_call (takes_of rfl rfl rfl rfl) (fun _ _ _ _ h => h)) (pa_cons (pe_fld (pv 0) rfl) (pa_cons (pv 2) (pa_cons (pe_fld (pv 0) rfl) pa_nil)))))))), ?_⟩
    refine ⟨_, rfl, ?_⟩
    refine ⟨_, rfl, a, _, dx, _, _, rfl, ba.ins, T.clB, T.nB_ties, bfs_ties _ _ _ _, _, _, rfl, .inr ⟨_, SqT.of ba.ties, rfl⟩, _, _, rfl, rfl, ?_⟩
    rcases h with ⟨j, rfl, hj, k⟩ | ⟨bad, out⟩
    case inr =>
      cases hv with
      | int i =>
        have := bad i rfl
        refine .inl ⟨i, 0, _, rfl, false, ?_, iteT ⟨_, rfl, mkR X0 out⟩⟩
        by_cases c : 0 ≤ i
        · rw [decide_eq_true c, decide_eq_false (by omega)] <;> rfl
        · rw [decide_eq_false c] <;> rfl
      | no hw => exact .inr ⟨v, _, _, rfl, hw, false, rfl, iteT ⟨_, rfl, mkR X0 out⟩⟩
    case inl =>
      obtain rfl : v = .int (j : Int) := by cases hv; rfl
      refine .inl ⟨(j : Int), 0, _, rfl, true, ?_, iteF ?_⟩
      · rw [decide_eq_true (by omega), decide_eq_true (by omega)] <;> rfl
      refine ⟨_, rfl, a, _, dx, _, _, rfl, ba.ins, T.clB, T.nB_ties, bfs_ties _ _ _ _, ta, tr, rfl, SqT.of ba.ties, fun D hD => ?_⟩
      refine lc_it walk_enumT (fun i H' => ∃ l, H' D = some (.lst l) ∧ l.length ≤ i ∧ Ties Z.cC H' l ((b.ts.take i).eraseIdx j) ∧ Same H H') ⟨[], upd_same, Nat.le_refl _, .nil, Same.new (Same.refl H) hD⟩ (fun i H' _ ⟨_, _, _, _, s⟩ => SqT.of (s _ _ ba.ties)) ?_ ?_
      · rintro i x H2 H3 hi ⟨l, hDi, hl, ht, s1⟩ ⟨T0, x1, x2, rfl, nT, rfl, e1, e2⟩
        obtain rfl := Option.some.inj e1
        obtain ⟨r, hr', y, rfl, hy⟩ := Paired.at ba.ts e2
        have s2 := Same.new (o := .tup [.int (i : Nat), .ref y]) (Same.refl H2) nT
        have hD2 := s2 _ _ hDi
        refine ⟨T0, _, rfl, SqT.of upd_same, rfl, _, _, rfl, _, _, rfl, rfl, rfl, ?_⟩
        refine ⟨_, rfl, _, rfl, rfl, _, rfl, ?_⟩
        by_cases c : i = j
        · rw [decide_eq_true (by rw [c])]
          refine iteF ⟨l, hD2, by omega, ?_, s1.trans s2⟩
          rw [erase_take hr', if_pos c]
          rw [List.eraseIdx_of_length_le (by rw [List.length_take]; omega)] at ht
          exact ht.same s2
        · rw [decide_eq_false (fun z => c (by have := V.int.inj z; omega))]
          refine iteT ⟨_, rfl, _, hD2, by omega, l ++ [.ref y], upd_same, by rw [List.length_append]; simp; omega, ?_, same_put (s1.trans s2) hD⟩
          rw [erase_take hr', if_neg c]
          exact Paired.snoc ⟨y, rfl, (Same.tie (s1.trans s2) hy).put hD2⟩ ((ht.same s2).put hD2)
      rintro H2 ⟨l, hD2, hl, ht, s1⟩
      rw [List.take_of_length_le (by omega)] at ht
      refine ⟨_, rfl, a, _, dx, _, _, rfl, s1 _ _ ba.ins, T.clB, T.nB_size, bfs_size _ _ _ _, ?_⟩
      refine ⟨_, rfl, _, rfl, a, _, dx, _, _, rfl, s1 _ _ ba.ins, T.clB, T.nB_notes, bfs_notes _ _ _ _, ?_⟩
      have ok2 := okb.wo j
      exact ⟨D, na, _, _, b.wo j, rfl, .inr (.inl ⟨hD2, ba.notes.same s1⟩), ht, ba.ns.same s1, ok2.fine, ok2.nd, .inl ⟨ok2.tn, ok2.nn, fun x H' nx s hx => k x H' (L2.Same.free s1 nx) (s1.trans s) hx⟩⟩
theorem ok_B_with_note (T : Txt K mg Z) : FnOk P w K mg base (L2.CX P w) 14 Z.f_B_with_note Z.d_B_with_note ["self", "place", "note"] (sp_B_with_note K Z) := by
  refine T.F_B_with_note.okX sc_B_with_note (fun vs H Q E h => ?_) (fun cdv A outer s H vs Q E hr h => ?_)
  · obtain ⟨a, t, b, v, u, o, o2, rfl, _⟩ := h
    rfl
  · obtain ⟨a, t, b, v, u, o, o2, rfl, ⟨dx, ta, na, tr, nr, ba⟩, okb, hv, hu, h⟩ := h
    have sl : sizeLine = 16777216 := sizeLine_eq
    have X0 := T.ex 6 (by decide)
    have X1 := T.ex 7 (by decide)
    have ln := Paired.len ba.ns; have nb := okb.nn
    refine ⟨_, (pss_cons (ps_if (PW.pt (pw_or (pt_not (pt_val (pe_call (ok_is_between T) (hr.mono (by decide)) rfl T.g_is_between T.k_is_between T.bn_is_between .nil pass0 (pa_cons (pv 1) (pa_cons pe_int (pa_cons (pe_op op_sub (pe_fld (pv 0) rfl) pe_int) pa_nil)))))) (pw_or1 (pt_val (pe_call (ok_has_note T) (hr.mono (by decide)) rfl T.g_has_note T.k_has_note T.bn_has_note .nil pass0 (pa_cons (pe_fld (pv 0) rfl) (pa_cons (pv 1) pa_nil))))))) (pss_one (ps_raise rfl (takes_of rfl rfl rfl rfl) (pmk_oex (T.ex 6 (by decide)).ox (T.ex 6 (by decide)).ini T.t_E_init (ok_E_init T) (hr.mono (by decide)) T.bn_E_init .nil pass0 rfl T.g_NoPlace (pa_cons (pv 1) pa_nil)))) pss_nil)
      (pss_cons (ps_if (pt_not (pt_val (pe_call (ok_is_whole T) (hr.mono (by decide)) rfl T.g_is_whole T.k_is_whole T.bn_is_whole .nil pass0 (pa_cons (pv 2) pa_nil)))) (pss_one (ps_raise rfl (takes_of rfl rfl rfl rfl) (pmk_oex (T.ex 7 (by decide)).ox (T.ex 7 (by decide)).ini T.t_E_init (ok_E_init T) (hr.mono (by decide)) T.bn_E_init .nil pass0 rfl T.g_BadNote (pa_cons (pv 2) pa_nil)))) pss_nil)
      (pss_one (ps_ret (pe_call (ok_book_of T) (hr.mono (by decide)) rfl T.g_book_of T.k_book_of T.bn_book_of .nil (passes_call (takes_of rfl rfl rfl rfl) (fun _ _ _ _ h => h)) (pa_cons (pe_fld (pv 0) rfl) (pa_cons (pe_fld (pv 0) rfl) (pa_cons (pe_lst (StX.pa_star (pe_fld (pv 0) rfl) (pa_cons (pe_tup (pa_cons (pv 1) (pa_cons (pv 2) pa_nil))) pa_nil))) pa_nil)))))))), ?_⟩
    refine ⟨_, rfl, _, rfl, a, _, dx, _, _, rfl, ba.ins, T.clB, T.nB_size, bfs_size _ _ _ _, _, _, rfl, rfl, ?_⟩
    cases hv with
    | no hw =>
      refine .inr ⟨v, _, _, rfl, hw, false, rfl, iteT (iteT ?_)⟩
      rcases h with ⟨_, out⟩ | ⟨p, e, _⟩
      · exact ⟨_, rfl, mkR X0 out⟩
      · cases e
    | int i =>
      by_cases c : 0 ≤ i ∧ i < b.z
      case neg =>
        refine .inl ⟨i, 0, _, rfl, false, ?_, iteT (iteT ?_)⟩
        · by_cases c0 : 0 ≤ i
          · rw [decide_eq_true c0, decide_eq_false (by omega)] <;> rfl
          · rw [decide_eq_false c0] <;> rfl
        rcases h with ⟨_, out⟩ | ⟨p, e, p0, p1, _⟩
        · exact ⟨_, rfl, mkR X0 out⟩
        · cases e
          exact absurd ⟨p0, p1⟩ c
      case pos =>
        refine .inl ⟨i, 0, _, rfl, true, ?_, iteF ?_⟩
        · rw [decide_eq_true c.1, decide_eq_true (by omega)] <;> rfl
        refine ⟨_, rfl, a, _, dx, _, _, rfl, ba.ins, T.clB, T.nB_notes, bfs_notes _ _ _ _, _, rfl, na, i, nr, b.ns, rfl, .inr ba.notes, ba.ns, by omega, fun H1 s1 => ⟨_, rfl, ?_⟩⟩
        rcases h with ⟨bad, out⟩ | ⟨p, e, p0, p1, np, h⟩
        · have hm : i ∈ b.ns.map (·.1) := Classical.not_not.mp fun z => bad i rfl ⟨c.1, c.2, z⟩
          rw [decide_eq_true hm]
          exact iteT ⟨_, rfl, mkR X0 (out.mono s1)⟩
        cases e
        rw [decide_eq_false np]
        refine iteF ?_
        rcases h with ⟨rfl, out⟩ | ⟨m, rfl, m0, m1, h⟩
        · have hw := hu H1 s1
          cases hw with
          | no hw => exact ⟨_, rfl, _, false, rfl, hw, false, rfl, iteT ⟨_, rfl, mkR X1 (out.mono s1)⟩⟩
        · obtain rfl : u = .int m := by have := hu H1 s1; cases this; rfl
          refine ⟨_, rfl, _, true, rfl, whole_int m, true, rfl, iteF ?_⟩
          refine ⟨_, rfl, a, _, dx, _, _, rfl, s1 _ _ ba.ins, T.clB, T.nB_size, bfs_size _ _ _ _, ?_⟩
          refine ⟨_, rfl, a, _, dx, _, _, rfl, s1 _ _ ba.ins, T.clB, T.nB_ties, bfs_ties _ _ _ _, ?_⟩
          refine ⟨_, rfl, a, _, dx, _, _, rfl, s1 _ _ ba.ins, T.clB, T.nB_notes, bfs_notes _ _ _ _, na, _, rfl, .inl (ba.notes.same s1).sq, ?_⟩
          refine ⟨_, rfl, _, rfl, by show 2 ≤ sizeLine; decide, fun q hq => ?_⟩
          have s2 := s1.trans (Same.new (o := .tup [.int i, .int m]) (Same.refl H1) hq)
          have hq2 : upd H1 q (.tup [.int i, .int m]) q = some (.tup [.int i, .int m]) := upd_same
          generalize upd H1 q (.tup [.int i, .int m]) = H2 at s2 hq2 ⊢
          refine ⟨?_, fun l hl => ?_⟩
          · rw [List.length_append]
            simp
            omega
          have s3 := Same.new (o := .lst (nr ++ [.ref q])) (Same.refl H2) hl
          have s4 := s2.trans s3
          exact ⟨ta, l, _, _, b.wn i m, rfl, .inr (.inr ⟨s4 _ _ ba.ties, upd_same⟩), ba.ts.same s4, Paired.snoc ⟨q, rfl, s3 _ _ hq2⟩ (ba.ns.same s4), okb.fine.wn ⟨c.1, c.2, m0, m1⟩, Lore.nd_wn okb.nd np, h.mono s4⟩
end
end TT

namespace TT
open PySem PySem.Spec PyProof.Rows L2
theorem Pot.ne {H : Hp} {p q : Addr} {n : Nat} (hp : Pot H p n) (hq : H q = none) : p ≠ q := by
  obtain ⟨_, _, e, _⟩ := hp
  exact ne_of_none e hq
theorem Pot.same {H H' : Hp} {p : Addr} {n : Nat} (hp : Pot H p n) (s : Same H H') : Pot H' p n := by
  obtain ⟨a, m, e, r⟩ := hp
  exact ⟨a, m, s _ _ e, r⟩
theorem Keep.same {H H' H2 : Hp} {p : Addr} (k : Keep p H H') (s : Same H' H2) : Keep p H H2 := fun b o n e => s _ _ (k b o n e)
end TT

set_option maxHeartbeats 4000000
namespace TT
open PySem PySem.Spec PyProof.Rows L2 LamX TL
/-! ### the law's lore -/
def loreK (z : Int) (ta na : Addr) : List (Key × V) := [(Sum.inr "size", .int z), (Sum.inr "ties", .ref ta), (Sum.inr "notes", .ref na)]
theorem merge_lore (z : Int) (ta na : Addr) : mergeK [] (loreK z ta na) = loreK z ta na := by
  unfold mergeK loreK putK
  have h1 : ¬ (Str.ofString "size" = Str.ofString "ties") := by decide +kernel
  have h2 : ¬ (Str.ofString "size" = Str.ofString "notes") := by decide +kernel
  have h3 : ¬ (Str.ofString "ties" = Str.ofString "notes") := by decide +kernel
  simp [h1, h2, h3]
theorem get_size {H : Hp} {d : Addr} {z : Int} {ta na : Addr} (h : H d = some (.dK (loreK z ta na))) : DGet H d (.str "size") (some (.int z)) := by
  refine .inl ⟨_, Sum.inr "size", .inl h, rfl, ?_⟩
  unfold loreK
  rw [valV_pos rfl]
theorem get_ties {H : Hp} {d : Addr} {z : Int} {ta na : Addr} (h : H d = some (.dK (loreK z ta na))) : DGet H d (.str "ties") (some (.ref ta)) := by
  refine .inl ⟨_, Sum.inr "ties", .inl h, rfl, ?_⟩
  unfold loreK
  rw [valV_neg (fun e => absurd (Sum.inr.inj e) (by decide +kernel)), valV_pos rfl]
theorem get_notes {H : Hp} {d : Addr} {z : Int} {ta na : Addr} (h : H d = some (.dK (loreK z ta na))) : DGet H d (.str "notes") (some (.ref na)) := by
  refine .inl ⟨_, Sum.inr "notes", .inl h, rfl, ?_⟩
  unfold loreK
  rw [valV_neg (fun e => absurd (Sum.inr.inj e) (by decide +kernel)), valV_neg (fun e => absurd (Sum.inr.inj e) (by decide +kernel)), valV_pos rfl]
theorem put_size {H : Hp} {d : Addr} {z y : Int} {ta na : Addr} (h : H d = some (.dK (loreK z ta na))) : DPut H d (.str "size") (.int y) (upd H d (.dK (loreK y ta na))) := by
  have h1 : ¬ (Str.ofString "ties" = Str.ofString "size") := by decide +kernel
  have h2 : ¬ (Str.ofString "notes" = Str.ofString "size") := by decide +kernel
  have e : putK (loreK z ta na) (Sum.inr (Str.ofString "size")) (.int y) = loreK y ta na := by
    unfold loreK putK
    simp [h1, h2]
  exact .inl ⟨_, Sum.inr "size", h, rfl, by show 3 < sizeLine; decide, by rw [← e]⟩
structure LoreIs (H : Hp) (p d : Addr) (b : Lore) (ta na : Addr) (tr nr : List V) : Prop where
  dic : H d = some (.dK (loreK b.z ta na))
  ties : H ta = some (.lst tr)
  notes : H na = some (.lst nr)
  tp : ta ≠ p
  np : na ≠ p
  ts : RowsAt H tr b.ts
  ns : Notes H nr b.ns
def LoreAt (H : Hp) (p d : Addr) (b : Lore) : Prop := ∃ ta na tr nr, LoreIs H p d b ta na tr nr
theorem RowsAt.keep {H H' : Hp} {p : Addr} {n : Nat} (k : Keep p H H') (hp : Pot H p n) {xs : List V} {ts : List Row} (h : RowsAt H xs ts) : RowsAt H' xs ts := Paired.imp (fun _ _ ⟨q, e, t⟩ => ⟨q, e, k.row hp t⟩) h
theorem Notes.keep {H H' : Hp} {p : Addr} {n : Nat} (k : Keep p H H') (hp : Pot H p n) {xs : List V} {ns : List (Int × Int)} (h : Notes H xs ns) : Notes H' xs ns :=
  Paired.imp (fun _ _ ⟨q, e, t⟩ => ⟨q, e, k _ _ (hp.off t fun _ z => nomatch z) t⟩) h
theorem RowsAt.put {D : Addr} {H : Hp} {xs : List V} {o : HO} (hD : H D = some (.lst xs)) {tr : List V} {ts : List Row} (h : RowsAt H tr ts) : RowsAt (upd H D o) tr ts :=
  Paired.imp (fun _ _ ⟨q, e, t⟩ => ⟨q, e, (upd_ne (ne_of t hD fun z => nomatch z)).trans t⟩) h
theorem RowsAt.dput {D : Addr} {H : Hp} {kvs : List (Key × V)} {o : HO} (hD : H D = some (.dK kvs)) {tr : List V} {ts : List Row} (h : RowsAt H tr ts) : RowsAt (upd H D o) tr ts :=
  Paired.imp (fun _ _ ⟨q, e, t⟩ => ⟨q, e, (upd_ne (ne_of t hD fun z => nomatch z)).trans t⟩) h
theorem Notes.dput {D : Addr} {H : Hp} {kvs : List (Key × V)} {o : HO} (hD : H D = some (.dK kvs)) {tr : List V} {ns : List (Int × Int)} (h : Notes H tr ns) : Notes (upd H D o) tr ns :=
  Paired.imp (fun _ _ ⟨q, e, t⟩ => ⟨q, e, (upd_ne (ne_of t hD fun z => nomatch z)).trans t⟩) h
theorem LoreAt.keep {H H' : Hp} {p d : Addr} {n : Nat} {b : Lore} (k : Keep p H H') (hp : Pot H p n) (h : LoreAt H p d b) : LoreAt H' p d b := by
  obtain ⟨ta, na, tr, nr, h⟩ := h
  exact ⟨ta, na, tr, nr, k _ _ (hp.off h.dic fun _ z => nomatch z) h.dic, k _ _ h.tp h.ties, k _ _ h.np h.notes, h.tp, h.np, h.ts.keep k hp, h.ns.keep k hp⟩
theorem LoreAt.same {H H' : Hp} {p d : Addr} {b : Lore} (s : Same H H') (h : LoreAt H p d b) : LoreAt H' p d b := by
  obtain ⟨ta, na, tr, nr, h⟩ := h
  exact ⟨ta, na, tr, nr, s _ _ h.dic, s _ _ h.ties, s _ _ h.notes, h.tp, h.np, h.ts.same s, h.ns.same s⟩
theorem Pot.put {H : Hp} {p D : Addr} {n : Nat} {o : HO} (hp : Pot H p n) (ne : p ≠ D) : Pot (upd H D o) p n := by
  obtain ⟨a, m, e, r⟩ := hp
  exact ⟨a, m, (upd_ne ne).trans e, r⟩
theorem Pot.ne' {H : Hp} {p q : Addr} {n : Nat} (hp : Pot H p n) (hq : H q = none) : p ≠ q := by
  obtain ⟨_, _, e, _⟩ := hp
  exact ne_of_none e hq
def sp_l_lore : Sp := fun vs H Q _ => ∃ (p : Addr) (n : Nat) (mz mt mn : Int), vs = [.ref p, .int mz, .int mt, .int mn] ∧ Pot H p n ∧ n + 200 < 1000000 ∧ 1 ≤ mz ∧ mz ≤ 100 ∧ 0 ≤ mt ∧ mt ≤ 11 ∧ 0 ≤ mn ∧ mn ≤ 11 ∧
  ∀ (d : Addr) (b : Lore) (n' : Nat) (H' : Hp), b.Fine → b.z ≤ mz → (b.ts.length : Int) ≤ mt → (b.ns.length : Int) ≤ mn → (b.ns.map (·.1)).Nodup → n' ≤ n + 120 → Pot H' p n' → Keep p H H' → H d = none → LoreAt H' p d b → Q (.ref d) H'
theorem ix_in {i : Int} {n : Nat} (h0 : 0 ≤ i) (h1 : i < n) : seqIndex? i n = some i.toNat := by
  unfold seqIndex?
  simp only [if_neg (show ¬ i < 0 by omega)]
  simp [h0, h1]
theorem rg_ints (z : Int) : rgV 0 z = ((List.range z.toNat).map fun j => ((j : Nat) : Int)).map V.int := by
  unfold rgV
  rw [List.map_map, Int.sub_zero]
  refine List.map_congr_left fun j _ => ?_
  show V.int (0 + (j : Int)) = V.int (j : Int)
  rw [Int.zero_add]
theorem erase_map {α β : Type} (f : α → β) : ∀ (l : List α) (k : Nat), (l.map f).eraseIdx k = (l.eraseIdx k).map f
  | [], _ => rfl
  | _ :: _, 0 => rfl
  | a :: l, k + 1 => by
    show f a :: (l.map f).eraseIdx k = f a :: (l.eraseIdx k).map f
    rw [erase_map f l k]
theorem erase_mem {α : Type} : ∀ {l : List α} {k : Nat} {y : α}, y ∈ l.eraseIdx k → y ∈ l
  | [], _, _, h => h
  | _ :: _, 0, _, h => List.mem_cons_of_mem _ h
  | a :: l, k + 1, y, h => by
    rcases List.mem_cons.mp (show y ∈ a :: l.eraseIdx k from h) with rfl | h
    · exact List.mem_cons_self ..
    · exact List.mem_cons_of_mem _ (erase_mem h)
theorem erase_nodup {α : Type} : ∀ {l : List α} {k : Nat} {x : α}, l.Nodup → l[k]? = some x → (l.eraseIdx k).Nodup ∧ x ∉ l.eraseIdx k ∧ (l.eraseIdx k).length + 1 = l.length
  | [], _, _, _, h => by simp at h
  | a :: l, 0, x, nd, h => by
    simp at h
    subst h
    obtain ⟨n1, n2⟩ := List.nodup_cons.mp nd
    exact ⟨n2, n1, rfl⟩
  | a :: l, k + 1, x, nd, h => by
    obtain ⟨n1, n2⟩ := List.nodup_cons.mp nd
    obtain ⟨e1, e2, e3⟩ := erase_nodup n2 (show l[k]? = some x by simpa using h)
    refine ⟨List.nodup_cons.mpr ⟨fun m => n1 (erase_mem m), e1⟩, fun m => ?_, by show (l.eraseIdx k).length + 1 + 1 = l.length + 1; omega⟩
    rcases List.mem_cons.mp (show x ∈ a :: l.eraseIdx k from m) with rfl | m
    · exact n1 (List.mem_of_getElem? (show l[k]? = some x by simpa using h))
    · exact e2 m
section
variable {P : Program} {w : World} {K : PySem.W.Frag} {mg : Str → Option Value} {base : Heap} {Z : Zs}
theorem ok_l_lore (T : Txt K mg Z) : FnOk P w K mg base CX0 5 Z.f_l_lore Z.d_l_lore ["_law_pot_here", "_law_most", "_law_ties", "_law_notes"] sp_l_lore := by
  refine T.F_l_lore.ok sc_l_lore (fun vs H Q E h => ?_) (fun cdv A outer s H vs Q E hr h => ?_)
  · obtain ⟨p, n, mz, mt, mn, rfl, _⟩ := h
    rfl
  · obtain ⟨p, n, mz, mt, mn, rfl, hp, hn, z0, z1, t0, t1, n0, n1, k⟩ := h
    have sl : sizeLine = 16777216 := sizeLine_eq
    have big : (1000 : Int) < 10 ^ 60 := by decide
    refine ⟨_, (pss_cons (ps_set (i := 4) sc_l_lore.nd rfl (Or.inl rfl) (pe_disp (pps_cons pe_str (pe_op op_add pe_int (pe_call (ok_l_take T) (hr.mono (by decide)) rfl T.g_l_take T.k_l_take T.bn_l_take .nil pass0 (pa_cons (pv 0) (pa_cons (pv 1) pa_nil)))) (pps_cons pe_str (pe_lst pa_nil) (pps_cons pe_str (pe_lst pa_nil) pps_nil))) (by rfl) (by rfl) (fun z => by cases z) (by decide)))
      (pss_cons (ps_for PassesOwn.never rfl (pi_range1 rfl T.b_range (pa_cons (pe_call (ok_l_take T) (hr.mono (by decide)) rfl T.g_l_take T.k_l_take T.bn_l_take .nil pass0 (pa_cons (pv 0) (pa_cons (pe_op op_add (pv 2) pe_int) pa_nil))) pa_nil)) (pg_name (i := 5) sc_l_lore.nd rfl (Or.inl rfl)) (pss_one (ps_expr (pe_bm PySem.F.plainAttrs_list PySem.F.slot_list_append PySem.F.type_list_append mt_append (pe_dget (hu_of hr) (pv 4) pe_str (fun _ _ => rfl)) (pa_cons (pe_call (ok_l_row T) (hr.mono (by decide)) rfl T.g_l_row T.k_l_row T.bn_l_row .nil pass0 (pa_cons (pv 0) (pa_cons (pe_dget (hu_of hr) (pv 4) pe_str (fun _ _ => rfl)) pa_nil))) pa_nil)))))
      (pss_cons (ps_set (i := 6) sc_l_lore.nd rfl (Or.inl rfl) (pe_listRg rfl rfl T.b_list (prg_1 rfl T.b_range (pe_dget (hu_of hr) (pv 4) pe_str (fun _ _ => rfl)))))
      (pss_cons (ps_for PassesOwn.never rfl (pi_range1 rfl T.b_range (pa_cons (pe_callB  (call_min2 rfl) (by rfl) T.b_min (by decide +kernel) (pa_cons (pe_callB  call_len (by rfl) T.b_len (by decide +kernel) (pa_cons (pv 6) pa_nil)) (pa_cons (pe_call (ok_l_take T) (hr.mono (by decide)) rfl T.g_l_take T.k_l_take T.bn_l_take .nil pass0 (pa_cons (pv 0) (pa_cons (pe_op op_add (pv 3) pe_int) pa_nil))) pa_nil))) pa_nil)) (pg_name (i := 5) sc_l_lore.nd rfl (Or.inl rfl)) (pss_one (ps_expr (pe_bm PySem.F.plainAttrs_list PySem.F.slot_list_append PySem.F.type_list_append mt_append (pe_dget (hu_of hr) (pv 4) pe_str (fun _ _ => rfl)) (pa_cons (pe_tup (pa_cons (pe_bm PySem.F.plainAttrs_list PySem.F.slot_list_pop PySem.F.type_list_pop mt_popAt (pv 6) (pa_cons (pe_call (ok_l_take T) (hr.mono (by decide)) rfl T.g_l_take T.k_l_take T.bn_l_take .nil pass0 (pa_cons (pv 0) (pa_cons (pe_callB  call_len (by rfl) T.b_len (by decide +kernel) (pa_cons (pv 6) pa_nil)) pa_nil))) pa_nil)) (pa_cons (pe_call (ok_l_amount T) (hr.mono (by decide)) rfl T.g_l_amount T.k_l_amount T.bn_l_amount .nil pass0 (pa_cons (pv 0) pa_nil)) pa_nil))) pa_nil)))))
      (pss_one (ps_ret (pv 4))))))), ?_⟩
    refine fun D hD => ?_
    have npD := hp.ne' hD
    refine ⟨_, rfl, _, rfl, p, n, mz, rfl, hp.new hD, by omega, by omega, by omega, fun dz m1 H1 dz0 dz1 hm1 hp1 k1 => ⟨_, _, rfl, rfl, ?_⟩⟩
    refine ⟨by show 0 ≤ sizeLine; exact Nat.zero_le _, fun ta hta => ⟨by show 0 ≤ sizeLine; exact Nat.zero_le _, fun na hna => ?_⟩⟩
    have hD1 : H1 D = some (.dK []) := k1 _ _ npD.symm upd_same
    have npt := hp1.ne' hta
    have s1 := Same.new (o := .lst []) (Same.refl H1) hta
    have s2 := Same.new (o := .lst []) (Same.refl _) hna
    have ta2 : upd (upd H1 ta (.lst [])) na (.lst []) ta = some (.lst []) := s2 _ _ upd_same
    have na2 : upd (upd H1 ta (.lst [])) na (.lst []) na = some (.lst []) := upd_same
    have nta : ta ≠ na := ne_of_none upd_same hna
    have hp2 := hp1.same (s1.trans s2)
    have npn : p ≠ na := (hp1.same s1).ne' hna
    have hD2 := s2 _ _ (s1 _ _ hD1)
    have k2 : Keep p H (upd (upd H1 ta (.lst [])) na (.lst [])) := ((Keep.rfl'.new hD).trans k1).same (s1.trans s2)
    have fta : H ta = none := free_of ((Keep.rfl'.new hD).trans k1) hp hta hp1
    have fna : H na = none := free_of (((Keep.rfl'.new hD).trans k1).same s1) hp hna (hp1.same s1)
    generalize upd (upd H1 ta (.lst [])) na (.lst []) = H2 at s2 ta2 na2 hp2 hD2 k2 ⊢
    clear s1 s2
    refine ⟨hD2, loreK (1 + dz) ta na, rfl, by show 3 ≤ 15; decide, ?_⟩
    rw [merge_lore]
    obtain ⟨z, hz⟩ : ∃ z, z = 1 + dz := ⟨_, rfl⟩
    rw [← hz]
    have zz : 1 ≤ z ∧ z ≤ mz := by omega
    have hp3 : Pot (upd H2 D (.dK (loreK z ta na))) p m1 := hp2.put npD
    have ta3 : upd H2 D (.dK (loreK z ta na)) ta = some (.lst []) := (upd_ne (ne_of ta2 hD2 fun z => nomatch z)).trans ta2
    have na3 : upd H2 D (.dK (loreK z ta na)) na = some (.lst []) := (upd_ne (ne_of na2 hD2 fun z => nomatch z)).trans na2
    have hD3 : upd H2 D (.dK (loreK z ta na)) D = some (.dK (loreK z ta na)) := upd_same
    have k3 : Keep p H (upd H2 D (.dK (loreK z ta na))) := fun b o nb e => (upd_ne (ne_of_none e hD)).trans (k2 b o nb e)
    generalize upd H2 D (.dK (loreK z ta na)) = H3 at hp3 ta3 na3 hD3 k3 ⊢
    clear ta2 na2 hp2 hD2 k2 hD1 hta hna hp1 k1
    -- the ties
    refine ⟨_, rfl, _, rfl, _, _, rfl, rfl, p, m1, mt + 1, rfl, hp3, by omega, by omega, by omega, fun dt m2 H4 dt0 dt1 hm2 hp4 k4 => ?_⟩
    refine ⟨_, rfl, by omega, by omega, ?_⟩
    have ntp := npt.symm; have nnp := npn.symm
    refine for_range (n := dt.toNat) (fun i σ H' => ∃ n' v5 tr ts, σ = [some (.ref p), some (.int mz), some (.int mt), some (.int mn), some (.ref D), v5, none] ∧ n' ≤ n + 2 + 6 * i ∧ Pot H' p n' ∧ Keep p H H' ∧ H' D = some (.dK (loreK z ta na)) ∧ H' ta = some (.lst tr) ∧ H' na = some (.lst []) ∧ RowsAt H' tr ts ∧ ts.length = i ∧ ∀ r ∈ ts, r.In z)
      ⟨m2, _, [], [], rfl, by omega, hp4, k3.trans k4, k4 _ _ npD.symm hD3, k4 _ _ ntp ta3, k4 _ _ nnp na3, .nil, rfl, fun _ h => nomatch h⟩ ?_ ?_
    · rintro i σ H5 hi ⟨n', v5, tr, ts, rfl, hn', hp5, k5, hD5, ta5, na5, rows, lts, ins⟩
      refine ⟨_, rfl, D, _, rfl, get_ties hD5, .inl ⟨rfl, _, SqL.of ta5⟩, ?_⟩
      refine ⟨_, rfl, _, rfl, D, _, rfl, get_size hD5, p, n', z, rfl, hp5, by omega, by omega, by omega, fun r q n6 H6 ok fz sz lo hi' hn6 hp6 k6 hq nq => ?_⟩
      have lr := Paired.len rows
      have ta6 := k6 _ _ ntp ta5
      refine ⟨ta, _, _, rfl, rfl, ta6, by omega, ?_⟩
      refine ⟨n6, _, tr ++ [.ref q], ts ++ [r], rfl, by omega, hp6.put npt, fun b o nb e => (upd_ne (ne_of_none e fta)).trans ((k5.trans k6) b o nb e), ?_, upd_same, ?_, ?_, by rw [List.length_append, lts] <;> rfl, fun r' hr' => ?_⟩
      · have hD6 := k6 _ _ npD.symm hD5
        exact (upd_ne (ne_of hD6 ta6 fun z => nomatch z)).trans hD6
      · exact (upd_ne nta.symm).trans (k6 _ _ nnp na5)
      · exact Paired.snoc ⟨q, rfl, (upd_ne (ne_of hq ta6 fun z => nomatch z)).trans hq⟩ ((rows.keep k6 hp5).put ta6)
      · rcases List.mem_append.mp hr' with h | h
        · exact ins r' h
        · rw [List.mem_singleton.mp h]
          exact ⟨ok, fz, sz⟩
    rintro σ H5 ⟨n', v5, tr, ts, rfl, hn', hp5, k5, hD5, ta5, na5, rows, lts, ins⟩
    clear hp3 ta3 na3 hD3 k3 hp4 k4
    -- the places that are left
    refine ⟨_, rfl, D, _, rfl, get_size hD5, _, rfl, RgOk.of_le (by decide) (by omega) (by decide) (by omega), fun L hL => ?_⟩
    have s6 := Same.new (o := .lst (rgV 0 z)) (Same.refl H5) hL
    have hL6 : upd H5 L (.lst (rgV 0 z)) L = some (.lst (((List.range z.toNat).map fun j => ((j : Nat) : Int)).map V.int)) := by rw [upd_same, rg_ints]
    have npL := hp5.ne' hL
    have fL : H L = none := free_of k5 hp hL hp5
    have ntL : ta ≠ L := ne_of_none ta5 hL
    have nnL : na ≠ L := ne_of_none na5 hL
    have hp6 := hp5.same s6
    have k6 := k5.same s6
    have hD6 := s6 _ _ hD5
    have ta6 := s6 _ _ ta5
    have na6 := s6 _ _ na5
    have rows6 := rows.same s6
    generalize upd H5 L (.lst (rgV 0 z)) = H6 at hL6 hp6 k6 hD6 ta6 na6 rows6 ⊢
    clear s6 hL hp5 k5 hD5 ta5 na5 rows
    obtain ⟨pl, epl⟩ : ∃ pl : List Int, pl = (List.range z.toNat).map fun j => ((j : Nat) : Int) := ⟨_, rfl⟩
    rw [← epl] at hL6
    have plen : pl.length = z.toNat := by rw [epl, List.length_map, List.length_range]
    have pnd : pl.Nodup := by
      rw [epl]
      unfold List.Nodup
      rw [List.pairwise_map]
      exact List.Pairwise.imp (fun h e => h (by omega)) (List.nodup_range (n := z.toNat))
    have pin : ∀ x ∈ pl, 0 ≤ x ∧ x < z := fun x hx => by
      rw [epl] at hx
      obtain ⟨j, hj, rfl⟩ := List.mem_map.mp hx
      have := List.mem_range.mp hj
      omega
    clear epl
    have dtm : dt.toNat ≤ 11 := by omega
    refine ⟨_, rfl, _, _, rfl, .inl ⟨_, SqL.of hL6, rfl⟩, ?_⟩
    refine ⟨_, rfl, _, rfl, _, _, rfl, rfl, p, n', mn + 1, rfl, hp6, by omega, by omega, by omega, fun dn m7 H7 dn0 dn1 hm7 hp7 k7 => ?_⟩
    refine ⟨_, _, rfl, _, rfl, ?_, ?_, ?_⟩
    · split <;> omega
    · rw [List.length_map]
      split <;> omega
    have jn : (if dn < ((pl.map V.int).length : Int) then dn else ((pl.map V.int).length : Int)).toNat ≤ pl.length ∧ (if dn < ((pl.map V.int).length : Int) then dn else ((pl.map V.int).length : Int)).toNat ≤ dn.toNat := by
      rw [List.length_map]
      constructor <;> split <;> omega
    generalize (if dn < ((pl.map V.int).length : Int) then dn else ((pl.map V.int).length : Int)).toNat = j at jn ⊢
    obtain ⟨j1, j2⟩ := jn
    refine for_range (n := j) (fun i σ H' => ∃ n2 v5 nr ns ls, σ = [some (.ref p), some (.int mz), some (.int mt), some (.int mn), some (.ref D), v5, some (.ref L)] ∧ n2 ≤ n + 70 + 2 * i ∧ Pot H' p n2 ∧ Keep p H H' ∧ H' D = some (.dK (loreK z ta na)) ∧ H' ta = some (.lst tr) ∧ RowsAt H' tr ts ∧
        H' na = some (.lst nr) ∧ Notes H' nr ns ∧ ns.length = i ∧ H' L = some (.lst (ls.map V.int)) ∧ ls.length + i = pl.length ∧ ls.Nodup ∧ (∀ x ∈ ls, x ∈ pl ∧ x ∉ ns.map (·.1)) ∧ (ns.map (·.1)).Nodup ∧ ∀ q ∈ ns, NoteIn q z)
      ⟨m7, _, [], [], pl, rfl, by omega, hp7, k6.trans k7, k7 _ _ npD.symm hD6, k7 _ _ ntp ta6, rows6.keep k7 hp6, k7 _ _ nnp na6, .nil, rfl, k7 _ _ npL.symm hL6, rfl, pnd, fun x hx => ⟨hx, fun h => nomatch h⟩, List.nodup_nil, fun _ h => nomatch h⟩ ?_ ?_
    · rintro i σ H8 hi ⟨n2, v5, nr, ns, ls, rfl, hn2, hp8, k8, hD8, ta8, rows8, na8, nts, lns, hL8, lls, lnd, lin, nnd, nin⟩
      have lpos : 0 < ls.length := by omega
      have lnr := Paired.len nts
      refine ⟨_, rfl, D, _, rfl, get_notes hD8, .inl ⟨rfl, _, SqL.of na8⟩, ?_⟩
      refine ⟨_, rfl, .inl ⟨rfl, _, SqL.of hL8⟩, ?_⟩
      refine ⟨_, rfl, _, rfl, _, _, rfl, .inl ⟨_, SqL.of hL8, rfl⟩, p, n2, _, rfl, hp8, by omega, by rw [List.length_map]; omega, by rw [List.length_map]; omega, fun x n9 H9 x0 x1 hn9 hp9 k9 => ?_⟩
      rw [List.length_map] at x1
      have hL9 := k9 _ _ npL.symm hL8
      obtain ⟨y, hy⟩ : ∃ y, ls[x.toNat]? = some y := ⟨_, List.getElem?_eq_getElem (by omega)⟩
      obtain ⟨e1, e2, e3⟩ := erase_nodup lnd hy
      have ym := List.mem_of_getElem? hy
      refine ⟨L, _, x, x.toNat, .int y, rfl, rfl, hL9, by omega, by omega, ix_in x0 (by rw [List.length_map]; exact x1), by rw [List.getElem?_map, hy] <;> rfl, ?_⟩
      rw [erase_map]
      have hpA : Pot (upd H9 L (.lst ((ls.eraseIdx x.toNat).map V.int))) p n9 := hp9.put npL
      refine ⟨_, rfl, p, n9, rfl, hpA, by omega, fun v nB HB v0 v1 hnB hpB kB => ?_⟩
      refine ⟨by show 2 ≤ sizeLine; decide, fun t ht => ?_⟩
      have sC := Same.new (o := .tup [.int y, .int v]) (Same.refl HB) ht
      have kA : Keep p H (upd H9 L (.lst ((ls.eraseIdx x.toNat).map V.int))) := fun b o nb e => (upd_ne (ne_of_none e fL)).trans ((k8.trans k9) b o nb e)
      have naA : upd H9 L (.lst ((ls.eraseIdx x.toNat).map V.int)) na = some (.lst nr) := (upd_ne nnL).trans (k9 _ _ nnp na8)
      have naC := sC _ _ (kB _ _ nnp naA)
      refine ⟨na, _, _, rfl, rfl, naC, by omega, ?_⟩
      have hDA : upd H9 L (.lst ((ls.eraseIdx x.toNat).map V.int)) D = some (.dK (loreK z ta na)) := by
        have := k9 _ _ npD.symm hD8
        exact (upd_ne (ne_of this hL9 fun z => nomatch z)).trans this
      have hDC := sC _ _ (kB _ _ npD.symm hDA)
      have taC := sC _ _ (kB _ _ ntp ((upd_ne ntL).trans (k9 _ _ ntp ta8)))
      have hLC := sC _ _ (kB _ _ npL.symm (upd_same (H := H9) (a := L) (o := .lst ((ls.eraseIdx x.toNat).map V.int))))
      have rowsC := (((rows8.keep k9 hp8).put hL9).keep kB hpA).same sC
      have ntsC := (((nts.keep k9 hp8).put hL9).keep kB hpA).same sC
      have yin := pin y (lin y ym).1
      refine ⟨nB, _, nr ++ [.ref t], ns ++ [(y, v)], ls.eraseIdx x.toNat, rfl, by omega, (hpB.same sC).put npn, fun b o nb e => (upd_ne (ne_of_none e fna)).trans (((kA.trans kB).same sC) b o nb e), (upd_ne (ne_of hDC naC fun z => nomatch z)).trans hDC, (upd_ne nta).trans taC, rowsC.put naC, upd_same, ?_, by rw [List.length_append, lns] <;> rfl,
        (upd_ne nnL.symm).trans hLC, by omega, e1, fun x' hx' => ⟨(lin x' (erase_mem hx')).1, ?_⟩, ?_, fun q hq => ?_⟩
      · exact Paired.snoc ⟨t, rfl, (upd_ne (ne_of upd_same naC fun z => nomatch z)).trans upd_same⟩ (ntsC.put naC)
      · rw [List.map_append, List.mem_append]
        rintro (h | h)
        · exact (lin x' (erase_mem hx')).2 h
        · have : x' = y := by simpa using h
          rw [this] at hx'
          exact e2 hx'
      · rw [List.map_append, List.nodup_append]
        refine ⟨nnd, by simp, fun a ha b hb => ?_⟩
        have : b = y := by simpa using hb
        rw [this]
        rintro rfl
        exact (lin a ym).2 ha
      · rcases List.mem_append.mp hq with h | h
        · exact nin q h
        · rw [List.mem_singleton.mp h]
          exact ⟨yin.1, yin.2, by show -(10 ^ 60) < v; omega, by show v < 10 ^ 60; omega⟩
    · rintro σ H8 ⟨n2, v5, nr, ns, ls, rfl, hn2, hp8, k8, hD8, ta8, rows8, na8, nts, lns, hL8, lls, lnd, lin, nnd, nin⟩
      have e30 : (100 : Int) ≤ 10 ^ 30 := by decide
      exact ⟨_, rfl, k D ⟨z, ts, ns⟩ n2 H8 ⟨by show 1 ≤ z; omega, by show z ≤ 10 ^ 30; omega, ins, nin⟩ (by show z ≤ mz; omega) (by show (ts.length : Int) ≤ mt; omega) (by show (ns.length : Int) ≤ mn; omega) nnd (by omega) hp8 k8 hD ⟨ta, na, tr, nr, hD8, ta8, na8, ntp, nnp, rows8, nts⟩⟩
end
end TT

set_option maxHeartbeats 4000000
namespace TT
open PySem PySem.Spec PyProof.Rows L2 LamX TL
/-! ### the law's lines and books -/
def sp_l_lines : Sp := fun vs H Q _ => ∃ (p d : Addr) (b : Lore), vs = [.ref d] ∧ LoreAt H p d b ∧ b.Fine ∧ b.ts.length ≤ 1000 ∧ b.ns.length ≤ 1000 ∧ ∀ x H', H x = none → Same H H' → H' x = some (.lst (b.lines.map V.str)) → Q (.ref x) H'
def sp_l_book (Z : Zs) : Sp := fun vs H Q _ => ∃ (p d : Addr) (b : Lore), vs = [.ref d] ∧ LoreAt H p d b ∧ b.Ok ∧ ∀ x H', H x = none → Same H H' → BookAt Z.cC Z.cB H' x b.text b → Q (.ref x) H'
section
variable {P : Program} {w : World} {K : PySem.W.Frag} {mg : Str → Option Value} {base : Heap} {Z : Zs}
theorem ok_l_lines (T : Txt K mg Z) : FnOk P w K mg base CX0 2 Z.f_l_lines Z.d_l_lines ["_law_lore_here"] sp_l_lines := by
  refine T.F_l_lines.ok sc_l_lines (fun vs H Q E h => ?_) (fun cdv A outer s H vs Q E hr h => ?_)
  · obtain ⟨p, d, b, rfl, _⟩ := h
    rfl
  · obtain ⟨p, d, b, rfl, ⟨ta, na, tr, nr, hd⟩, fine, tn, nn, k⟩ := h
    have sl : sizeLine = 16777216 := sizeLine_eq
    have z0 := fine.z0; have z1 := fine.z1
    have lt := Paired.len hd.ts; have ln := Paired.len hd.ns
    have nl := num_len (n := b.z) (by omega) z1
    have l5 : (Str.ofString "size ").length = 5 := by decide
    have l4 : (Str.ofString "tie ").length = 4 := by decide
    have l6 : (Str.ofString "note ").length = 5 := by decide
    have l1 : (Str.ofString " ").length = 1 := by decide
    have e60 : (10 : Int) ^ 30 < 10 ^ 60 := by decide +kernel
    refine ⟨_, (pss_cons (ps_set (i := 1) sc_l_lines.nd rfl (Or.inl rfl) (pe_op op_cat (pe_lst (pa_cons (pe_op op_add_str pe_str (pe_callTy call_str_int (by rfl) T.b_str (by decide +kernel) (pa_cons (pe_dget (hu_of hr) (pv 0) pe_str (fun _ _ => rfl)) pa_nil))) pa_nil)) (pe_lc (own := [("_law_row_here", 2)]) rfl sc_l_lines.nd (pi_list (pe_dget (hu_of hr) (pv 0) pe_str (fun _ _ => rfl))) (blkOk_by (own := [("_law_row_here", 2)]) (N := ["_law_lore_here", "_law_lines_here", "_law_row_here", "_law_place", "_law_note"]) (sc := defScope s_l_lines) (by decide +kernel)) (fun _ _ _ _ _ => (pg_name (i := 2) sc_l_lines.nd rfl (Or.inl rfl))) (fun _ _ _ _ _ => pts_nil) (fun _ _ _ _ _ => (pe_op op_add_str pe_str (pe_call (ok_l_text_of T) (hr.mono (by decide)) rfl T.g_l_text_of T.k_l_text_of T.bn_l_text_of .nil pass0 (pa_cons (pv 2) pa_nil)))))))
      (pss_one (ps_ret (pe_op op_cat (pv 1) (pe_lc (own := [("_law_place", 3), ("_law_note", 4)]) rfl sc_l_lines.nd (pi_list (pe_dget (hu_of hr) (pv 0) pe_str (fun _ _ => rfl))) (blkOk_by (own := [("_law_place", 3), ("_law_note", 4)]) (N := ["_law_lore_here", "_law_lines_here", "_law_row_here", "_law_place", "_law_note"]) (sc := defScope s_l_lines) (by decide +kernel)) (fun _ _ _ _ _ => (show PG _ _ (gTup K 2 _) from (pg_tup rfl (pgs_cons (pg_name (i := 3) sc_l_lines.nd rfl (Or.inl rfl)) (pgs_cons (pg_name (i := 4) sc_l_lines.nd rfl (Or.inl rfl)) pgs_nil))))) (fun _ _ _ _ _ => pts_nil) (fun _ _ _ _ _ => (pe_op op_add_str (pe_op op_add_str (pe_op op_add_str pe_str (pe_callTy call_str_int (by rfl) T.b_str (by decide +kernel) (pa_cons (pv 3) pa_nil))) pe_str) (pe_callTy call_str_int (by rfl) T.b_str (by decide +kernel) (pa_cons (pv 4) pa_nil))))))))), ?_⟩
    refine ⟨_, rfl, d, _, rfl, get_size hd.dic, _, rfl, log_le (by omega) (by omega), _, _, rfl, rfl, by omega, by show 1 ≤ sizeLine; decide, fun l hl => ?_⟩
    have s1 := Same.new (o := .lst [.str (sizeL b.z)]) (Same.refl H) hl
    have atl : upd H l (.lst [.str (sizeL b.z)]) l = some (.lst [.str (sizeL b.z)]) := upd_same
    refine Eq.mp (congrArg _ rfl) ?_
    have d1 := s1 _ _ hd.dic
    have t1 := s1 _ _ hd.ties
    have n1 := s1 _ _ hd.notes
    have r1 := hd.ts.same s1
    have m1 := hd.ns.same s1
    refine ⟨_, rfl, d, _, rfl, get_ties d1, ta, rfl, ⟨_, SqL.of t1⟩, fun G hG => ?_⟩
    refine lc_list (xs := tr) (fun i H' => H' G = some (.lst (((b.ts.take i).map tieL).map V.str)) ∧ Same (upd H l (.lst [.str (sizeL b.z)])) H') ⟨upd_same, Same.new (Same.refl _) hG⟩ (fun i H' _ h => SqL.of (h.2 _ _ t1)) ?_ ?_
    · rintro i x H2 hi ⟨hGi, s2⟩
      refine ⟨rfl, ?_⟩
      unfold tYes
      refine iteT ?_
      obtain ⟨r, hr', q, rfl, hq⟩ := Paired.at r1 hi
      have okr := (fine.ts r (List.mem_of_getElem? hr')).ok
      have il : i < b.ts.length := (List.getElem?_eq_some_iff.mp hr').1
      have rl := row_len okr r.b
      refine ⟨_, rfl, q, r, rfl, s2 _ _ hq, okr, fun H3 s3 => ⟨_, _, rfl, rfl, by omega, _, s3 _ _ hGi, by rw [List.length_map, List.length_map, List.length_take]; omega, ?_, same_put (s2.trans s3) hG⟩⟩
      rw [upd_same, takeN hr', List.map_append]
      rfl
    rintro H2 ⟨hG2, s2⟩
    rw [List.take_of_length_le (by omega)] at hG2
    have lsum : ([V.str (sizeL b.z)] : List V).length + ((b.ts.map tieL).map V.str).length ≤ sizeLine := by
      rw [List.length_map, List.length_map, List.length_singleton]
      omega
    refine ⟨l, G, _, _, rfl, rfl, s2 _ _ atl, hG2, lsum, fun l2 hl2 => ?_⟩
    have s3 := Same.new (o := .lst ([V.str (sizeL b.z)] ++ (b.ts.map tieL).map V.str)) (Same.refl H2) hl2
    have s23 := s2.trans s3
    have n3 := s23 _ _ n1
    have m3 := m1.same s23
    have at3 : upd H2 l2 (.lst ([V.str (sizeL b.z)] ++ (b.ts.map tieL).map V.str)) l2 = some (.lst ([V.str (sizeL b.z)] ++ (b.ts.map tieL).map V.str)) := upd_same
    refine ⟨_, rfl, _, rfl, d, _, rfl, get_notes (s23 _ _ d1), na, rfl, ⟨_, SqL.of n3⟩, fun G2 hG2' => ?_⟩
    refine lc_list (xs := nr) (fun i H' => H' G2 = some (.lst (((b.ns.take i).map noteL).map V.str)) ∧ Same (upd H2 l2 (.lst ([V.str (sizeL b.z)] ++ (b.ts.map tieL).map V.str))) H') ⟨upd_same, Same.new (Same.refl _) hG2'⟩ (fun i H' _ h => SqL.of (h.2 _ _ n3)) ?_ ?_
    · rintro i x H4 hi ⟨hGi, s4⟩
      obtain ⟨q, hq, y, rfl, hy⟩ := Paired.at m3 hi
      have il : i < b.ns.length := (List.getElem?_eq_some_iff.mp hq).1
      have np := fine.ns q (List.mem_of_getElem? hq)
      have p0 := np.p0; have pz := np.pz
      have al := shown_len60 np.lo np.hi
      have pl := num_len p0 (by omega)
      refine ⟨y, _, rfl, SqT.of (s4 _ _ hy), rfl, _, _, rfl, _, _, rfl, rfl, rfl, ?_⟩
      unfold tYes
      refine iteT ?_
      refine ⟨_, rfl, _, rfl, log_le (by omega) (by omega), _, _, rfl, rfl, by omega, _, _, rfl, rfl, by rw [Str.length_append]; omega, _, rfl, _, rfl, log_le np.lo np.hi, _, _, rfl, rfl, ?_, _, hGi, by rw [List.length_map, List.length_map, List.length_take]; omega, ?_, same_put s4 hG2'⟩
      · rw [str_int q.2, Str.length_append, Str.length_append]
        omega
      · rw [upd_same, takeN hq, List.map_append, str_int q.2]
        rfl
    rintro H4 ⟨hG4, s4⟩
    rw [List.take_of_length_le (by omega)] at hG4
    refine ⟨l2, G2, _, _, rfl, rfl, s4 _ _ at3, hG4, ?_, fun x hx => ?_⟩
    · rw [List.length_append, List.length_map, List.length_map, List.length_map, List.length_map, List.length_singleton]
      omega
    · have sN := (s1.trans s23).trans s4
      refine k x _ (L2.Same.free sN hx) (Same.new sN hx) ?_
      rw [upd_same]
      unfold Lore.lines
      rw [List.map_cons, List.map_append]
      rfl
theorem ok_l_book (T : Txt K mg Z) : FnOk P w K mg base CX0 13 Z.f_l_book Z.d_l_book ["_law_lore_here"] (sp_l_book Z) := by
  refine T.F_l_book.ok sc_l_book (fun vs H Q E h => ?_) (fun cdv A outer s H vs Q E hr h => ?_)
  · obtain ⟨p, d, b, rfl, _⟩ := h
    rfl
  · obtain ⟨p, d, b, rfl, hd, ok, k⟩ := h
    have tn := ok.tn; have nn := ok.nn
    have ls := lines_sum ok
    refine ⟨_, (pss_one (ps_ret (pe_make (mkB T) (ok_B_init T) (hr.mono (by decide)) rfl T.g_Bk T.bn_B_init .nil pass0 (pa_cons (pe_join pe_str (pe_call (ok_l_lines T) (hr.mono (by decide)) rfl T.g_l_lines T.k_l_lines T.bn_l_lines .nil pass0 (pa_cons (pv 0) pa_nil))) pa_nil)))), ?_⟩
    refine ⟨⟨_, rfl⟩, _, rfl, p, d, b, rfl, hd, ok.fine, by omega, by omega, fun l H1 nl s1 hl => ?_⟩
    refine ⟨_, l, b.lines, rfl, rfl, .inl (SqL.of hl), by omega, fun x dx nx nd ne => ?_⟩
    exact ⟨x, dx, b, false, rfl, ok, upd_same, fun H' hb kp => ⟨rfl, k x H' (L2.Same.free s1 nx) (s1.trans (made nx nd kp)) hb⟩⟩
end
end TT

set_option Elab.async false
set_option linter.all false
set_option maxRecDepth 100000
set_option maxHeartbeats 4000000
namespace TT
open PySem PySem.Spec PyProof.Rows L2
/-! ### the texts of rows -/
theorem shown_int (i : Int) : (PyData.int i).shown = Str.ofString (toString i) := by simp [PyData.shown]
theorem bool_len (b : Bool) : ((PyData.bool b).shown).length ≤ 5 := by cases b <;> simp [PyData.shown] <;> decide
theorem int_len64 {i : Int} (h0 : -(10 ^ 64) < i) (h1 : i < 10 ^ 64) : (Str.ofString (toString i)).length ≤ 65 := by
  have h := PySem.int_text_length_le10 (a := i) (k := 64) (by decide) (by
    have e : ((10 ^ 64 : Nat) : Int) = 10 ^ 64 := by decide +kernel
    omega)
  rw [PySem.ofString_length]
  omega
theorem int_ok64 {i : Int} (h0 : -(10 ^ 64) < i) (h1 : i < 10 ^ 64) : (PyData.int i).showable = true := by
  have h : i.natAbs.log2 < 1920 := PySem.Flt.log2_lt_of (by decide) (by
    have : (10 : Int) ^ 64 < 2 ^ 1920 := by decide +kernel
    omega)
  simpa [PyData.showable] using h
theorem dat_ok {r : Row} (ok : r.Ok) : r.dat.showable = true ∧ r.dat.hasDict = false ∧ r.dat.depth ≤ 60 ∧ r.dat.shown.length ≤ sizeLine := by
  have e30 : (10 : Int) ^ 30 < 10 ^ 64 := by decide +kernel
  have e60 : (10 : Int) ^ 60 < 10 ^ 64 := by decide +kernel
  have f0 := ok.f0; have s0 := ok.s0; have l0 := ok.l0; have fe := ok.fe; have se := ok.se; have al := ok.al; have ah := ok.ah
  have bf : -(10 ^ 64) < r.f ∧ r.f < 10 ^ 64 := by constructor <;> omega
  have bs : -(10 ^ 64) < r.s ∧ r.s < 10 ^ 64 := by constructor <;> omega
  have bl : -(10 ^ 64) < r.l ∧ r.l < 10 ^ 64 := by constructor <;> omega
  have ba : -(10 ^ 64) < r.a ∧ r.a < 10 ^ 64 := by constructor <;> omega
  refine ⟨?_, ?_, ?_, ?_⟩
  · unfold Row.dat
    rw [PyData.showable]
    simp only [PyData.showableAll, int_ok64 bf.1 bf.2, int_ok64 bs.1 bs.2, int_ok64 bl.1 bl.2, int_ok64 ba.1 ba.2, Bool.true_and, Bool.and_true]
    simp [PyData.showable]
  · simp [Row.dat, PyData.hasDict, PyData.hasDictAll]
  · simp [Row.dat, PyData.depth, PyData.depthAll]
  · unfold Row.dat
    rw [PyData.shown]
    simp only [PyData.shownAll]
    have sl : sizeLine = 16777216 := sizeLine_eq
    have j := join_length_add [(PyData.int r.f).shown, (PyData.int r.s).shown, (PyData.int r.l).shown, (PyData.int r.a).shown, (PyData.bool r.d).shown, (PyData.bool r.b).shown] (by simp)
    have z1 := int_len64 bf.1 bf.2; have z2 := int_len64 bs.1 bs.2; have z3 := int_len64 bl.1 bl.2; have z4 := int_len64 ba.1 ba.2; have z5 := bool_len r.d; have z6 := bool_len r.b
    rw [← shown_int] at z1 z2 z3 z4
    unfold tupleText
    rw [Str.length_append, Str.length_append]
    simp only [piled, List.map_cons, List.map_nil, List.sum_cons, List.sum_nil] at j
    have y1 : (Str.ofString "(").length = 1 := by decide
    have y2 : (Str.ofString ")").length = 1 := by decide
    simp only [List.length_cons, List.length_nil]
    have y3 : (Str.ofString (if (0 + 1 + 1 + 1 + 1 + 1 + 1 == 1) = true then ",)" else ")")).length = 1 := by decide
    omega
theorem Row.dp {K : PySem.W.Frag} {H : Hp} {q : Addr} {r : Row} (h : H q = some (.tup r.vs)) : Dp K H (.ref q) r.dat :=
  .tup (SqT.of h) (.cons (.int _) (.cons (.int _) (.cons (.int _) (.cons (.int _) (.cons (.bl _) (.cons (.bl _) .nil))))))
/-! ### told back -/
end TT


set_option maxHeartbeats 4000000
namespace TT
open PySem PySem.Spec PyProof.Rows L2 LamX
/-! ### six values in a tuple, some of them exchanged -/
section
variable {K : PySem.W.Frag} {H : Hp} {a b : Addr} {xs ys : List V} {Q : VK}
theorem cat_tup (ha : H a = some (.tup xs)) (hb : H b = some (.tup ys)) (sz : xs.length + ys.length ≤ sizeLine) (k : ∀ p H', Same H H' → H' p = some (.tup (xs ++ ys)) → Q (.ref p) H') : rCatA K (.ref a) (.ref b) H Q := by
  refine ⟨a, b, xs, ys, rfl, rfl, SqT.of ha, SqT.of hb, sz, fun c => ?_, fun c d => ?_, fun c d p hp => ?_⟩
  · subst c
    exact k b H (Same.refl H) hb
  · subst d
    exact k a H (Same.refl H) (by rw [List.append_nil]; exact ha)
  · exact k p _ (Same.new (Same.refl H) hp) upd_same
theorem sl_tup {lo hi : Option Int} (ha : H a = some (.tup xs)) (nw : ¬ (HT.sIx xs.length 0 lo = 0 ∧ HT.sIx xs.length xs.length hi = xs.length)) (k : ∀ p H', Same H H' → H' p = some (.tup (cutV xs lo hi)) → Q (.ref p) H') : rSlA K (.ref a) lo hi H Q :=
  ⟨a, xs, rfl, SqT.of ha, fun c => absurd c nw, fun _ p hp => k p _ (Same.new (Same.refl H) hp) upd_same⟩
theorem sl_tupN {σ : L2.St} {lo : Option Int} (ha : H a = some (.tup xs)) (nw : ¬ (HT.sIx xs.length 0 lo = 0 ∧ HT.sIx xs.length xs.length none = xs.length)) (k : ∀ p H', Same H H' → H' p = some (.tup (cutV xs lo none)) → Q (.ref p) H') : tNoPart σ H fun hi H3 => rSlA K (.ref a) lo hi H3 Q := sl_tup ha nw k
end
end TT


set_option maxHeartbeats 4000000
namespace TT
open PySem PySem.Spec PyProof.Rows L2 LamX TL
/-! ### loosely written books, lores made anew -/
theorem ixN_at {n j : Nat} (hj : j < n) : ixN n (j : Int) = some j := by
  unfold ixN
  rw [if_pos (by omega), if_pos (by omega)]
  simp
theorem textF_false (b : Lore) : b.textF false = b.text := rfl
theorem tieF_eq (r : Row) : tieF true r = if r.l = 1 then Str.ofString "tie " ++ rowText r true else tieL r := by
  unfold tieF tieL
  by_cases c : r.l = 1
  · rw [if_pos c, decide_eq_true c]
    rfl
  · rw [if_neg c, decide_eq_false c]
    rfl
/-- a tie of one place, written with back behind it -/
theorem tie_back {r : Row} (ok : r.Ok) (h : r.l = 1) : tieL r ++ Str.ofString " back" = tieF true r := by
  rw [tieF_eq, if_pos h]
  have hb : r.b = false := by
    cases c : r.b with
    | false => rfl
    | true =>
      have := ok.bk c
      omega
  unfold tieL rowText wordsOf
  rw [hb]
  refine ext_tl ?_
  rw [show Txt.join (Str.ofString " ") ([Str.ofString (toString r.f), Str.ofString (toString r.s), Str.ofString (toString r.l), way r.d, shownInt r.a] ++ (if false = true then [Str.ofString "back"] else [])) = _ from join_eq _ _,
    show Txt.join (Str.ofString " ") ([Str.ofString (toString r.f), Str.ofString (toString r.s), Str.ofString (toString r.l), way r.d, shownInt r.a] ++ (if true = true then [Str.ofString "back"] else [])) = _ from join_eq _ _]
  rw [tl_append, tl_append, tl_append, tl_join, tl_join]
  have e1 : tl (Str.ofString " back") = tl (Str.ofString " ") ++ tl (Str.ofString "back") := by decide +kernel
  rw [e1]
  simp [joinL]
theorem row_back_ne {r : Row} (ok : r.Ok) : rowText r true ≠ rowText r false := by
  intro e
  have h1 := split_row ok true
  have h2 := split_row ok false
  rw [e, h2] at h1
  have := congrArg List.length h1
  unfold wordsOf at this
  simp at this
theorem loose_ne {b : Lore} (fine : b.Fine) {r : Row} (hr : r ∈ b.ts) (h : r.l = 1) : b.textF true ≠ b.text := by
  intro e
  have h1 := split_textF (fl := true) fine
  have h2 := split_text fine
  rw [e, h2] at h1
  unfold Lore.lines Lore.linesF at h1
  have h3 := (List.cons.inj h1).2
  have h4 := (List.append_inj h3 (by rw [List.length_map, List.length_map])).1
  have h5 := List.map_inj_left.mp h4 r hr
  have ok := (fine.ts r hr).ok
  have hb : r.b = false := by
    cases c : r.b with
    | false => rfl
    | true =>
      have := ok.bk c
      omega
  rw [tieF_eq, if_pos h] at h5
  unfold tieL at h5
  rw [hb] at h5
  refine row_back_ne ok (ext_tl ?_)
  have h6 := congrArg tl h5
  rw [tl_append, tl_append] at h6
  exact (List.append_cancel_left h6).symm
/-- the lines, back put behind the first i ties -/
def mix (b : Lore) (i : Nat) : List Str := sizeL b.z :: ((b.ts.take i).map (tieF true) ++ ((b.ts.drop i).map tieL ++ b.ns.map noteL))
theorem mix_form {b : Lore} {i : Nat} {r : Row} (h : b.ts[i]? = some r) : ∃ A B, A.length = 1 + i ∧ mix b i = A ++ tieL r :: B ∧ mix b (i + 1) = A ++ tieF true r :: B := by
  have il := (List.getElem?_eq_some_iff.mp h).1
  have er : b.ts[i] = r := (List.getElem?_eq_some_iff.mp h).2
  refine ⟨sizeL b.z :: (b.ts.take i).map (tieF true), (b.ts.drop (i + 1)).map tieL ++ b.ns.map noteL, ?_, ?_, ?_⟩
  · rw [List.length_cons, List.length_map, List.length_take]
    omega
  · unfold mix
    rw [List.drop_eq_getElem_cons il, er, List.map_cons]
    rfl
  · unfold mix
    rw [takeN (f := tieF true) h, List.append_assoc]
    rfl
theorem mix_end (b : Lore) : mix b b.ts.length = b.linesF true := by
  unfold mix Lore.linesF
  rw [List.take_length, List.drop_length]
  rfl
def sp_l_loose : Sp := fun vs H Q _ => ∃ (p d : Addr) (b : Lore), vs = [.ref d] ∧ LoreAt H p d b ∧ b.Ok ∧ ∀ x H', H x = none → Same H H' → H' x = some (.lst ((b.linesF true).map V.str)) → Q (.ref x) H'
/-- a lore of these ties and notes -/
def sp_l_with : Sp := fun vs H Q _ => ∃ (p d ta na : Addr) (b : Lore) (tr nr : List V) (ts : List Row) (ns : List (Int × Int)), vs = [.ref d, .ref ta, .ref na] ∧ LoreAt H p d b ∧ H ta = some (.lst tr) ∧ H na = some (.lst nr) ∧ ta ≠ p ∧ na ≠ p ∧ RowsAt H tr ts ∧ Notes H nr ns ∧
  ∀ x H', H x = none → Same H H' → LoreAt H' p x ⟨b.z, ts, ns⟩ → Q (.ref x) H'
section
variable {P : Program} {w : World} {K : PySem.W.Frag} {mg : Str → Option Value} {base : Heap} {Z : Zs}
theorem ok_l_loose (T : Txt K mg Z) : FnOk P w K mg base CX0 3 Z.f_l_loose Z.d_l_loose ["_law_lore_here"] sp_l_loose := by
  refine T.F_l_loose.ok sc_l_loose (fun vs H Q E h => ?_) (fun cdv A outer s H vs Q E hr h => ?_)
  · obtain ⟨p, d, b, rfl, _⟩ := h
    rfl
  · obtain ⟨p, d, b, rfl, hd, ok, k⟩ := h
    have sl : sizeLine = 16777216 := sizeLine_eq
    have fine := ok.fine
    have tn := ok.tn; have nn := ok.nn
    refine ⟨_, (pss_cons (ps_set (i := 1) sc_l_loose.nd rfl (Or.inl rfl) (pe_call (ok_l_lines T) (hr.mono (by decide)) rfl T.g_l_lines T.k_l_lines T.bn_l_lines .nil pass0 (pa_cons (pv 0) pa_nil)))
      (pss_cons (ps_for PassesOwn.never rfl (pi_enum (by rfl) T.b_enumerate (pa_cons (pe_dget (hu_of hr) (pv 0) pe_str (fun _ _ => rfl)) pa_nil)) (pg_tup rfl (pgs_cons (pg_name (i := 2) sc_l_loose.nd rfl (Or.inl rfl)) (pgs_cons (pg_name (i := 3) sc_l_loose.nd rfl (Or.inl rfl)) pgs_nil))) (pss_one (ps_if (pt_cmpR op_eq (pe_ix ix_tup (pv 3) pe_int (fun _ _ => rfl)) pe_int (nomark _)) (pss_one (ps_asg (pe_op op_add_str (pe_ix ix_list (pv 1) (pe_op op_add pe_int (pv 2)) (fun _ _ => rfl)) pe_str) (pg_sub (pv 1) (pe_op op_add pe_int (pv 2)) set_list))) pss_nil)))
      (pss_one (ps_ret (pv 1))))), ?_⟩
    refine ⟨_, rfl, p, d, b, rfl, hd, fine, by omega, by omega, fun x H1 nx s1 hx => ?_⟩
    obtain ⟨ta, na, tr, nr, I⟩ := id hd
    have lt := Paired.len I.ts
    have nta : ta ≠ x := ne_of_none I.ties nx
    have ta1 := s1 _ _ I.ties
    refine ⟨_, rfl, d, _, rfl, get_ties (s1 _ _ I.dic), ta, _, rfl, SqL.of ta1, ?_⟩
    refine for_it (walk_enum (xs := tr)) (fun i σ H' => ∃ v2 v3, σ = [some (.ref d), some (.ref x), v2, v3] ∧ H' x = some (.lst ((mix b i).map V.str)) ∧ ∀ q o, q ≠ x → H1 q = some o → H' q = some o)
      ⟨_, _, rfl, hx, fun _ _ _ e => e⟩ (fun i σ H' _ ⟨_, _, _, _, s⟩ => SqL.of (s _ _ nta ta1)) ?_ ?_
    · rintro i y0 σ H2 H3 hi ⟨v2, v3, rfl, hx2, s2⟩ ⟨T4, x1, x2, rfl, nT, rfl, e1, e2⟩
      obtain rfl := Option.some.inj e1
      obtain ⟨r, hr', y, rfl, hy⟩ := Paired.at I.ts e2
      have ny : y ≠ x := ne_of_none hy nx
      have hy2 := s2 _ _ ny (s1 _ _ hy)
      have s3 := Same.new (o := .tup [.int (i : Nat), .ref y]) (Same.refl H2) nT
      have hx3 := s3 _ _ hx2
      have hy3 : upd H2 T4 (.tup [.int (i : Nat), .ref y]) y = some (.tup [.int r.f, .int r.s, .int r.l, .int r.a, .bl r.d, .bl r.b]) := s3 _ _ hy2
      have kp : ∀ q o, q ≠ x → H1 q = some o → upd H2 T4 (.tup [.int (i : Nat), .ref y]) q = some o := fun q o n e => s3 _ _ (s2 _ _ n e)
      have hT4 : upd H2 T4 (.tup [.int (i : Nat), .ref y]) T4 = some (.tup [.int (i : Nat), .ref y]) := upd_same
      refine ⟨T4, _, rfl, SqT.of hT4, rfl, _, _, rfl, _, _, rfl, rfl, ?_⟩
      refine ⟨_, rfl, y, _, 2, .int r.l, rfl, rfl, SqT.of hy3, rfl, rfl, _, rfl, ?_⟩
      generalize upd H2 T4 (.tup [.int (i : Nat), .ref y]) = H3 at hx3 kp ⊢
      have okr := (fine.ts r (List.mem_of_getElem? hr')).ok
      obtain ⟨A, B, eA, m1, m2⟩ := mix_form hr'
      refine ite2 (fun c => ?_) (fun c => ?_)
      · have c' : r.l = 1 := V.int.inj (of_decide_eq_true c)
        rw [m1, List.map_append, List.map_cons] at hx3
        have at1 : atI (A.map V.str ++ V.str (tieL r) :: B.map V.str) (1 + ((i : Nat) : Int)) = some (V.str (tieL r)) := by
          rw [show (1 : Int) + ((i : Nat) : Int) = ((1 + i : Nat) : Int) by omega]
          exact atI_nat (by rw [List.getElem?_append_right (by rw [List.length_map]; omega), List.length_map, eA, Nat.sub_self] <;> rfl)
        have ix1 : ixN (A.map V.str ++ V.str (tieL r) :: B.map V.str).length (1 + ((i : Nat) : Int)) = some (1 + i) := by
          rw [show (1 : Int) + ((i : Nat) : Int) = ((1 + i : Nat) : Int) by omega]
          exact ixN_at (by rw [List.length_append, List.length_map, List.length_cons]; omega)
        have tl' := tie_len okr
        have lb : (Str.ofString " back").length = 5 := by decide
        refine ⟨_, rfl, _, rfl, _, _, rfl, rfl, x, _, _, _, rfl, rfl, SqL.of hx3, at1, _, _, rfl, rfl, by omega, ?_⟩
        refine ⟨_, rfl, _, rfl, _, _, rfl, rfl, x, _, _, _, rfl, rfl, hx3, ix1, ?_⟩
        refine ⟨_, _, rfl, ?_, fun q o n e => (upd_ne n).trans (kp q o n e)⟩
        rw [upd_same, m2, ← tie_back okr c', List.map_append, List.map_cons, List.set_append_right _ _ (by rw [List.length_map]; omega), List.length_map, eA, Nat.sub_self]
        rfl
      · have c' : r.l ≠ 1 := fun z => c (decide_eq_true (by rw [z]))
        refine ⟨_, _, rfl, ?_, kp⟩
        rw [hx3, m1, m2, tieF_eq, if_neg c']
    · rintro σ H2 ⟨v2, v3, rfl, hx2, s2⟩
      rw [lt, mix_end] at hx2
      exact ⟨_, rfl, k x H2 nx (fun q o e => s2 _ _ (ne_of_none e nx) (s1 _ _ e)) hx2⟩
theorem ok_l_with (T : Txt K mg Z) : FnOk P w K mg base CX0 1 Z.f_l_with Z.d_l_with ["_law_lore_here", "_law_ties", "_law_notes"] sp_l_with := by
  refine T.F_l_with.ok sc_l_with (fun vs H Q E h => ?_) (fun cdv A outer s H vs Q E hr h => ?_)
  · obtain ⟨p, d, ta, na, b, tr, nr, ts, ns, rfl, _⟩ := h
    rfl
  · obtain ⟨p, d, ta, na, b, tr, nr, ts, ns, rfl, ⟨tb, nb, ur, mr, I⟩, ht, hn, np1, np2, rows, notes, k⟩ := h
    refine ⟨_, (pss_one (ps_ret (pe_disp (pps_cons pe_str (pe_dget (hu_of hr) (pv 0) pe_str (fun _ _ => rfl)) (pps_cons pe_str (pv 1) (pps_cons pe_str (pv 2) pps_nil))) (by rfl) (by rfl) (fun z => by cases z) (by decide)))), ?_⟩
    refine fun D hD => ?_
    have s1 := Same.new (o := .dK []) (Same.refl H) hD
    refine ⟨_, rfl, d, _, rfl, get_size (s1 _ _ I.dic), _, rfl, _, rfl, upd_same, loreK b.z ta na, rfl, by show 3 ≤ 15; decide, ?_⟩
    rw [merge_lore, upd_upd]
    have s2 := Same.new (o := .dK (loreK b.z ta na)) (Same.refl H) hD
    exact k D _ hD s2 ⟨ta, na, tr, nr, upd_same, s2 _ _ ht, s2 _ _ hn, np1, np2, rows.same s2, notes.same s2⟩
end
end TT

set_option maxHeartbeats 4000000
namespace TT
open PySem PySem.Spec PyProof.Rows L2 LamX TL
/-! ### the law's lore turned about, upside down -/
def sp_l_turned : Sp := fun vs H Q _ => ∃ (p d : Addr) (n : Nat) (b : Lore), vs = [.ref d] ∧ Pot H p n ∧ LoreAt H p d b ∧ b.ts.length ≤ 1000 ∧ b.ns.length ≤ 1000 ∧ ∀ x H', H x = none → Same H H' → LoreAt H' p x b.turn → Q (.ref x) H'
def sp_l_upside : Sp := fun vs H Q _ => ∃ (p d : Addr) (n : Nat) (b : Lore), vs = [.ref d] ∧ Pot H p n ∧ LoreAt H p d b ∧ b.ts.length ≤ 1000 ∧ b.ns.length ≤ 1000 ∧ ∀ x H', H x = none → Same H H' → LoreAt H' p x b.up → Q (.ref x) H'
/-- the lore of a book with a tie of one place -/
structure Lore.One (b : Lore) : Prop where
  fine : b.Fine
  z : b.z ≤ 20
  tn : b.ts.length ≤ 5
  nn : b.ns.length ≤ 4
  nd : (b.ns.map (·.1)).Nodup
  one : ∃ r ∈ b.ts, r.l = 1
theorem Lore.One.ok {b : Lore} (h : b.One) : b.Ok := ⟨h.fine, by have := h.tn; omega, by have := h.nn; omega, h.nd⟩
def sp_l_grown : Sp := fun vs H Q _ => ∃ (p : Addr) (n : Nat), vs = [.ref p] ∧ Pot H p n ∧ n + 200 < 1000000 ∧ ∀ (d : Addr) (b : Lore) (n' : Nat) (H' : Hp), b.One → n' ≤ n + 130 → Pot H' p n' → Keep p H H' → LoreAt H' p d b → Q (.ref d) H'
theorem cut_to' {xs : List V} {i : Int} (h0 : 0 ≤ i) (h1 : i.toNat ≤ xs.length) : cutV xs none (some i) = xs.take i.toNat := by
  unfold cutV
  have e1 : HT.sIx xs.length 0 none = 0 := rfl
  have e2 : HT.sIx xs.length xs.length (some i) = i.toNat := by
    show (if i < 0 then (i + (xs.length : Int)).toNat else min i.toNat xs.length) = _
    rw [if_neg (by omega)]
    omega
  rw [e1, e2, List.drop_zero, Nat.sub_zero]
theorem cut_from' {xs : List V} {i : Int} (h0 : 0 ≤ i) (h1 : i.toNat ≤ xs.length) : cutV xs (some i) none = xs.drop i.toNat := by
  unfold cutV
  have e2 : HT.sIx xs.length xs.length none = xs.length := rfl
  have e1 : HT.sIx xs.length 0 (some i) = i.toNat := by
    show (if i < 0 then (i + (xs.length : Int)).toNat else min i.toNat xs.length) = _
    rw [if_neg (by omega)]
    omega
  rw [e1, e2]
  exact List.take_of_length_le (by rw [List.length_drop]; omega)
theorem Paired.take {α β : Type} {F : α → β → Prop} : ∀ {xs : List α} {ys : List β} (i : Nat), Paired F xs ys → Paired F (xs.take i) (ys.take i)
  | _, _, 0, _ => by rw [List.take_zero, List.take_zero]; exact .nil
  | _, _, _ + 1, .nil => .nil
  | _, _, i + 1, .cons r t => .cons r (Paired.take i t)
theorem Paired.drop {α β : Type} {F : α → β → Prop} : ∀ {xs : List α} {ys : List β} (i : Nat), Paired F xs ys → Paired F (xs.drop i) (ys.drop i)
  | _, _, 0, h => h
  | _, _, _ + 1, .nil => .nil
  | _, _, i + 1, .cons _ t => Paired.drop i t
section
variable {P : Program} {w : World} {K : PySem.W.Frag} {mg : Str → Option Value} {base : Heap} {Z : Zs}
theorem ok_l_turned (T : Txt K mg Z) : FnOk P w K mg base CX0 2 Z.f_l_turned Z.d_l_turned ["_law_lore_here"] sp_l_turned := by
  refine T.F_l_turned.ok sc_l_turned (fun vs H Q E h => ?_) (fun cdv A outer s H vs Q E hr h => ?_)
  · obtain ⟨p, d, n, b, rfl, _⟩ := h
    rfl
  · obtain ⟨p, d, n, b, rfl, hp, ⟨ta, na, tr, nr, I⟩, tn, nn, k⟩ := h
    have sl : sizeLine = 16777216 := sizeLine_eq
    have lt := Paired.len I.ts; have ln := Paired.len I.ns
    refine ⟨_, (pss_cons (ps_set (i := 1) sc_l_turned.nd rfl (Or.inr rfl) (pe_dget (hu_of hr) (pv 0) pe_str (fun _ _ => rfl)))
      (pss_cons (ps_setLc (i := 2) (own := [("_law_row_here", 3)]) rfl sc_l_turned.nd rfl rfl (sw_true rfl rfl rfl (by decide +kernel)) (pi_list (pe_dget (hu_of hr) (pv 0) pe_str (fun _ _ => rfl))) (blkOk_by (own := [("_law_row_here", 3)]) (N := ["_law_lore_here", "_law_size", "_law_ties", "_law_row_here", "_law_place", "_law_note"]) (sc := defScope s_l_turned) (by decide +kernel)) (fun _ _ _ _ _ => (pg_name (i := 3) sc_l_turned.nd rfl (Or.inl rfl))) (fun _ _ _ _ _ => pts_nil) (fun _ _ _ _ _ => (pe_op (r := rCatA K) op_catA (pe_tup (pa_cons (pe_op op_sub (pe_op op_sub (pv 1) (pe_ix (r := rIxT K) ix_tup (pv 3) pe_int (fun _ _ => rfl))) (pe_ix (r := rIxT K) ix_tup (pv 3) pe_int (fun _ _ => rfl))) (pa_cons (pe_op op_sub (pe_op op_sub (pv 1) (pe_ix (r := rIxT K) ix_tup (pv 3) pe_int (fun _ _ => rfl))) (pe_ix (r := rIxT K) ix_tup (pv 3) pe_int (fun _ _ => rfl))) pa_nil))) (pe_slice (r := rSlA K) sl_tupA (pv 3) (po_some pe_int) po_none))))
      (pss_one (ps_ret (pe_call (ok_l_with T) (hr.mono (by decide)) rfl T.g_l_with T.k_l_with T.bn_l_with .nil pass0 (pa_cons (pv 0) (pa_cons (pv 2) (pa_cons (pe_lc (own := [("_law_place", 4), ("_law_note", 5)]) rfl sc_l_turned.nd (pi_list (pe_dget (hu_of hr) (pv 0) pe_str (fun _ _ => rfl))) (blkOk_by (own := [("_law_place", 4), ("_law_note", 5)]) (N := ["_law_lore_here", "_law_size", "_law_ties", "_law_row_here", "_law_place", "_law_note"]) (sc := defScope s_l_turned) (by decide +kernel)) (fun _ _ _ _ _ => (show PG _ _ (gTup K 2 _) from (pg_tup rfl (pgs_cons (pg_name (i := 4) sc_l_turned.nd rfl (Or.inl rfl)) (pgs_cons (pg_name (i := 5) sc_l_turned.nd rfl (Or.inl rfl)) pgs_nil))))) (fun _ _ _ _ _ => pts_nil) (fun _ _ _ _ _ => (pe_tup (pa_cons (pe_op op_sub (pe_op op_sub (pv 1) pe_int) (pv 4)) (pa_cons (pv 5) pa_nil))))) pa_nil)))))))), ?_⟩
    refine ⟨_, rfl, d, _, rfl, get_size I.dic, ?_⟩
    refine ⟨_, rfl, d, _, rfl, get_ties I.dic, ta, rfl, ⟨_, SqL.of I.ties⟩, fun D hD => ?_⟩
    refine lc_list (xs := tr) (fun i H' => ∃ l, H' D = some (.lst l) ∧ RowsAt H' l ((b.ts.take i).map (Row.turn · b.z)) ∧ Same H H') ⟨[], upd_same, .nil, Same.new (Same.refl H) hD⟩ (fun i H' _ ⟨_, _, _, s⟩ => SqL.of (s _ _ I.ties)) ?_ ?_
    · rintro i x H1 hi ⟨l, hDi, hl, s1⟩
      refine ⟨rfl, ?_⟩
      unfold tYes
      refine iteT ?_
      obtain ⟨r, hr', q, rfl, hq⟩ := Paired.at I.ts hi
      have ll := Paired.len hl
      rw [List.length_map, List.length_take] at ll
      have il : i < b.ts.length := (List.getElem?_eq_some_iff.mp hr').1
      have hq1 : H1 q = some (.tup [.int r.f, .int r.s, .int r.l, .int r.a, .bl r.d, .bl r.b]) := s1 _ _ hq
      refine ⟨_, rfl, _, rfl, q, _, _, _, rfl, rfl, SqT.of hq1, rfl, _, _, rfl, rfl, _, rfl, q, _, _, _, rfl, rfl, SqT.of hq1, rfl, _, _, rfl, rfl, ?_⟩
      refine ⟨_, rfl, _, rfl, q, _, _, _, rfl, rfl, SqT.of hq1, rfl, _, _, rfl, rfl, _, rfl, q, _, _, _, rfl, rfl, SqT.of hq1, rfl, _, _, rfl, rfl, by show 2 ≤ sizeLine; decide, fun t ht => ?_⟩
      have s2 := Same.new (o := .tup [.int (b.z - r.f - r.l), .int (b.z - r.s - r.l)]) (Same.refl H1) ht
      have at2 : upd H1 t (.tup [.int (b.z - r.f - r.l), .int (b.z - r.s - r.l)]) t = some (.tup [.int (b.z - r.f - r.l), .int (b.z - r.s - r.l)]) := upd_same
      refine ⟨_, rfl, _, rfl, sl_tupN (lo := some 2) (s2 _ _ hq1) (fun c => absurd (show (2 : Nat) = 0 from c.1) (by decide)) fun u H3 s3 hu => ?_⟩
      refine cat_tup (xs := [.int (b.z - r.f - r.l), .int (b.z - r.s - r.l)]) (ys := [.int r.l, .int r.a, .bl r.d, .bl r.b]) (s3 _ _ at2) hu (by show 2 + 4 ≤ sizeLine; decide) fun x H4 s4 hx => ?_
      have s24 := (s2.trans s3).trans s4
      have hD4 := s24 _ _ hDi
      have hx' : RowAt H4 x (r.turn b.z) := hx
      refine ⟨_, hD4, by omega, l ++ [.ref x], upd_same, ?_, same_put (s1.trans s24) hD⟩
      rw [takeN (f := (Row.turn · b.z)) hr']
      exact Paired.snoc ⟨x, rfl, (upd_ne (ne_of hx' hD4 fun z => nomatch z)).trans hx'⟩ ((hl.same s24).put hD4)
    rintro H2 ⟨l, hD2, hl, s2⟩
    rw [List.take_of_length_le (by omega)] at hl
    have fD := hD
    have npD := hp.ne hD
    obtain ⟨H3, e3⟩ : ∃ H3, H3 = H2 := ⟨_, rfl⟩
    have s3 : Same H2 H3 := by rw [e3]; exact Same.refl _
    have na3 := s3 _ _ (s2 _ _ I.notes)
    have d3 := s3 _ _ (s2 _ _ I.dic)
    have ns3 := (I.ns.same s2).same s3
    have D3 := s3 _ _ hD2
    have l3 := hl.same s3
    have hp3 := (hp.same s2).same s3
    rw [← e3]
    clear e3
    refine ⟨_, rfl, _, rfl, _, rfl, d, _, rfl, get_notes d3, na, rfl, ⟨_, SqL.of na3⟩, fun G hG => ?_⟩
    have npG := hp3.ne hG
    refine lc_list (xs := nr) (fun i H' => ∃ l, H' G = some (.lst l) ∧ Notes H' l ((b.ns.take i).map fun q => (b.z - 1 - q.1, q.2)) ∧ Same H3 H') ⟨[], upd_same, .nil, Same.new (Same.refl H3) hG⟩ (fun i H' _ ⟨_, _, _, s⟩ => SqL.of (s _ _ na3)) ?_ ?_
    · rintro i x H4 hi ⟨m, hGi, hm, s4⟩
      obtain ⟨q, hq, y, rfl, hy⟩ := Paired.at ns3 hi
      have mm := Paired.len hm
      rw [List.length_map, List.length_take] at mm
      have il : i < b.ns.length := (List.getElem?_eq_some_iff.mp hq).1
      refine ⟨y, _, rfl, SqT.of (s4 _ _ hy), rfl, _, _, rfl, _, _, rfl, rfl, rfl, ?_⟩
      unfold tYes
      refine iteT ?_
      refine ⟨_, rfl, _, _, rfl, rfl, _, rfl, _, _, rfl, rfl, _, rfl, by show 2 ≤ sizeLine; decide, fun x2 hx2 => ?_⟩
      have s5 := Same.new (o := .tup [.int (b.z - 1 - q.1), .int q.2]) (Same.refl H4) hx2
      have hG4 := s5 _ _ hGi
      refine ⟨_, hG4, by omega, m ++ [.ref x2], upd_same, ?_, same_put (s4.trans s5) hG⟩
      rw [takeN (f := fun q : Int × Int => (b.z - 1 - q.1, q.2)) hq]
      exact Paired.snoc ⟨x2, rfl, (upd_ne (ne_of upd_same hG4 fun z => nomatch z)).trans upd_same⟩ ((hm.same s5).put hG4)
    rintro H4 ⟨m, hG4, hm, s4⟩
    rw [List.take_of_length_le (by omega)] at hm
    have s24 := (s2.trans s3).trans s4
    exact ⟨p, d, D, G, b, l, m, b.ts.map (Row.turn · b.z), _, rfl, LoreAt.same s24 ⟨ta, na, tr, nr, I⟩, s4 _ _ D3, hG4, npD.symm, npG.symm, l3.same s4, hm, fun x H' nx s5 hx => k x H' (L2.Same.free s24 nx) (s24.trans s5) hx⟩
theorem ok_l_upside (T : Txt K mg Z) : FnOk P w K mg base CX0 2 Z.f_l_upside Z.d_l_upside ["_law_lore_here"] sp_l_upside := by
  refine T.F_l_upside.ok sc_l_upside (fun vs H Q E h => ?_) (fun cdv A outer s H vs Q E hr h => ?_)
  · obtain ⟨p, d, n, b, rfl, _⟩ := h
    rfl
  · obtain ⟨p, d, n, b, rfl, hp, ⟨ta, na, tr, nr, I⟩, tn, nn, k⟩ := h
    have sl : sizeLine = 16777216 := sizeLine_eq
    have lt := Paired.len I.ts; have ln := Paired.len I.ns
    refine ⟨_, (pss_cons (ps_setLc (i := 1) (own := [("_law_row_here", 2)]) rfl sc_l_upside.nd rfl rfl (sw_true rfl rfl rfl (by decide +kernel)) (pi_list (pe_dget (hu_of hr) (pv 0) pe_str (fun _ _ => rfl))) (blkOk_by (own := [("_law_row_here", 2)]) (N := ["_law_lore_here", "_law_ties", "_law_row_here", "_law_place", "_law_note"]) (sc := defScope s_l_upside) (by decide +kernel)) (fun _ _ _ _ _ => (pg_name (i := 2) sc_l_upside.nd rfl (Or.inl rfl))) (fun _ _ _ _ _ => pts_nil) (fun _ _ _ _ _ => (pe_op (r := rCatA K) op_catA (pe_op (r := rCatA K) op_catA (pe_slice (r := rSlA K) sl_tupA (pv 2) po_none (po_some pe_int)) (pe_tup (pa_cons (pe_un un_neg (pe_ix (r := rIxT K) ix_tup (pv 2) pe_int (fun _ _ => rfl))) pa_nil))) (pe_slice (r := rSlA K) sl_tupA (pv 2) (po_some pe_int) po_none))))
      (pss_one (ps_ret (pe_call (ok_l_with T) (hr.mono (by decide)) rfl T.g_l_with T.k_l_with T.bn_l_with .nil pass0 (pa_cons (pv 0) (pa_cons (pv 1) (pa_cons (pe_lc (own := [("_law_place", 3), ("_law_note", 4)]) rfl sc_l_upside.nd (pi_list (pe_dget (hu_of hr) (pv 0) pe_str (fun _ _ => rfl))) (blkOk_by (own := [("_law_place", 3), ("_law_note", 4)]) (N := ["_law_lore_here", "_law_ties", "_law_row_here", "_law_place", "_law_note"]) (sc := defScope s_l_upside) (by decide +kernel)) (fun _ _ _ _ _ => (show PG _ _ (gTup K 2 _) from (pg_tup rfl (pgs_cons (pg_name (i := 3) sc_l_upside.nd rfl (Or.inl rfl)) (pgs_cons (pg_name (i := 4) sc_l_upside.nd rfl (Or.inl rfl)) pgs_nil))))) (fun _ _ _ _ _ => pts_nil) (fun _ _ _ _ _ => (pe_tup (pa_cons (pv 3) (pa_cons (pe_un un_neg (pv 4)) pa_nil))))) pa_nil))))))), ?_⟩
    refine ⟨_, rfl, d, _, rfl, get_ties I.dic, ta, rfl, ⟨_, SqL.of I.ties⟩, fun D hD => ?_⟩
    refine lc_list (xs := tr) (fun i H' => ∃ l, H' D = some (.lst l) ∧ RowsAt H' l ((b.ts.take i).map Row.up) ∧ Same H H') ⟨[], upd_same, .nil, Same.new (Same.refl H) hD⟩ (fun i H' _ ⟨_, _, _, s⟩ => SqL.of (s _ _ I.ties)) ?_ ?_
    · rintro i x H1 hi ⟨l, hDi, hl, s1⟩
      refine ⟨rfl, ?_⟩
      unfold tYes
      refine iteT ?_
      obtain ⟨r, hr', q, rfl, hq⟩ := Paired.at I.ts hi
      have ll := Paired.len hl
      rw [List.length_map, List.length_take] at ll
      have il : i < b.ts.length := (List.getElem?_eq_some_iff.mp hr').1
      have hq1 : H1 q = some (.tup [.int r.f, .int r.s, .int r.l, .int r.a, .bl r.d, .bl r.b]) := s1 _ _ hq
      refine ⟨_, rfl, _, rfl, sl_tup hq1 (fun c => absurd (show (3 : Nat) = 6 from c.2) (by decide)) fun u1 H2 s2 hu1 => ?_⟩
      have hq2 := s2 _ _ hq1
      refine ⟨_, rfl, q, _, _, _, rfl, rfl, SqT.of hq2, rfl, _, rfl, by show 1 ≤ sizeLine; decide, fun u2 hu2 => ?_⟩
      have s3 := Same.new (o := .tup [.int (-r.a)]) (Same.refl H2) hu2
      refine cat_tup (xs := [.int r.f, .int r.s, .int r.l]) (s3 _ _ hu1) upd_same (by show 3 + 1 ≤ sizeLine; decide) fun u3 H4 s4 hu3 => ⟨_, rfl, _, rfl, sl_tupN (lo := some 4) (s4 _ _ (s3 _ _ hq2)) (fun c => absurd (show (4 : Nat) = 0 from c.1) (by decide)) fun u4 H5 s5 hu4 => ?_⟩
      refine cat_tup (ys := [.bl r.d, .bl r.b]) (s5 _ _ hu3) hu4 (by show 4 + 2 ≤ sizeLine; decide) fun x H6 s6 hx => ?_
      have s26 := (((s2.trans s3).trans s4).trans s5).trans s6
      have hD4 := s26 _ _ hDi
      have hx' : RowAt H6 x r.up := hx
      refine ⟨_, hD4, by omega, l ++ [.ref x], upd_same, ?_, same_put (s1.trans s26) hD⟩
      rw [takeN (f := Row.up) hr']
      exact Paired.snoc ⟨x, rfl, (upd_ne (ne_of hx' hD4 fun z => nomatch z)).trans hx'⟩ ((hl.same s26).put hD4)
    rintro H2 ⟨l, hD2, hl, s2⟩
    rw [List.take_of_length_le (by omega)] at hl
    have npD := hp.ne hD
    obtain ⟨H3, e3⟩ : ∃ H3, H3 = H2 := ⟨_, rfl⟩
    have s3 : Same H2 H3 := by rw [e3]; exact Same.refl _
    have na3 := s3 _ _ (s2 _ _ I.notes)
    have d3 := s3 _ _ (s2 _ _ I.dic)
    have ns3 := (I.ns.same s2).same s3
    have D3 := s3 _ _ hD2
    have l3 := hl.same s3
    have hp3 := (hp.same s2).same s3
    rw [← e3]
    clear e3
    refine ⟨_, rfl, _, rfl, _, rfl, d, _, rfl, get_notes d3, na, rfl, ⟨_, SqL.of na3⟩, fun G hG => ?_⟩
    have npG := hp3.ne hG
    refine lc_list (xs := nr) (fun i H' => ∃ l, H' G = some (.lst l) ∧ Notes H' l ((b.ns.take i).map fun q => (q.1, -q.2)) ∧ Same H3 H') ⟨[], upd_same, .nil, Same.new (Same.refl H3) hG⟩ (fun i H' _ ⟨_, _, _, s⟩ => SqL.of (s _ _ na3)) ?_ ?_
    · rintro i x H4 hi ⟨m, hGi, hm, s4⟩
      obtain ⟨q, hq, y, rfl, hy⟩ := Paired.at ns3 hi
      have mm := Paired.len hm
      rw [List.length_map, List.length_take] at mm
      have il : i < b.ns.length := (List.getElem?_eq_some_iff.mp hq).1
      refine ⟨y, _, rfl, SqT.of (s4 _ _ hy), rfl, _, _, rfl, _, _, rfl, rfl, rfl, ?_⟩
      unfold tYes
      refine iteT ?_
      refine ⟨_, rfl, _, rfl, _, rfl, by show 2 ≤ sizeLine; decide, fun x2 hx2 => ?_⟩
      have s5 := Same.new (o := .tup [.int q.1, .int (-q.2)]) (Same.refl H4) hx2
      have hG4 := s5 _ _ hGi
      refine ⟨_, hG4, by omega, m ++ [.ref x2], upd_same, ?_, same_put (s4.trans s5) hG⟩
      rw [takeN (f := fun q : Int × Int => (q.1, -q.2)) hq]
      exact Paired.snoc ⟨x2, rfl, (upd_ne (ne_of upd_same hG4 fun z => nomatch z)).trans upd_same⟩ ((hm.same s5).put hG4)
    rintro H4 ⟨m, hG4, hm, s4⟩
    rw [List.take_of_length_le (by omega)] at hm
    have s24 := (s2.trans s3).trans s4
    exact ⟨p, d, D, G, b, l, m, b.ts.map Row.up, _, rfl, LoreAt.same s24 ⟨ta, na, tr, nr, I⟩, s4 _ _ D3, hG4, npD.symm, npG.symm, l3.same s4, hm, fun x H' nx s5 hx => k x H' (L2.Same.free s24 nx) (s24.trans s5) hx⟩
theorem ok_l_grown (T : Txt K mg Z) : FnOk P w K mg base CX0 6 Z.f_l_grown Z.d_l_grown ["_law_pot_here"] sp_l_grown := by
  refine T.F_l_grown.ok sc_l_grown (fun vs H Q E h => ?_) (fun cdv A outer s H vs Q E hr h => ?_)
  · obtain ⟨p, n, rfl, _⟩ := h
    rfl
  · obtain ⟨p, n, rfl, hp, hn, k⟩ := h
    have sl : sizeLine = 16777216 := sizeLine_eq
    have e36 : (10 : Int) ^ 36 < 10 ^ 60 := by decide +kernel
    have e30 : (100 : Int) < 10 ^ 30 := by decide +kernel
    refine ⟨_, (pss_cons (ps_set (i := 1) sc_l_grown.nd rfl (Or.inl rfl) (pe_call (ok_l_lore T) (hr.mono (by decide)) rfl T.g_l_lore T.k_l_lore T.bn_l_lore .nil pass0 (pa_cons (pv 0) (pa_cons pe_int (pa_cons pe_int (pa_cons pe_int pa_nil))))))
      (pss_cons (ps_par3 (i := 2) (j := 3) (l := 4) rfl sc_l_grown.nd rfl rfl rfl (by decide) (by decide) (by decide) rfl rfl rfl (pa_cons (pe_call (ok_l_take T) (hr.mono (by decide)) rfl T.g_l_take T.k_l_take T.bn_l_take .nil pass0 (pa_cons (pv 0) (pa_cons (pe_dget (hu_of hr) (pv 1) pe_str (fun _ _ => rfl)) pa_nil))) (pa_cons (pe_call (ok_l_take T) (hr.mono (by decide)) rfl T.g_l_take T.k_l_take T.bn_l_take .nil pass0 (pa_cons (pv 0) (pa_cons (pe_dget (hu_of hr) (pv 1) pe_str (fun _ _ => rfl)) pa_nil))) (pa_cons (pe_callB  call_len (by rfl) T.b_len (by decide +kernel) (pa_cons (pe_dget (hu_of hr) (pv 1) pe_str (fun _ _ => rfl)) pa_nil)) pa_nil))) (by rfl))
      (pss_cons (ps_set (i := 5) sc_l_grown.nd rfl (Or.inl rfl) (pe_tup (pa_cons (pv 2) (pa_cons (pv 3) (pa_cons pe_int (pa_cons (pe_call (ok_l_amount T) (hr.mono (by decide)) rfl T.g_l_amount T.k_l_amount T.bn_l_amount .nil pass0 (pa_cons (pv 0) pa_nil)) (pa_cons (pe_cmpR op_eq (pe_call (ok_l_take T) (hr.mono (by decide)) rfl T.g_l_take T.k_l_take T.bn_l_take .nil pass0 (pa_cons (pv 0) (pa_cons pe_int pa_nil))) pe_int (nomark _)) (pa_cons pe_bl pa_nil))))))))
      (pss_cons (ps_set (i := 6) sc_l_grown.nd rfl (Or.inl rfl) (pe_call (ok_l_take T) (hr.mono (by decide)) rfl T.g_l_take T.k_l_take T.bn_l_take .nil pass0 (pa_cons (pv 0) (pa_cons (pe_op op_add (pv 4) pe_int) pa_nil))))
      (pss_one (ps_ret (pe_call (ok_l_with T) (hr.mono (by decide)) rfl T.g_l_with T.k_l_with T.bn_l_with .nil pass0 (pa_cons (pv 1) (pa_cons (pe_op op_cat (pe_op op_cat (pe_slice sl_list (pe_dget (hu_of hr) (pv 1) pe_str (fun _ _ => rfl)) po_none (po_some (pv 6))) (pe_lst (pa_cons (pv 5) pa_nil))) (pe_slice sl_list (pe_dget (hu_of hr) (pv 1) pe_str (fun _ _ => rfl)) (po_some (pv 6)) po_none)) (pa_cons (pe_dget (hu_of hr) (pv 1) pe_str (fun _ _ => rfl)) pa_nil)))))))))), ?_⟩
    refine ⟨_, rfl, p, n, 20, 4, 4, rfl, hp, by omega, by decide, by decide, by decide, by decide, by decide, by decide, fun d b n1 H1 f1 bz bt bn nd hn1 hp1 k1 nD L1 => ?_⟩
    have z0 := f1.z0
    obtain ⟨ta, na, tr, nr, I1⟩ := id L1
    refine ⟨_, rfl, _, rfl, d, _, rfl, get_size I1.dic, p, n1, b.z, rfl, hp1, by omega, by omega, by omega, fun x1 n2 H2 a0 a1 hn2 hp2 k2 => ?_⟩
    have I2d := (k2 _ _ (hp1.off I1.dic fun _ z => nomatch z) I1.dic)
    refine ⟨_, rfl, _, rfl, d, _, rfl, get_size I2d, p, n2, b.z, rfl, hp2, by omega, by omega, by omega, fun x2 n3 H3 b0 b1 hn3 hp3 k3 => ?_⟩
    have k13 := k2.trans k3
    obtain ⟨tb, nb, tr2, nr2, I3⟩ := L1.keep k13 hp1
    have lt3 := Paired.len I3.ts
    refine ⟨_, rfl, d, _, rfl, get_ties I3.dic, _, _, rfl, .inl ⟨_, SqL.of I3.ties, rfl⟩, ?_⟩
    refine ⟨_, _, _, rfl, ?_⟩
    refine ⟨_, rfl, _, rfl, _, rfl, p, n3, rfl, hp3, by omega, fun am n4 H4 c0 c1 hn4 hp4 k4 => ?_⟩
    refine ⟨_, rfl, p, n4, 2, rfl, hp4, by omega, by decide, by decide, fun x5 n5 H5 _ _ hn5 hp5 k5 => ⟨rfl, ?_⟩⟩
    refine ⟨by show 6 ≤ sizeLine; decide, fun q hq => ?_⟩
    obtain ⟨dn, hdn⟩ : ∃ dn, dn = decide (V.int x5 = V.int 0) := ⟨_, rfl⟩
    rw [← hdn]
    have s6 := Same.new (o := .tup [.int x1, .int x2, .int 1, .int am, .bl dn, .bl false]) (Same.refl H5) hq
    have hq6 : upd H5 q (.tup [.int x1, .int x2, .int 1, .int am, .bl dn, .bl false]) q = some (.tup [.int x1, .int x2, .int 1, .int am, .bl dn, .bl false]) := upd_same
    generalize upd H5 q (.tup [.int x1, .int x2, .int 1, .int am, .bl dn, .bl false]) = H6 at s6 hq6 ⊢
    have hp6 := hp5.same s6
    refine ⟨_, rfl, _, rfl, _, _, rfl, rfl, p, n5, _, rfl, hp6, by omega, by omega, by omega, fun at' n7 H7 t0 t1 hn7 hp7 k7 => ?_⟩
    have kp : Keep p H H7 := ((((k1.trans k13).trans k4).trans k5).same s6).trans k7
    have L7 : LoreAt H7 p d b := ((((L1.keep k13 hp1).keep k4 hp3).keep k5 hp4).same s6).keep k7 hp6
    have row7 : RowAt H7 q ⟨x1, x2, 1, am, dn, false⟩ := k7.row hp6 hq6
    obtain ⟨tc, nc, tr7, nr7, I7⟩ := id L7
    have lt7 := Paired.len I7.ts
    have ta7 : at'.toNat ≤ tr7.length := by omega
    -- the ties, one more among them
    refine ⟨_, rfl, _, rfl, d, _, rfl, get_ties I7.dic, _, rfl, _, rfl, tc, _, rfl, SqL.of I7.ties, fun u1 hu1 => ?_⟩
    rw [cut_to' t0 ta7]
    have s8 := Same.new (o := .lst (tr7.take at'.toNat)) (Same.refl H7) hu1
    have at8 : upd H7 u1 (.lst (tr7.take at'.toNat)) u1 = some (.lst (tr7.take at'.toNat)) := upd_same
    generalize upd H7 u1 (.lst (tr7.take at'.toNat)) = H8 at s8 at8 ⊢
    refine ⟨_, rfl, by show 1 ≤ sizeLine; decide, fun u2 hu2 => ?_⟩
    have s9 := Same.new (o := .lst [.ref q]) (Same.refl H8) hu2
    have at9 : upd H8 u2 (.lst [.ref q]) u2 = some (.lst [.ref q]) := upd_same
    generalize upd H8 u2 (.lst [.ref q]) = H9 at s9 at9 ⊢
    have ll := List.length_take_le at'.toNat tr7
    refine ⟨u1, u2, _, _, rfl, rfl, s9 _ _ at8, at9, by rw [List.length_singleton]; omega, fun u3 hu3 => ?_⟩
    have sA := Same.new (o := .lst (tr7.take at'.toNat ++ [.ref q])) (Same.refl H9) hu3
    have atA : upd H9 u3 (.lst (tr7.take at'.toNat ++ [.ref q])) u3 = some (.lst (tr7.take at'.toNat ++ [.ref q])) := upd_same
    generalize upd H9 u3 (.lst (tr7.take at'.toNat ++ [.ref q])) = HA at sA atA ⊢
    have s7A := (s8.trans s9).trans sA
    refine ⟨_, rfl, d, _, rfl, get_ties (s7A _ _ I7.dic), _, rfl, _, rfl, tc, _, rfl, SqL.of (s7A _ _ I7.ties), fun u4 hu4 => ?_⟩
    rw [cut_from' t0 ta7]
    have sB := Same.new (o := .lst (tr7.drop at'.toNat)) (Same.refl HA) hu4
    have atB : upd HA u4 (.lst (tr7.drop at'.toNat)) u4 = some (.lst (tr7.drop at'.toNat)) := upd_same
    generalize upd HA u4 (.lst (tr7.drop at'.toNat)) = HB at sB atB ⊢
    have s7B := s7A.trans sB
    refine ⟨u3, u4, _, _, rfl, rfl, sB _ _ atA, atB, by rw [List.length_append, List.length_singleton, List.length_drop]; omega, fun u5 hu5 => ?_⟩
    have npu := (hp7.same s7B).ne' hu5
    have sC := Same.new (o := .lst (tr7.take at'.toNat ++ [.ref q] ++ tr7.drop at'.toNat)) (Same.refl HB) hu5
    have atC : upd HB u5 (.lst (tr7.take at'.toNat ++ [.ref q] ++ tr7.drop at'.toNat)) u5 = some (.lst (tr7.take at'.toNat ++ [.ref q] ++ tr7.drop at'.toNat)) := upd_same
    generalize upd HB u5 (.lst (tr7.take at'.toNat ++ [.ref q] ++ tr7.drop at'.toNat)) = HC at sC atC ⊢
    have s7C := s7B.trans sC
    refine ⟨_, rfl, d, _, rfl, get_notes (s7C _ _ I7.dic), ?_⟩
    have rows : RowsAt HC (tr7.take at'.toNat ++ [.ref q] ++ tr7.drop at'.toNat) (b.ts.take at'.toNat ++ [⟨x1, x2, 1, am, dn, false⟩] ++ b.ts.drop at'.toNat) :=
      Paired.app (Paired.drop _ (I7.ts.same s7C)) (Paired.snoc ⟨q, rfl, s7C _ _ row7⟩ (Paired.take _ (I7.ts.same s7C)))
    refine ⟨p, d, u5, nc, b, _, nr7, _, b.ns, rfl, L7.same s7C, atC, s7C _ _ I7.notes, npu.symm, I7.np, rows, I7.ns.same s7C, fun x H' nx s' hx => ?_⟩
    have sE := s7C.trans s'
    refine k x ⟨b.z, b.ts.take at'.toNat ++ [⟨x1, x2, 1, am, dn, false⟩] ++ b.ts.drop at'.toNat, b.ns⟩ n7 H' ⟨⟨f1.z0, f1.z1, fun r hr => ?_, f1.ns⟩, by show b.z ≤ 20; omega, ?_, by show b.ns.length ≤ 4; omega, nd, ⟨⟨x1, x2, 1, am, dn, false⟩, ?_, rfl⟩⟩ (by omega) (hp7.same sE) (kp.same sE) hx
    · rcases List.mem_append.mp hr with hr | hr
      · rcases List.mem_append.mp hr with hr | hr
        · exact f1.ts r (List.mem_of_mem_take hr)
        · rw [List.mem_singleton.mp hr]
          exact ⟨⟨a0, b0, Int.le_refl _, by show x1 + 1 ≤ 10 ^ 30; omega, by show x2 + 1 ≤ 10 ^ 30; omega, by show -(10 ^ 60) < am; omega, by show am < 10 ^ 60; omega, fun h => nomatch h⟩, by show x1 + 1 ≤ b.z; omega, by show x2 + 1 ≤ b.z; omega⟩
      · exact f1.ts r (List.mem_of_mem_drop hr)
    · show (b.ts.take at'.toNat ++ [_] ++ b.ts.drop at'.toNat).length ≤ 5
      rw [List.length_append, List.length_append, List.length_take, List.length_drop, List.length_singleton]
      omega
    · exact List.mem_append_left _ (List.mem_append_right _ (List.mem_singleton.mpr rfl))
end
end TT

set_option maxHeartbeats 4000000
namespace TT
open PySem PySem.Spec PyProof.Rows L2 LamX TL
/-! ### ties and notes put in, ties taken out -/
theorem bfs_none (t : Str) (z : Int) (ta na : Addr) {g : Str} (h1 : ¬ g = "notes") (h2 : ¬ g = "ties") (h3 : ¬ g = "size") (h4 : ¬ g = "text") : (bfs t z ta na).lookup g = none := by
  rw [bfs_lookup, if_neg h1, if_neg h2, if_neg h3, if_neg h4]
theorem LoreIs.same {H H' : Hp} {p d ta na : Addr} {b : Lore} {tr nr : List V} (h : LoreIs H p d b ta na tr nr) (s : Same H H') : LoreIs H' p d b ta na tr nr :=
  ⟨s _ _ h.dic, s _ _ h.ties, s _ _ h.notes, h.tp, h.np, h.ts.same s, h.ns.same s⟩
theorem Ties.keep {C : Addr} {H H' : Hp} {p : Addr} {n : Nat} (k : Keep p H H') (hp : Pot H p n) {xs : List V} {ts : List Row} (h : Ties C H xs ts) : Ties C H' xs ts :=
  Paired.imp (fun _ _ ⟨q, e, dx, t⟩ => ⟨q, e, dx, k _ _ (hp.off t fun _ z => nomatch z) t⟩) h
theorem BookAt.keep {C B : Addr} {H H' : Hp} {p : Addr} {n : Nat} (k : Keep p H H') (hp : Pot H p n) {q : Addr} {t : Str} {b : Lore} (h : BookAt C B H q t b) : BookAt C B H' q t b := by
  obtain ⟨dx, ta, na, tr, nr, h⟩ := h
  obtain ⟨o, h1, h2⟩ := h.notes
  exact ⟨dx, ta, na, tr, nr, k _ _ (hp.off h.ins fun _ z => nomatch z) h.ins, k _ _ (hp.off h.ties fun _ z => nomatch z) h.ties, ⟨o, k _ _ (hp.off h1 fun _ z => nomatch z) h1, h2⟩, h.ts.keep k hp, h.ns.keep k hp⟩
theorem ints_dps {K : PySem.W.Frag} {H : Hp} (ls : List Int) : DpAll K H (ls.map V.int) (ls.map PyData.int) := by
  induction ls with
  | nil => exact .nil
  | cons a t ih => exact .cons (.int a) ih
theorem ints_shaped (ls : List Int) : SeqAt.shaped (.list (ls.map PyData.int)) = true := by
  have h : PyData.canLayAll0 (ls.map PyData.int) = true ∧ PyData.depthAll (ls.map PyData.int) = 0 := by
    induction ls with
    | nil => simp [PyData.canLayAll0, PyData.depthAll]
    | cons a t ih =>
      obtain ⟨h1, h2⟩ := ih
      rw [List.map_cons, PyData.canLayAll0, PyData.depthAll, h1, h2]
      simp [PyData.canLay0, PyData.depth]
  unfold SeqAt.shaped
  rw [PyData.canLay0, h.1, PyData.depth, decide_eq_true (by omega)] <;> rfl
theorem ints_eqv (ls : List Int) : PyData.eqv (.list (ls.map PyData.int)) (.list []) = ls.isEmpty := by
  cases ls <;> simp [PyData.eqv, PyData.eqvAll]
/-- what stands -/
structure W70 (Z : Zs) (p : Addr) (n : Nat) (H0 H : Hp) (d x : Addr) (b : Lore) (t : Str) : Prop where
  hp : Pot H p n
  kp : Keep p H0 H
  l : LoreAt H p d b
  k : BookAt Z.cC Z.cB H x t b
theorem W70.same {Z : Zs} {p : Addr} {n : Nat} {H0 H H' : Hp} {d x : Addr} {b : Lore} {t : Str} (h : W70 Z p n H0 H d x b t) (s : Same H H') : W70 Z p n H0 H' d x b t := ⟨h.hp.same s, h.kp.same s, h.l.same s, h.k.same s⟩
theorem W70.keep {Z : Zs} {p : Addr} {n m : Nat} {H0 H H' : Hp} {d x : Addr} {b : Lore} {t : Str} (h : W70 Z p n H0 H d x b t) (s : Keep p H H') (hp : Pot H' p m) : W70 Z p m H0 H' d x b t := ⟨hp, h.kp.trans s, h.l.keep s h.hp, h.k.keep s h.hp⟩
def sp_are_more (Z : Zs) : Sp := fun vs H Q _ => ∃ (p d x : Addr) (n : Nat) (b : Lore) (t : Str), vs = [.ref p, .ref d, .ref x] ∧ W70 Z p n H H d x b t ∧ n + 100 < 1000000 ∧ b.One ∧ ∀ n' H', n' ≤ n + 20 → W70 Z p n' H H' d x b t → Q (.bl true) H'
section
variable {P : Program} {w : World} {K : PySem.W.Frag} {mg : Str → Option Value} {base : Heap} {Z : Zs}
/-- == of two books that tell the same -/
theorem eq_books {E : XK} {H : Hp} {x y : Addr} {t u : Str} {b c : Lore} {Q : VK} (h1 : BookAt Z.cC Z.cB H x t b) (h2 : BookAt Z.cC Z.cB H y u c) (e : t = u) (k : Q (.bl true) H) : rEqO Z.cB (sp_B_eq Z) E (.ref x) (.ref y) H Q := by
  obtain ⟨dx, ta, na, tr, nr, q1⟩ := id h1
  obtain ⟨dy, tc, nc, tr', nr', q2⟩ := id h2
  refine ⟨x, _, _, rfl, q1.ins, .ins q2.ins, x, y, _, _, _, _, rfl, h1, h2, ⟨_, rfl⟩, ?_⟩
  rw [decide_eq_true e]
  exact k
theorem ok_l_are_more_right (T : Txt K mg Z) : FnOk P w K mg base CX0 16 Z.f_l_are_more_right Z.d_l_are_more_right ["_law_pot_here", "_law_lore_here", "_law_loose_here"] (sp_are_more Z) := by
  refine T.F_l_are_more_right.ok sc_l_are_more_right (fun vs H Q E h => ?_) (fun cdv A outer s H vs Q E hr h => ?_)
  · obtain ⟨p, d, x, n, b, t, rfl, _⟩ := h
    rfl
  · obtain ⟨p, d, x, n, b, t, rfl, W0, hn, one, k⟩ := h
    have sl : sizeLine = 16777216 := sizeLine_eq
    have e36 : (10 : Int) ^ 36 < 10 ^ 60 := by decide +kernel
    have okb := one.ok
    have z0 := one.fine.z0; have z1 := one.z
    have tn := one.tn; have nn := one.nn
    have Bn : ∀ {g : Str} {u v : Addr}, ¬ g = "notes" → ¬ g = "ties" → ¬ g = "size" → ¬ g = "text" → (bfs t b.z u v).lookup g = none := fun h1 h2 h3 h4 => bfs_none t b.z _ _ h1 h2 h3 h4
    refine ⟨_, (pss_cons (ps_par (i := 3) (j := 4) (by rfl) sc_l_are_more_right.nd rfl rfl (by decide) rfl rfl (pa_cons (pe_call (ok_l_row T) (hr.mono (by decide)) rfl T.g_l_row T.k_l_row T.bn_l_row .nil pass0 (pa_cons (pv 0) (pa_cons (pe_dget (hu_of hr) (pv 1) pe_str (fun _ _ => rfl)) pa_nil))) (pa_cons (pe_listRg rfl rfl T.b_list (prg_1 rfl T.b_range (pe_dget (hu_of hr) (pv 1) pe_str (fun _ _ => rfl)))) pa_nil)) (by rfl))
      (pss_cons (ps_if (pt_not (pt_cmpR (op_eqO (E := E0) (ok_B_eq T) (hr.mono (by decide)) T.bn_B_eq pass0 T.z_notTB T.a_B_eq T.i_B_eq) (pe_meth (pv 2) T.clB ⟨T.a_B_with_tie, T.i_B_with_tie, T.k_B_with_tie⟩ (ok_B_with_tie T) (hr.mono (by decide)) T.bn_B_with_tie .nil passF (pa_cons (pe_call (ok_l_tie T) (hr.mono (by decide)) rfl T.g_l_tie T.k_l_tie T.bn_l_tie .nil pass0 (pa_cons (pv 3) pa_nil)) pa_nil)) (pe_call (ok_l_book T) (hr.mono (by decide)) rfl T.g_l_book T.k_l_book T.bn_l_book .nil pass0 (pa_cons (pe_call (ok_l_with T) (hr.mono (by decide)) rfl T.g_l_with T.k_l_with T.bn_l_with .nil pass0 (pa_cons (pv 1) (pa_cons (pe_op op_cat (pe_dget (hu_of hr) (pv 1) pe_str (fun _ _ => rfl)) (pe_lst (pa_cons (pv 3) pa_nil))) (pa_cons (pe_dget (hu_of hr) (pv 1) pe_str (fun _ _ => rfl)) pa_nil)))) pa_nil)) (nomark _))) (pss_one (ps_ret pe_bl)) pss_nil)
      (pss_cons (ps_for PassesOwn.never rfl (pi_range1 rfl T.b_range (pa_cons (pe_callB  call_len (by rfl) T.b_len (by decide +kernel) (pa_cons (pe_dget (hu_of hr) (pv 1) pe_str (fun _ _ => rfl)) pa_nil)) pa_nil)) (pg_name (i := 5) sc_l_are_more_right.nd rfl (Or.inl rfl)) (pss_cons (ps_set (i := 6) sc_l_are_more_right.nd rfl (Or.inl rfl) (pe_op op_cat (pe_slice sl_list (pe_dget (hu_of hr) (pv 1) pe_str (fun _ _ => rfl)) po_none (po_some (pv 5))) (pe_slice sl_list (pe_dget (hu_of hr) (pv 1) pe_str (fun _ _ => rfl)) (po_some (pe_op op_add (pv 5) pe_int)) po_none)))
      (pss_one (ps_if (pt_not (pt_cmpR (op_eqO (E := E0) (ok_B_eq T) (hr.mono (by decide)) T.bn_B_eq pass0 T.z_notTB T.a_B_eq T.i_B_eq) (pe_meth (pv 2) T.clB ⟨T.a_B_without, T.i_B_without, T.k_B_without⟩ (ok_B_without T) (hr.mono (by decide)) T.bn_B_without .nil passF (pa_cons (pv 5) pa_nil)) (pe_call (ok_l_book T) (hr.mono (by decide)) rfl T.g_l_book T.k_l_book T.bn_l_book .nil pass0 (pa_cons (pe_call (ok_l_with T) (hr.mono (by decide)) rfl T.g_l_with T.k_l_with T.bn_l_with .nil pass0 (pa_cons (pv 1) (pa_cons (pv 6) (pa_cons (pe_dget (hu_of hr) (pv 1) pe_str (fun _ _ => rfl)) pa_nil)))) pa_nil)) (nomark _))) (pss_one (ps_ret pe_bl)) pss_nil))))
      (pss_cons (ps_setLc (i := 4) (own := [("_law_place", 7)]) rfl sc_l_are_more_right.nd rfl rfl (sw_true rfl rfl rfl (by decide +kernel)) (pi_list (pv 4)) (blkOk_by (own := [("_law_place", 7)]) (N := ["_law_pot_here", "_law_lore_here", "_law_loose_here", "_law_row_here", "_law_left", "_law_at", "_law_ties", "_law_place", "_law_note", "_law_due", "_law_one"]) (sc := defScope s_l_are_more_right) (by decide +kernel)) (fun _ _ _ _ _ => (pg_name (i := 7) sc_l_are_more_right.nd rfl (Or.inl rfl))) (fun _ _ _ _ _ => (pts_one (pt_cmpR (r := rIn K true) op_notIn_seq (pv 7) (pe_lc (own := [("_law_one", 10), ("_law_note", 8)]) rfl sc_l_are_more_right.nd (show PI _ _ _ (iList K _) from (pi_list (pe_dget (hu_of hr) (pv 1) pe_str (fun _ _ => rfl)))) (blkOk_by (own := [("_law_one", 10), ("_law_note", 8)]) (N := ["_law_pot_here", "_law_lore_here", "_law_loose_here", "_law_row_here", "_law_left", "_law_at", "_law_ties", "_law_place", "_law_note", "_law_due", "_law_one"]) (sc := _) (by first | decide +kernel | kernel_rfl)) (fun _ _ _ _ _ => (show PG _ _ (gTup K 2 _) from (pg_tup rfl (pgs_cons (pg_name (i := 10) sc_l_are_more_right.nd rfl (Or.inl rfl)) (pgs_cons (pg_name (i := 8) sc_l_are_more_right.nd rfl (Or.inl rfl)) pgs_nil))))) (fun _ _ _ _ _ => pts_nil) (fun _ _ _ _ _ => (pv 10))) (by with_unfolding_all rfl)))) (fun _ _ _ _ _ => (pv 7)))
      (pss_cons (ps_if (pt_cmpR (op_eqD (by exact hr.units)) (pv 4) (pe_lst pa_nil) (nomark _)) (pss_one (ps_ret pe_bl)) pss_nil)
      (pss_cons (ps_par (i := 7) (j := 8) (by rfl) sc_l_are_more_right.nd rfl rfl (by decide) rfl rfl (pa_cons (pe_call (ok_l_of T) (hr.mono (by decide)) rfl T.g_l_of T.k_l_of T.bn_l_of .nil pass0 (pa_cons (pv 0) (pa_cons (pv 4) pa_nil))) (pa_cons (pe_call (ok_l_amount T) (hr.mono (by decide)) rfl T.g_l_amount T.k_l_amount T.bn_l_amount .nil pass0 (pa_cons (pv 0) pa_nil)) pa_nil)) (by rfl))
      (pss_cons (ps_set (i := 9) sc_l_are_more_right.nd rfl (Or.inl rfl) (pe_call (ok_l_with T) (hr.mono (by decide)) rfl T.g_l_with T.k_l_with T.bn_l_with .nil pass0 (pa_cons (pv 1) (pa_cons (pe_dget (hu_of hr) (pv 1) pe_str (fun _ _ => rfl)) (pa_cons (pe_op op_cat (pe_dget (hu_of hr) (pv 1) pe_str (fun _ _ => rfl)) (pe_lst (pa_cons (pe_tup (pa_cons (pv 7) (pa_cons (pv 8) pa_nil))) pa_nil))) pa_nil)))))
      (pss_one (ps_ret (pe_cmpR (op_eqO (E := E0) (ok_B_eq T) (hr.mono (by decide)) T.bn_B_eq pass0 T.z_notTB T.a_B_eq T.i_B_eq) (pe_meth (pv 2) T.clB ⟨T.a_B_with_note, T.i_B_with_note, T.k_B_with_note⟩ (ok_B_with_note T) (hr.mono (by decide)) T.bn_B_with_note .nil passF (pa_cons (pv 7) (pa_cons (pv 8) pa_nil))) (pe_call (ok_l_book T) (hr.mono (by decide)) rfl T.g_l_book T.k_l_book T.bn_l_book .nil pass0 (pa_cons (pv 9) pa_nil)) (nomark _))))))))))), ?_⟩
    obtain ⟨ta, na, tr, nr, I0⟩ := id W0.l
    refine ⟨_, rfl, _, rfl, d, _, rfl, get_size I0.dic, p, n, b.z, rfl, W0.hp, by omega, by omega, by omega, fun r q n1 H1 ok fz sz lo hi' hn1 hp1 k1 hq nq => ?_⟩
    have W1 := W0.keep k1 hp1
    clear I0
    obtain ⟨ta, na, tr, nr, I1⟩ := id W1.l
    refine ⟨_, rfl, d, _, rfl, get_size I1.dic, _, rfl, RgOk.of_le (by decide) (by omega) (by decide) (by omega), fun L hL => ?_⟩
    have s2 := Same.new (o := .lst (rgV 0 b.z)) (Same.refl H1) hL
    have hL2 : upd H1 L (.lst (rgV 0 b.z)) L = some (.lst (rgV 0 b.z)) := upd_same
    generalize upd H1 L (.lst (rgV 0 b.z)) = H2 at s2 hL2 ⊢
    have W2 := W1.same s2
    have hq2 : RowAt H2 q r := s2 _ _ hq
    have I2 := I1.same s2
    clear W1 I1 hp1 k1
    refine ⟨_, _, rfl, ?_⟩
    -- one tie more
    have inr : r.In b.z := ⟨ok, fz, sz⟩
    have okw : (b.wt r).Ok := ⟨one.fine.wt inr, by show (b.ts ++ [r]).length ≤ 12; rw [List.length_append]; simp; omega, okb.nn, okb.nd⟩
    obtain ⟨_, _, _, _, _, q2⟩ := id W2.k
    refine ⟨_, rfl, x, _, _, rfl, q2.ins, Bn (by decide +kernel) (by decide +kernel) (by decide +kernel) (by decide +kernel), ?_⟩
    refine ⟨_, rfl, q, r, rfl, hq2, ok, fun tt HA nt sA ht => ?_⟩
    refine ⟨x, _, b, .ref tt, rfl, W2.k.same sA, okb, .inl ⟨tt, r, rfl, ht, ok, .inr ⟨inr, .inl ⟨okw.tn, okw.nn, fun x3 HB nx3 sB K3 => ?_⟩⟩⟩⟩
    have sAB := sA.trans sB
    have lt := Paired.len I2.ts
    refine ⟨_, rfl, _, rfl, d, _, rfl, get_ties (sAB _ _ I2.dic), ?_⟩
    refine ⟨_, rfl, by show 1 ≤ sizeLine; decide, fun u1 hu1 => ?_⟩
    have sC := Same.new (o := .lst [.ref q]) (Same.refl HB) hu1
    have atC : upd HB u1 (.lst [.ref q]) u1 = some (.lst [.ref q]) := upd_same
    generalize upd HB u1 (.lst [.ref q]) = HC at sC atC ⊢
    have sAC := sAB.trans sC
    refine ⟨ta, u1, _, _, rfl, rfl, sAC _ _ I2.ties, atC, by rw [List.length_singleton]; omega, fun u2 hu2 => ?_⟩
    have sD := Same.new (o := .lst (tr ++ [.ref q])) (Same.refl HC) hu2
    have atD : upd HC u2 (.lst (tr ++ [.ref q])) u2 = some (.lst (tr ++ [.ref q])) := upd_same
    have npu := ((W2.hp.same sAC).ne' hu2).symm
    generalize upd HC u2 (.lst (tr ++ [.ref q])) = HD at sD atD ⊢
    have sAD := sAC.trans sD
    have I3 := I2.same sAD
    refine ⟨_, rfl, d, _, rfl, get_notes I3.dic, ?_⟩
    refine ⟨p, d, u2, na, b, _, nr, _, b.ns, rfl, W2.l.same sAD, atD, I3.notes, npu, I3.np, Paired.snoc ⟨q, rfl, sAD _ _ hq2⟩ I3.ts, I3.ns, fun y HE ny sE hy => ?_⟩
    refine ⟨p, y, b.wt r, rfl, hy, okw, fun v HF nv sF hv => ?_⟩
    refine eq_books ((((K3.same sC).same sD).same sE).same sF) hv rfl ⟨true, rfl, iteF ?_⟩
    have s2F := (sAD.trans sE).trans sF
    have W3 := W2.same s2F
    have hL3 := s2F _ _ hL2
    have I4 := I2.same s2F
    clear I3 atC atD sC sD sA sB sAB sAC sAD K3 hy hv q2
    -- ties taken out
    refine ⟨_, rfl, d, _, rfl, get_ties I4.dic, _, _, rfl, .inl ⟨_, SqL.of I4.ties, rfl⟩, _, rfl, by omega, by omega, ?_⟩
    refine for_range (n := tr.length) (fun i σ H' => ∃ v5 v6, σ = [some (.ref p), some (.ref d), some (.ref x), some (.ref q), some (.ref L), v5, v6, none, none, none, none] ∧ W70 Z p n1 H H' d x b t ∧ H' L = some (.lst (rgV 0 b.z))) ⟨_, _, rfl, W3, hL3⟩ ?_ ?_
    · rintro i σ H8 hi ⟨v5, v6, rfl, W8, hL8⟩
      obtain ⟨ta, na, tr', nr', I8⟩ := id W8.l
      have lt8 := Paired.len I8.ts
      refine ⟨_, rfl, d, _, rfl, get_ties I8.dic, _, rfl, _, rfl, ta, _, rfl, SqL.of I8.ties, fun l1 hl1 => ?_⟩
      rw [cut_to' (by omega) (by omega)]
      have s2 := (Same.new (o := .lst (tr'.take (0 + (i : Int)).toNat)) (Same.refl H8) hl1)
      have at2 : upd H8 l1 (.lst (tr'.take (0 + (i : Int)).toNat)) l1 = some (.lst (tr'.take i)) := by rw [upd_same, show (0 + (i : Int)).toNat = i by omega]
      generalize upd H8 l1 (.lst (tr'.take (0 + (i : Int)).toNat)) = HA at s2 at2 ⊢
      refine ⟨_, rfl, d, _, rfl, get_ties (s2 _ _ I8.dic), ?_⟩
      refine ⟨_, rfl, _, _, rfl, rfl, _, rfl, ta, _, rfl, SqL.of (s2 _ _ I8.ties), fun l2 hl2 => ?_⟩
      rw [cut_from' (by omega) (by omega)]
      have sx := Same.new (o := .lst (tr'.drop (0 + (i : Int) + 1).toNat)) (Same.refl HA) hl2
      have s3 := s2.trans sx
      have at3 : upd HA l2 (.lst (tr'.drop (0 + (i : Int) + 1).toNat)) l2 = some (.lst (tr'.drop (i + 1))) := by rw [upd_same, show (0 + (i : Int) + 1).toNat = i + 1 by omega]
      have at2 := sx _ _ at2
      generalize upd HA l2 (.lst (tr'.drop (0 + (i : Int) + 1).toNat)) = HB at s3 at2 at3 ⊢
      clear sx
      refine ⟨l1, l2, _, _, rfl, rfl, at2, at3, by rw [List.length_take, List.length_drop]; omega, fun l3 hl3 => ?_⟩
      have sx := Same.new (o := .lst (tr'.take i ++ tr'.drop (i + 1))) (Same.refl HB) hl3
      have s4 := s3.trans sx
      have at4 : upd HB l3 (.lst (tr'.take i ++ tr'.drop (i + 1))) l3 = some (.lst (tr'.take i ++ tr'.drop (i + 1))) := upd_same
      have npl : l3 ≠ p := ((W8.hp.same s3).ne' hl3).symm
      generalize upd HB l3 (.lst (tr'.take i ++ tr'.drop (i + 1))) = HC at s4 at4 ⊢
      clear sx
      have W9 := W8.same s4
      obtain ⟨_, _, _, _, _, q5⟩ := id W9.k
      have e0 : (0 : Int) + (i : Int) = (i : Int) := Int.zero_add _
      refine ⟨_, rfl, x, _, _, rfl, q5.ins, Bn (by decide +kernel) (by decide +kernel) (by decide +kernel) (by decide +kernel), _, rfl, x, _, b, .int (0 + (i : Int)), some (0 + (i : Int)), rfl, W9.k, okb, .int _, .inl ⟨i, by rw [e0], by omega, fun x3 HJ nx3 sJ K3 => ?_⟩⟩
      have sJ4 := s4.trans sJ
      have I9 := I8.same sJ4
      refine ⟨_, rfl, _, rfl, _, rfl, d, _, rfl, get_notes I9.dic, ?_⟩
      have rows : RowsAt HJ (tr'.take i ++ tr'.drop (i + 1)) (b.wo i).ts := by
        show RowsAt HJ _ (b.ts.eraseIdx i)
        rw [List.eraseIdx_eq_take_drop_succ]
        exact Paired.app (Paired.drop (i + 1) I9.ts) (Paired.take i I9.ts)
      refine ⟨p, d, l3, na, b, _, nr', _, b.ns, rfl, W9.l.same sJ, sJ _ _ at4, I9.notes, npl, I9.np, rows, I9.ns, fun y HE ny sE hy => ?_⟩
      refine ⟨p, y, b.wo i, rfl, hy, okb.wo i, fun x4 HK nx4 sK K4 => eq_books ((K3.same sE).same sK) K4 rfl ⟨true, rfl, iteF ?_⟩⟩
      have sF := (sJ4.trans sE).trans sK
      exact ⟨_, _, rfl, W8.same sF, sF _ _ hL8⟩
    rintro σ H8 ⟨v5, v6, rfl, W8, hL8⟩
    clear W3 I4 hL3 s2F W2 I2 hL2 s2 W0
    -- the places that are left
    obtain ⟨ta, na, tr2, nr2, I8⟩ := id W8.l
    have lt2 := Paired.len I8.ts; have ln2 := Paired.len I8.ns
    refine ⟨_, rfl, L, rfl, ⟨_, SqL.of hL8⟩, fun D hD => ?_⟩
    refine lc_list (xs := rgV 0 b.z) (fun i H' => ∃ ls : List Int, H' D = some (.lst (ls.map V.int)) ∧ ls.length ≤ i ∧ (∀ x ∈ ls, 0 ≤ x ∧ x < b.z ∧ x ∉ b.ns.map (·.1)) ∧ Same H8 H') ⟨[], upd_same, Nat.le_refl _, (fun _ h => nomatch h), Same.new (Same.refl H8) hD⟩ (fun i H' _ ⟨_, _, _, _, s⟩ => SqL.of (s _ _ hL8)) ?_ ?_
    · rintro i y HA hi ⟨ls, hDA, hl, hls, sA⟩
      refine ⟨rfl, ?_⟩
      obtain ⟨z, rfl, za, zb⟩ := rg_mem (List.mem_of_getElem? hi)
      have il : i < b.z.toNat := by
        have := (List.getElem?_eq_some_iff.mp hi).1
        rw [rg_ints, List.length_map, List.length_map, List.length_range] at this
        exact this
      have nA := sA _ _ I8.notes
      refine ⟨_, rfl, _, rfl, d, _, rfl, get_notes (sA _ _ I8.dic), na, rfl, ⟨_, SqL.of nA⟩, fun G hG => ?_⟩
      refine lc_list (xs := nr2) (fun j H' => H' G = some (.lst ((b.ns.map fun q => V.int q.1).take j)) ∧ Same HA H') ⟨upd_same, Same.new (Same.refl HA) hG⟩ (fun j H' _ h => SqL.of (h.2 _ _ nA)) ?_ ?_
      · rintro j y HB hj ⟨hGB, sB⟩
        obtain ⟨q', hq', y', rfl, hy'⟩ := Paired.at I8.ns hj
        have jl := (List.getElem?_eq_some_iff.mp hq').1
        refine ⟨y', _, rfl, SqT.of (sB _ _ (sA _ _ hy')), rfl, _, _, rfl, _, _, rfl, rfl, rfl, ?_⟩
        unfold tYes
        refine iteT ⟨_, rfl, _, hGB, ?_, ?_, same_put sB hG⟩
        · have := List.length_take_le j (b.ns.map fun q => V.int q.1)
          omega
        · rw [upd_same, take_snoc (x := V.int q'.1) (by rw [List.getElem?_map, hq'] <;> rfl)]
      · rintro HB ⟨hGB, sB⟩
        rw [List.take_of_length_le (by rw [List.length_map]; omega)] at hGB
        refine ⟨G, _, rfl, .inl (SqL.of hGB), rfl, firsts_flat _, _, rfl, ?_⟩
        rw [in_firsts]
        have hDB := sB _ _ hDA
        by_cases c : z ∈ b.ns.map (·.1)
        · rw [decide_eq_true c]
          exact iteF ⟨ls, hDB, by omega, hls, sA.trans sB⟩
        · rw [decide_eq_false c]
          refine iteT ⟨_, rfl, _, hDB, by rw [List.length_map]; omega, ls ++ [z], by rw [upd_same, List.map_append] <;> rfl, by rw [List.length_append]; simp; omega, fun x' hx' => ?_, same_put (sA.trans sB) hD⟩
          rcases List.mem_append.mp hx' with hx' | hx'
          · exact hls x' hx'
          · rw [List.mem_singleton.mp hx']
            exact ⟨za, zb, c⟩
    rintro H9 ⟨ls, hD9, hl, hls, s9⟩
    have W9 := W8.same s9
    refine ⟨_, rfl, by show 0 ≤ sizeLine; exact Nat.zero_le _, fun e he => ?_⟩
    have sE := Same.new (o := .lst []) (Same.refl H9) he
    have atE : upd H9 e (.lst []) e = some (.lst []) := upd_same
    generalize upd H9 e (.lst []) = HE at sE atE ⊢
    have WE := W9.same sE
    have hDE := sE _ _ hD9
    refine ⟨.list (ls.map PyData.int), .list [], .lst (SqL.of hDE) (ints_dps ls), .lst (SqL.of atE) .nil, ints_shaped ls, by decide +kernel, _, rfl, ?_⟩
    rw [ints_eqv]
    have zz : b.z.toNat ≤ 20 := by omega
    have lr : (rgV 0 b.z).length = b.z.toNat := by rw [rg_ints, List.length_map, List.length_map, List.length_range]
    cases ls with
    | nil => exact iteT (k n1 HE (by omega) WE)
    | cons l0 lt0 =>
      refine iteF ?_
      have npD : D ≠ p := (W8.hp.ne' hD).symm
      refine ⟨_, rfl, _, rfl, p, D, n1, _, rfl, WE.hp, by omega, hDE, npD, by rw [List.length_map, List.length_cons]; omega, by rw [List.length_map]; omega, fun v n2 HF hv hn2 hpF kF => ?_⟩
      obtain ⟨pl, hpl, rfl⟩ := List.mem_map.mp hv
      obtain ⟨p0, p1, np⟩ := hls pl hpl
      have WF := WE.keep kF hpF
      refine ⟨_, rfl, p, n2, rfl, WF.hp, by omega, fun am n3 HG a0 a1 hn3 hpG kG => ?_⟩
      have WG := WF.keep kG hpG
      obtain ⟨tg, ng, trg, nrg, IG⟩ := id WG.l
      have lng := Paired.len IG.ns
      refine ⟨_, _, rfl, ?_⟩
      refine ⟨_, rfl, _, rfl, d, _, rfl, get_ties IG.dic, ?_⟩
      refine ⟨_, rfl, d, _, rfl, get_notes IG.dic, ?_⟩
      refine ⟨_, rfl, _, rfl, by show 2 ≤ sizeLine; decide, fun q1 hq1 => ?_⟩
      have s1 := Same.new (o := .tup [.int pl, .int am]) (Same.refl HG) hq1
      have at1 : upd HG q1 (.tup [.int pl, .int am]) q1 = some (.tup [.int pl, .int am]) := upd_same
      generalize upd HG q1 (.tup [.int pl, .int am]) = HH at s1 at1 ⊢
      refine ⟨by show 1 ≤ sizeLine; decide, fun u1 hu1 => ?_⟩
      have s2 := Same.new (o := .lst [.ref q1]) (Same.refl HH) hu1
      have at2 : upd HH u1 (.lst [.ref q1]) u1 = some (.lst [.ref q1]) := upd_same
      have at1 := s2 _ _ at1
      generalize upd HH u1 (.lst [.ref q1]) = HI at s2 at2 at1 ⊢
      have s12 := s1.trans s2
      refine ⟨ng, u1, _, _, rfl, rfl, s12 _ _ IG.notes, at2, by rw [List.length_singleton]; omega, fun u2 hu2 => ?_⟩
      have s3 := Same.new (o := .lst (nrg ++ [.ref q1])) (Same.refl HI) hu2
      have at3 : upd HI u2 (.lst (nrg ++ [.ref q1])) u2 = some (.lst (nrg ++ [.ref q1])) := upd_same
      have at1 := s3 _ _ at1
      have npu := ((WG.hp.same s12).ne' hu2).symm
      generalize upd HI u2 (.lst (nrg ++ [.ref q1])) = HJ at s3 at3 at1 ⊢
      have s13 := s12.trans s3
      have IJ := IG.same s13
      have okn : (b.wn pl am).Ok := ⟨one.fine.wn ⟨p0, p1, by show -(10 ^ 60) < am; omega, by show am < 10 ^ 60; omega⟩, okb.tn, by show (b.ns ++ [(pl, am)]).length ≤ 12; rw [List.length_append]; simp; omega, Lore.nd_wn okb.nd np⟩
      refine ⟨p, d, tg, u2, b, trg, _, b.ts, _, rfl, WG.l.same s13, IJ.ties, at3, IJ.tp, npu, IJ.ts, Paired.snoc (b := (pl, am)) ⟨q1, rfl, at1⟩ IJ.ns, fun y HK ny sK hy => ?_⟩
      have WK := (WG.same s13).same sK
      obtain ⟨_, _, _, _, _, qK⟩ := id WK.k
      refine ⟨_, rfl, x, _, _, rfl, qK.ins, Bn (by decide +kernel) (by decide +kernel) (by decide +kernel) (by decide +kernel), _, rfl, _, rfl, x, _, b, .int pl, .int am, _, _, rfl, WK.k, okb, .int _, fun H' s => .int _, .inr ⟨pl, rfl, p0, p1, np, .inr ⟨am, rfl, by omega, by omega, .inl ⟨okn.tn, okn.nn, fun x3 HL nx3 sL K3 => ?_⟩⟩⟩⟩
      refine ⟨_, rfl, p, y, b.wn pl am, rfl, hy.same sL, okn, fun v HM nv sM hv' => ?_⟩
      refine eq_books (K3.same sM) hv' rfl ?_
      exact k n3 HM (by omega) ((WK.same sL).same sM)
end
end TT

set_option maxHeartbeats 4000000
namespace TT
open PySem PySem.Spec PyProof.Rows L2 LamX TL
theorem Lore.hasT_self (b : Lore) {r : Row} (h : r ∈ b.ts) : b.hasT r = true := List.any_eq_true.mpr ⟨r, h, eqB_iff.mpr rfl⟩
theorem Lore.hasN_self (b : Lore) {q : Int × Int} (h : q ∈ b.ns) : b.hasN q = true := List.any_eq_true.mpr ⟨q, h, eqN_iff.mpr rfl⟩
theorem filter_out {α : Type} {f : α → Bool} {l : List α} (h : ∀ x ∈ l, f x = true) : l.filter (fun x => !f x) = [] := List.filter_eq_nil_iff.mpr fun x hx => by rw [h x hx] <;> simp
theorem Lore.or_self (b : Lore) : b.or b = b := by
  obtain ⟨z, ts, ns⟩ := b
  unfold Lore.or
  have e1 := filter_out (f := (⟨z, ts, ns⟩ : Lore).hasT) (l := ts) fun x hx => Lore.hasT_self ⟨z, ts, ns⟩ hx
  have e2 := filter_out (f := (⟨z, ts, ns⟩ : Lore).hasN) (l := ns) fun x hx => Lore.hasN_self ⟨z, ts, ns⟩ hx
  show Lore.mk z (ts ++ ts.filter _) (ns ++ ns.filter _) = _
  rw [e1, e2, List.append_nil, List.append_nil]
theorem nd_same : ∀ {ns : List (Int × Int)} {p q : Int × Int}, (ns.map (·.1)).Nodup → p ∈ ns → q ∈ ns → p.1 = q.1 → p = q
  | [], _, _, _, h, _, _ => nomatch h
  | a :: t, p, q, nd, hp, hq, e => by
    obtain ⟨n1, n2⟩ := List.nodup_cons.mp nd
    rcases List.mem_cons.mp hp with e1 | hp' <;> rcases List.mem_cons.mp hq with e2 | hq'
    · rw [e1, e2]
    · exact absurd (List.mem_map.mpr ⟨q, hq', by rw [← e, e1]⟩) n1
    · exact absurd (List.mem_map.mpr ⟨p, hp', by rw [e, e2]⟩) n1
    · exact nd_same n2 hp' hq' e
theorem Lore.off_self {b : Lore} (nd : (b.ns.map (·.1)).Nodup) : ∀ q ∈ b.ns, b.off q = false := fun q hq => by
  obtain ⟨m, hm⟩ := tells_some (List.mem_map.mpr ⟨q, hq, rfl⟩)
  have := nd_same nd (tells_mem hm) hq rfl
  unfold Lore.off
  rw [hm, ← this]
  simp
theorem RowsAt.dps {K : PySem.W.Frag} {H : Hp} : ∀ {tr : List V} {ts : List Row}, RowsAt H tr ts → DpAll K H tr (ts.map Row.dat)
  | _, _, .nil => .nil
  | _, _, .cons ⟨q, e, h⟩ t => by
    subst e
    exact .cons (Row.dp h) (RowsAt.dps t)
theorem rowD_shaped (r : Row) : SeqAt.shaped r.dat = true := by
  unfold Row.dat
  simp [SeqAt.shaped, PyData.canLay0, PyData.canLayAll0, PyData.depth, PyData.depthAll]
theorem rowDs_lay (ts : List Row) : PyData.canLayAll0 (ts.map Row.dat) = true ∧ PyData.depthAll (ts.map Row.dat) ≤ 1 := by
  induction ts with
  | nil => simp [PyData.canLayAll0, PyData.depthAll]
  | cons a t ih =>
    obtain ⟨h1, h2⟩ := ih
    rw [List.map_cons, PyData.canLayAll0, PyData.depthAll, h1]
    refine ⟨by unfold Row.dat; simp [PyData.canLay0, PyData.canLayAll0], ?_⟩
    have : (Row.dat a).depth ≤ 1 := by unfold Row.dat; simp [PyData.depth, PyData.depthAll]
    omega
theorem list_shaped {ds : List PyData} (h : PyData.canLayAll0 ds = true ∧ PyData.depthAll ds ≤ 1) : SeqAt.shaped (.list ds) = true := by
  obtain ⟨h1, h2⟩ := h
  unfold SeqAt.shaped
  rw [PyData.canLay0, h1, PyData.depth, decide_eq_true (by omega)] <;> rfl
theorem any_rows (ts : List Row) (q : Row) : (ts.map Row.dat).any (fun z => PyData.eqv z (Row.dat q)) = ts.any fun t => eqB t q := by
  rw [List.any_map]
  rfl
theorem add_ns (b d : Lore) : b.ns ++ (d.ns.map fun q => (q.1 + b.z, q.2)) = (b.add d).ns := by
  show _ = b.ns ++ d.ns.map fun q => (b.z + q.1, q.2)
  congr 1
  exact List.map_congr_left fun q _ => by rw [Int.add_comm]
end TT

set_option maxHeartbeats 4000000
namespace TT
open PySem PySem.Spec PyProof.Rows L2 LamX TL
/-! ### books joined -/
def loreK2 (z : Int) (ta : Addr) : List (Key × V) := [(Sum.inr "size", .int z), (Sum.inr "ties", .ref ta)]
theorem merge_lore2 (z : Int) (ta : Addr) : mergeK [] (loreK2 z ta) = loreK2 z ta := by
  unfold mergeK loreK2 putK
  have h1 : ¬ (Str.ofString "size" = Str.ofString "ties") := by decide +kernel
  simp [h1]
theorem put_third {H : Hp} {d : Addr} {z : Int} {ta na : Addr} (h : H d = some (.dK (loreK2 z ta))) : DPut H d (.str "notes") (.ref na) (upd H d (.dK (loreK z ta na))) := by
  have h1 : ¬ (Str.ofString "size" = Str.ofString "notes") := by decide +kernel
  have h2 : ¬ (Str.ofString "ties" = Str.ofString "notes") := by decide +kernel
  have e : putK (loreK2 z ta) (Sum.inr (Str.ofString "notes")) (.ref na) = loreK z ta na := by
    unfold loreK2 loreK putK
    simp [h1, h2]
  exact .inl ⟨_, Sum.inr "notes", h, rfl, by show 2 < sizeLine; decide, by rw [← e]⟩
def sp_are_joined (Z : Zs) : Sp := fun vs H Q _ => ∃ (p d x : Addr) (n : Nat) (b : Lore) (t : Str), vs = [.ref p, .ref d, .ref x] ∧ W70 Z p n H H d x b t ∧ n + 100 < 1000000 ∧ b.One ∧ ∀ n' H', n' ≤ n + 20 → W70 Z p n' H H' d x b t → Q (.bl true) H'
section
variable {P : Program} {w : World} {K : PySem.W.Frag} {mg : Str → Option Value} {base : Heap} {Z : Zs}
theorem or_books {H : Hp} {x y : Addr} {t u : Str} {b c : Lore} {Q : VK} (h1 : BookAt Z.cC Z.cB H x t b) (h2 : BookAt Z.cC Z.cB H y u c) (o1 : b.Ok) (o2 : c.Ok) (z : b.z = c.z) (all : ∀ q ∈ c.ns, b.off q = false) (tn : (b.or c).ts.length ≤ 12) (nn : (b.or c).ns.length ≤ 12)
    (k : ∀ v H', H v = none → Same H H' → BookAt Z.cC Z.cB H' v (b.or c).text (b.or c) → Q (.ref v) H') : rBinO Z.cB (sp_B_or Z) E0 (.ref x) (.ref y) H Q := by
  obtain ⟨dx, ta, na, tr, nr, q1⟩ := id h1
  obtain ⟨dy, tc, nc, tr', nr', q2⟩ := id h2
  exact ⟨x, y, rfl, rfl, ⟨_, _, q1.ins⟩, ⟨_, _, q2.ins⟩, x, y, _, _, b, c, rfl, h1, h2, o1, o2, .inr ⟨z, .inr ⟨all, .inl ⟨tn, nn, fun v H' nv s hv => ⟨⟨v, rfl⟩, k v H' nv s hv⟩⟩⟩⟩⟩
theorem add_books {H : Hp} {x y : Addr} {t u : Str} {b c : Lore} {Q : VK} (h1 : BookAt Z.cC Z.cB H x t b) (h2 : BookAt Z.cC Z.cB H y u c) (o1 : b.Ok) (o2 : c.Ok) (z : b.z + c.z ≤ 10 ^ 30) (tn : (b.add c).ts.length ≤ 12) (nn : (b.add c).ns.length ≤ 12)
    (k : ∀ v H', H v = none → Same H H' → BookAt Z.cC Z.cB H' v (b.add c).text (b.add c) → Q (.ref v) H') : rBinO Z.cB (sp_B_add Z) E0 (.ref x) (.ref y) H Q := by
  obtain ⟨dx, ta, na, tr, nr, q1⟩ := id h1
  obtain ⟨dy, tc, nc, tr', nr', q2⟩ := id h2
  exact ⟨x, y, rfl, rfl, ⟨_, _, q1.ins⟩, ⟨_, _, q2.ins⟩, x, y, _, _, b, c, rfl, h1, h2, o1, o2, .inr ⟨z, .inl ⟨tn, nn, fun v H' nv s hv => ⟨⟨v, rfl⟩, k v H' nv s hv⟩⟩⟩⟩
theorem ok_l_are_joined_right (T : Txt K mg Z) : FnOk P w K mg base CX0 16 Z.f_l_are_joined_right Z.d_l_are_joined_right ["_law_pot_here", "_law_lore_here", "_law_loose_here"] (sp_are_joined Z) := by
  refine T.F_l_are_joined_right.ok sc_l_are_joined_right (fun vs H Q E h => ?_) (fun cdv A outer s H vs Q E hr h => ?_)
  · obtain ⟨p, d, x, n, b, t, rfl, _⟩ := h
    rfl
  · obtain ⟨p, d, x, n, b, t, rfl, W0, hn, one, k⟩ := h
    have sl : sizeLine = 16777216 := sizeLine_eq
    have e30 : (100 : Int) < 10 ^ 30 := by decide +kernel
    have okb := one.ok
    have fb := one.fine
    have z0 := one.fine.z0; have z1 := one.z
    have tn := one.tn; have nn := one.nn
    refine ⟨_, (pss_cons (ps_set (i := 3) sc_l_are_joined_right.nd rfl (Or.inl rfl) (pe_call (ok_l_with T) (hr.mono (by decide)) rfl T.g_l_with T.k_l_with T.bn_l_with .nil pass0 (pa_cons (pv 1) (pa_cons (pe_lst (pa_cons (pe_call (ok_l_of T) (hr.mono (by decide)) rfl T.g_l_of T.k_l_of T.bn_l_of .nil pass0 (pa_cons (pv 0) (pa_cons (pe_dget (hu_of hr) (pv 1) pe_str (fun _ _ => rfl)) pa_nil))) (pa_cons (pe_call (ok_l_row T) (hr.mono (by decide)) rfl T.g_l_row T.k_l_row T.bn_l_row .nil pass0 (pa_cons (pv 0) (pa_cons (pe_dget (hu_of hr) (pv 1) pe_str (fun _ _ => rfl)) pa_nil))) pa_nil))) (pa_cons (pe_lst pa_nil) pa_nil)))))
      (pss_cons (ps_par (i := 4) (j := 5) (by rfl) sc_l_are_joined_right.nd rfl rfl (by decide) rfl rfl (pa_cons (pe_make (mkB T) (ok_B_init T) (hr.mono (by decide)) rfl T.g_Bk T.bn_B_init .nil pass0 (pa_cons (pe_join pe_str (pe_call (ok_l_loose T) (hr.mono (by decide)) rfl T.g_l_loose T.k_l_loose T.bn_l_loose .nil pass0 (pa_cons (pv 3) pa_nil))) pa_nil)) (pa_cons (pe_lc (own := [("_law_row_here", 9)]) rfl sc_l_are_joined_right.nd (pi_list (pe_dget (hu_of hr) (pv 3) pe_str (fun _ _ => rfl))) (blkOk_by (own := [("_law_row_here", 9)]) (N := ["_law_pot_here", "_law_lore_here", "_law_loose_here", "_law_beside", "_law_side", "_law_more", "_law_size", "_law_notes", "_law_both", "_law_row_here", "_law_place", "_law_note"]) (sc := defScope s_l_are_joined_right) (by decide +kernel)) (fun _ _ _ _ _ => (pg_name (i := 9) sc_l_are_joined_right.nd rfl (Or.inl rfl))) (fun _ _ _ _ _ => (pts_one (pt_cmpR (r := rNotInD K) (op_notInD (by exact (hr.mono (j := 1) (by decide)).in1.units)) (pv 9) (pe_dget (hu_of hr) (pv 1) pe_str (fun _ _ => rfl)) (by with_unfolding_all rfl)))) (fun _ _ _ _ _ => (pv 9))) pa_nil)) (by rfl))
      (pss_cons (ps_if (pt_not (pt_cmpR (op_eqO (E := E0) (ok_B_eq T) (hr.mono (by decide)) T.bn_B_eq pass0 T.z_notTB T.a_B_eq T.i_B_eq) (pe_op (op_binO (ok_B_or T) (hr.mono (by decide)) T.bn_B_or passF T.z_firstB T.a_B_or T.i_B_or) (pv 2) (pv 4)) (pe_call (ok_l_book T) (hr.mono (by decide)) rfl T.g_l_book T.k_l_book T.bn_l_book .nil pass0 (pa_cons (pe_call (ok_l_with T) (hr.mono (by decide)) rfl T.g_l_with T.k_l_with T.bn_l_with .nil pass0 (pa_cons (pv 1) (pa_cons (pe_op op_cat (pe_dget (hu_of hr) (pv 1) pe_str (fun _ _ => rfl)) (pv 5)) (pa_cons (pe_dget (hu_of hr) (pv 1) pe_str (fun _ _ => rfl)) pa_nil)))) pa_nil)) (nomark _))) (pss_one (ps_ret pe_bl)) pss_nil)
      (pss_cons (ps_if (PW.pt (pw_or (pt_not (pt_cmpR (op_eqO (E := E0) (ok_B_eq T) (hr.mono (by decide)) T.bn_B_eq pass0 T.z_notTB T.a_B_eq T.i_B_eq) (pe_op (op_binO (ok_B_or T) (hr.mono (by decide)) T.bn_B_or passF T.z_firstB T.a_B_or T.i_B_or) (pv 2) (pv 2)) (pe_call (ok_l_book T) (hr.mono (by decide)) rfl T.g_l_book T.k_l_book T.bn_l_book .nil pass0 (pa_cons (pv 1) pa_nil)) (nomark _))) (pw_or1 (pt_not (pt_cmpR (op_eqO (E := E0) (ok_B_eq T) (hr.mono (by decide)) T.bn_B_eq pass0 T.z_notTB T.a_B_eq T.i_B_eq) (pe_op (op_binO (ok_B_or T) (hr.mono (by decide)) T.bn_B_or passF T.z_firstB T.a_B_or T.i_B_or) (pe_call (ok_l_book T) (hr.mono (by decide)) rfl T.g_l_book T.k_l_book T.bn_l_book .nil pass0 (pa_cons (pv 1) pa_nil)) (pv 2)) (pe_call (ok_l_book T) (hr.mono (by decide)) rfl T.g_l_book T.k_l_book T.bn_l_book .nil pass0 (pa_cons (pv 1) pa_nil)) (nomark _)))))) (pss_one (ps_ret pe_bl)) pss_nil)
      (pss_cons (ps_asg (pe_tup (pa_cons (pe_dget (hu_of hr) (pv 1) pe_str (fun _ _ => rfl)) (pa_cons (pe_lc (own := [("_law_place", 10), ("_law_note", 11)]) rfl sc_l_are_joined_right.nd (pi_list (pe_dget (hu_of hr) (pv 1) pe_str (fun _ _ => rfl))) (blkOk_by (own := [("_law_place", 10), ("_law_note", 11)]) (N := ["_law_pot_here", "_law_lore_here", "_law_loose_here", "_law_beside", "_law_side", "_law_more", "_law_size", "_law_notes", "_law_both", "_law_row_here", "_law_place", "_law_note"]) (sc := defScope s_l_are_joined_right) (by decide +kernel)) (fun _ _ _ _ _ => (show PG _ _ (gTup K 2 _) from (pg_tup rfl (pgs_cons (pg_name (i := 10) sc_l_are_joined_right.nd rfl (Or.inl rfl)) (pgs_cons (pg_name (i := 11) sc_l_are_joined_right.nd rfl (Or.inl rfl)) pgs_nil))))) (fun _ _ _ _ _ => pts_nil) (fun _ _ _ _ _ => (pe_tup (pa_cons (pe_op op_add (pv 10) (pe_dget (hu_of hr) (pv 1) pe_str (fun _ _ => rfl))) (pa_cons (pv 11) pa_nil))))) pa_nil))) (pg_tup rfl (pgs_cons (pg_name (i := 6) sc_l_are_joined_right.nd rfl (Or.inr rfl)) (pgs_cons (pg_name (i := 7) sc_l_are_joined_right.nd rfl (Or.inl rfl)) pgs_nil))))
      (pss_cons (ps_set (i := 8) sc_l_are_joined_right.nd rfl (Or.inl rfl) (pe_disp (pps_cons pe_str (pe_op op_mul pe_int (pv 6)) (pps_cons pe_str (pe_op op_cat (pe_dget (hu_of hr) (pv 1) pe_str (fun _ _ => rfl)) (pe_lc (own := [("_law_row_here", 9)]) rfl sc_l_are_joined_right.nd (pi_list (pe_dget (hu_of hr) (pv 1) pe_str (fun _ _ => rfl))) (blkOk_by (own := [("_law_row_here", 9)]) (N := ["_law_pot_here", "_law_lore_here", "_law_loose_here", "_law_beside", "_law_side", "_law_more", "_law_size", "_law_notes", "_law_both", "_law_row_here", "_law_place", "_law_note"]) (sc := defScope s_l_are_joined_right) (by decide +kernel)) (fun _ _ _ _ _ => (pg_name (i := 9) sc_l_are_joined_right.nd rfl (Or.inl rfl))) (fun _ _ _ _ _ => pts_nil) (fun _ _ _ _ _ => (pe_call (ok_l_far T) (hr.mono (by decide)) rfl T.g_l_far T.k_l_far T.bn_l_far .nil pass0 (pa_cons (pv 9) (pa_cons (pv 6) pa_nil)))))) pps_nil)) (by rfl) (by rfl) (fun z => by cases z) (by decide)))
      (pss_cons (ps_dput (hu_of hr) (pv 8) pe_str (pe_op op_cat (pe_dget (hu_of hr) (pv 1) pe_str (fun _ _ => rfl)) (pv 7)) rfl)
      (pss_one (ps_ret (pe_cmpR (op_eqO (E := E0) (ok_B_eq T) (hr.mono (by decide)) T.bn_B_eq pass0 T.z_notTB T.a_B_eq T.i_B_eq) (pe_op (op_binO (ok_B_add T) (hr.mono (by decide)) T.bn_B_add passF T.z_firstB T.a_B_add T.i_B_add) (pv 2) (pv 2)) (pe_call (ok_l_book T) (hr.mono (by decide)) rfl T.g_l_book T.k_l_book T.bn_l_book .nil pass0 (pa_cons (pv 8) pa_nil)) (nomark _))))))))))), ?_⟩
    obtain ⟨ta, na, tr, nr, I0⟩ := id W0.l
    have lt0 := Paired.len I0.ts
    have tpos : 0 < b.ts.length := by
      obtain ⟨r, hr', _⟩ := one.one
      exact List.length_pos_of_mem hr'
    -- another book of the size
    refine ⟨_, rfl, _, rfl, _, rfl, d, _, rfl, get_ties I0.dic, p, ta, n, tr, rfl, W0.hp, by omega, I0.ties, I0.tp, by omega, by omega, fun v n1 H1 hv hn1 hp1 k1 => ?_⟩
    obtain ⟨j, hj⟩ := List.mem_iff_getElem?.mp hv
    obtain ⟨r1, hr1, y1, rfl, hy1⟩ := Paired.at I0.ts hj
    have W1 := W0.keep k1 hp1
    have row1 : RowAt H1 y1 r1 := k1.row W0.hp hy1
    have in1 := fb.ts r1 (List.mem_of_getElem? hr1)
    clear I0 lt0 hv hj hy1
    obtain ⟨ta, na, tr, nr, I1⟩ := id W1.l
    refine ⟨_, rfl, _, rfl, d, _, rfl, get_size I1.dic, p, n1, b.z, rfl, hp1, by omega, by omega, by omega, fun r q n2 H2 ok fz sz lo hi' hn2 hp2 k2 hq nq => ?_⟩
    have W2 := W1.keep k2 hp2
    have row2 : RowAt H2 y1 r1 := k2.row hp1 row1
    have in2 : r.In b.z := ⟨ok, fz, sz⟩
    clear I1
    refine ⟨by show 2 ≤ sizeLine; decide, fun u1 hu1 => ?_⟩
    have s3 := Same.new (o := .lst [.ref y1, .ref q]) (Same.refl H2) hu1
    have at3 : upd H2 u1 (.lst [.ref y1, .ref q]) u1 = some (.lst [.ref y1, .ref q]) := upd_same
    have np1 := (W2.hp.ne' hu1).symm
    generalize upd H2 u1 (.lst [.ref y1, .ref q]) = H3 at s3 at3 ⊢
    refine ⟨by show 0 ≤ sizeLine; exact Nat.zero_le _, fun u2 hu2 => ?_⟩
    have s4 := Same.new (o := .lst []) (Same.refl H3) hu2
    have at4 : upd H3 u2 (.lst []) u2 = some (.lst []) := upd_same
    have np2 := ((W2.hp.same s3).ne' hu2).symm
    generalize upd H3 u2 (.lst []) = H4 at s4 at4 ⊢
    have s34 := s3.trans s4
    obtain ⟨c, hc⟩ : ∃ c : Lore, c = ⟨b.z, [r1, r], []⟩ := ⟨_, rfl⟩
    have okc : c.Ok := by
      rw [hc]
      refine ⟨⟨fb.z0, fb.z1, fun r' hr' => ?_, fun _ h => nomatch h⟩, by show 2 ≤ 12; decide, by show 0 ≤ 12; decide, List.nodup_nil⟩
      simp only [List.mem_cons, List.not_mem_nil, or_false] at hr'
      rcases hr' with rfl | rfl
      · exact in1
      · exact in2
    refine ⟨p, d, u1, u2, b, _, [], [r1, r], [], rfl, W2.l.same s34, s4 _ _ at3, at4, np1, np2, .cons ⟨y1, rfl, s34 _ _ row2⟩ (.cons ⟨q, rfl, s34 _ _ hq⟩ .nil), .nil, fun e H5 ne s5 he => ?_⟩
    rw [← hc] at he
    have W5 := W2.same (s34.trans s5)
    clear s3 s4 s34 s5 at3 at4 row1 row2 hq W1 W2 hp1 hp2 k1 k2
    have cz : b.z = c.z := by rw [hc]
    have cts : c.ts = [r1, r] := by rw [hc]
    have cns : c.ns = [] := by rw [hc]
    have ls := lines_sumF (fl := true) okc
    refine ⟨⟨_, rfl⟩, _, rfl, p, e, c, rfl, he, okc, fun l H6 nl s6 hl => ?_⟩
    refine ⟨_, l, c.linesF true, rfl, rfl, .inl (SqL.of hl), by omega, fun y dy ny ndy ney => ?_⟩
    refine ⟨y, dy, c, true, rfl, okc, upd_same, fun H7 hb7 kp7 => ⟨rfl, ?_⟩⟩
    have s57 := s6.trans (made ny ndy kp7)
    have W7 := W5.same s57
    have he7 := he.same s57
    clear s57 s6 hl kp7 W5 he
    -- those of its ties that are not there
    obtain ⟨tc, nc, trc, nrc, Ic⟩ := id he7
    obtain ⟨ta, na, tr, nr, I7⟩ := id W7.l
    have ltc := Paired.len Ic.ts
    rw [cts] at ltc
    have tc7 := Ic.ties
    refine ⟨_, rfl, e, _, rfl, get_ties Ic.dic, tc, rfl, ⟨_, SqL.of tc7⟩, fun D hD => ?_⟩
    refine lc_list (xs := trc) (fun i H' => ∃ l, H' D = some (.lst l) ∧ l.length ≤ i ∧ RowsAt H' l ((c.ts.take i).filter fun r => !b.hasT r) ∧ Same H7 H') ⟨[], upd_same, Nat.le_refl _, .nil, Same.new (Same.refl H7) hD⟩ (fun i H' _ ⟨_, _, _, _, s⟩ => SqL.of (s _ _ tc7)) ?_ ?_
    · rintro i x' H8 hi ⟨l, hDi, hlen, hl, s8⟩
      refine ⟨rfl, ?_⟩
      obtain ⟨r', hr', y', rfl, hy'⟩ := Paired.at Ic.ts hi
      have il := (List.getElem?_eq_some_iff.mp hi).1
      rw [ltc] at il
      simp only [List.length_cons, List.length_nil] at il
      have hy8 := s8 _ _ hy'
      refine ⟨_, rfl, _, rfl, d, _, rfl, get_ties (s8 _ _ I7.dic), r'.dat, b.ts.map Row.dat, Row.dp hy8, .lst (SqL.of (s8 _ _ I7.ties)) (I7.ts.same s8).dps, rowD_shaped r', list_shaped (rowDs_lay _), _, rfl, ?_⟩
      rw [any_rows]
      have e4 : (!b.ts.any fun t => eqB t r') = !b.hasT r' := rfl
      rw [e4]
      cases hh : b.hasT r' with
      | false =>
        refine iteT ⟨_, rfl, _, hDi, by omega, l ++ [.ref y'], upd_same, by rw [List.length_append]; simp; omega, ?_, same_put s8 hD⟩
        rw [take_snoc hr', List.filter_append, List.filter_cons, hh]
        exact Paired.snoc ⟨y', rfl, (upd_ne (ne_of hy8 hDi fun z => nomatch z)).trans hy8⟩ (hl.put hDi)
      | true =>
        refine iteF ⟨l, hDi, by omega, ?_, s8⟩
        rw [take_snoc hr', List.filter_append, List.filter_cons, hh]
        simpa using hl
    rintro H8 ⟨l, hD8, hlen, hl, s8⟩
    rw [List.take_of_length_le (by rw [cts, ← ltc]; exact Nat.le_refl _)] at hl
    have W8 := W7.same s8
    have K8 := hb7.same s8
    have I8 := I7.same s8
    clear W7 hb7 I7 he7 Ic tc7
    refine ⟨_, _, rfl, ?_⟩
    have lenT : (b.or c).ts.length ≤ 12 := by
      show (b.ts ++ c.ts.filter _).length ≤ 12
      have := List.length_filter_le (fun r => !b.hasT r) c.ts
      rw [cts] at this
      rw [List.length_append, cts]
      simp only [List.length_cons, List.length_nil] at this
      omega
    have nsE : (b.or c).ns = b.ns := by
      show b.ns ++ c.ns.filter _ = b.ns
      rw [cns]
      simp
    have lenN : (b.or c).ns.length ≤ 12 := by rw [nsE]; omega
    have okO : (b.or c).Ok := ⟨fb.or okc.fine cz, lenT, lenN, by rw [nsE]; exact okb.nd⟩
    have eO : (⟨b.z, b.ts ++ c.ts.filter (fun r => !b.hasT r), b.ns⟩ : Lore) = b.or c := by
      rw [← nsE]
      rfl
    have lt8 := Paired.len I8.ts
    have ltc2 : l.length ≤ 2 := by
      rw [ltc] at hlen
      exact hlen
    refine ⟨_, rfl, _, rfl, or_books W8.k K8 okb okc cz (fun q hq => by rw [cns] at hq; cases hq) lenT lenN fun v H9 nv s9 hv => ?_⟩
    have I9 := I8.same s9
    refine ⟨_, rfl, _, rfl, d, _, rfl, get_ties I9.dic, ?_⟩
    refine ⟨_, rfl, ta, D, _, _, rfl, rfl, I9.ties, s9 _ _ hD8, by omega, fun u hu => ?_⟩
    have sA := Same.new (o := .lst (tr ++ l)) (Same.refl H9) hu
    have atA : upd H9 u (.lst (tr ++ l)) u = some (.lst (tr ++ l)) := upd_same
    have npu := ((W8.same s9).hp.ne' hu).symm
    generalize upd H9 u (.lst (tr ++ l)) = HA at sA atA ⊢
    have s9A := s9.trans sA
    have IA := I8.same s9A
    refine ⟨_, rfl, d, _, rfl, get_notes IA.dic, ?_⟩
    refine ⟨p, d, u, na, b, _, nr, b.ts ++ c.ts.filter (fun r => !b.hasT r), b.ns, rfl, W8.l.same s9A, atA, IA.notes, npu, IA.np, Paired.app (hl.same s9A) IA.ts, IA.ns, fun y' HB ny' sB hy' => ?_⟩
    rw [eO] at hy'
    refine ⟨p, y', b.or c, rfl, hy', okO, fun v' HC nv' sC hv' => ?_⟩
    refine eq_books (((hv.same sA).same sB).same sC) hv' rfl ⟨true, rfl, iteF ?_⟩
    have W9 := W8.same ((s9A.trans sB).trans sC)
    clear I9 IA atA sA s9A s9 sB sC hv hv' hy' I8 W8 K8 hl hD8 s8
    -- with itself
    have selfT : (b.or b).ts.length ≤ 12 := by rw [Lore.or_self]; omega
    have selfN : (b.or b).ns.length ≤ 12 := by rw [Lore.or_self]; omega
    refine ⟨_, rfl, _, rfl, or_books W9.k W9.k okb okb rfl (Lore.off_self one.nd) selfT selfN fun v1 HD _ sD hv1 => ?_⟩
    have W10 := W9.same sD
    refine ⟨_, rfl, p, d, b, rfl, W10.l, okb, fun v2 HE _ sE hv2 => eq_books (hv1.same sE) hv2 (by rw [Lore.or_self]) ⟨true, rfl, iteF ?_⟩⟩
    have W11 := W10.same sE
    refine ⟨_, rfl, p, d, b, rfl, W11.l, okb, fun v3 HF _ sF hv3 => ⟨_, rfl, or_books hv3 (W11.same sF).k okb okb rfl (Lore.off_self one.nd) selfT selfN fun v4 HG _ sG hv4 => ?_⟩⟩
    have W12 := (W11.same sF).same sG
    refine ⟨_, rfl, p, d, b, rfl, W12.l, okb, fun v5 HH _ sH hv5 => eq_books (hv4.same sH) hv5 (by rw [Lore.or_self]) ⟨true, rfl, iteF ?_⟩⟩
    have W13 := W12.same sH
    clear W9 W10 W11 W12 sD sE sF sG sH hv1 hv2 hv3 hv4 hv5
    -- one behind the other
    obtain ⟨ta, na, tr, nr, I⟩ := id W13.l
    have lt := Paired.len I.ts; have ln := Paired.len I.ns
    refine ⟨_, rfl, d, _, rfl, get_size I.dic, ?_⟩
    refine ⟨_, rfl, d, _, rfl, get_notes I.dic, na, rfl, ⟨_, SqL.of I.notes⟩, fun G hG => ?_⟩
    refine lc_list (xs := nr) (fun i H' => ∃ l, H' G = some (.lst l) ∧ Notes H' l ((b.ns.take i).map fun q => (q.1 + b.z, q.2)) ∧ Same HH H') ⟨[], upd_same, .nil, Same.new (Same.refl HH) hG⟩ (fun i H' _ ⟨_, _, _, s⟩ => SqL.of (s _ _ I.notes)) ?_ ?_
    · rintro i x' HF hi ⟨m, hGi, hm, s1⟩
      obtain ⟨q', hq', y', rfl, hy'⟩ := Paired.at I.ns hi
      have mm := Paired.len hm
      rw [List.length_map, List.length_take] at mm
      have il : i < b.ns.length := (List.getElem?_eq_some_iff.mp hq').1
      refine ⟨y', _, rfl, SqT.of (s1 _ _ hy'), rfl, _, _, rfl, _, _, rfl, rfl, rfl, ?_⟩
      unfold tYes
      refine iteT ?_
      refine ⟨_, rfl, _, rfl, d, _, rfl, get_size (s1 _ _ I.dic), _, _, rfl, rfl, _, rfl, by show 2 ≤ sizeLine; decide, fun x2 hx2 => ?_⟩
      have s5 := Same.new (o := .tup [.int (q'.1 + b.z), .int q'.2]) (Same.refl HF) hx2
      have hG4 := s5 _ _ hGi
      refine ⟨_, hG4, by omega, m ++ [.ref x2], upd_same, ?_, same_put (s1.trans s5) hG⟩
      rw [takeN (f := fun q : Int × Int => (q.1 + b.z, q.2)) hq']
      exact Paired.snoc ⟨x2, rfl, (upd_ne (ne_of upd_same hG4 fun z => nomatch z)).trans upd_same⟩ ((hm.same s5).put hG4)
    rintro HI ⟨m, hGI, hm, sI⟩
    rw [List.take_of_length_le (by omega)] at hm
    have lm := Paired.len hm
    rw [List.length_map] at lm
    refine ⟨by show 2 ≤ sizeLine; decide, fun tt htt => ?_⟩
    have sJ := Same.new (o := .tup [.int b.z, .ref G]) (Same.refl HI) htt
    refine ⟨tt, _, rfl, SqT.of upd_same, rfl, _, _, rfl, _, _, rfl, rfl, ?_⟩
    generalize upd HI tt (.tup [.int b.z, .ref G]) = HJ at sJ ⊢
    have WJ := W13.same (sI.trans sJ)
    have IJ := I.same (sI.trans sJ)
    have hGJ := sJ _ _ hGI
    have hmJ := hm.same sJ
    clear I W13 sI sJ hGI hm
    refine fun D2 hD2 => ?_
    have sK := Same.new (o := .dK []) (Same.refl HJ) hD2
    have atD2 : upd HJ D2 (.dK []) D2 = some (.dK []) := upd_same
    generalize upd HJ D2 (.dK []) = HK at sK atD2 ⊢
    have WK := WJ.same sK
    have IK := IJ.same sK
    have hGK := sK _ _ hGJ
    have hmK := hmJ.same sK
    refine ⟨_, rfl, _, _, rfl, rfl, .inl (by constructor <;> decide), ?_⟩
    refine ⟨_, rfl, d, _, rfl, get_ties IK.dic, ?_⟩
    refine ⟨_, rfl, d, _, rfl, get_ties IK.dic, ta, rfl, ⟨_, SqL.of IK.ties⟩, fun D3 hD3 => ?_⟩
    refine lc_list (xs := tr) (fun i H' => ∃ l, H' D3 = some (.lst l) ∧ RowsAt H' l ((b.ts.take i).map (Row.far · b.z)) ∧ Same HK H') ⟨[], upd_same, .nil, Same.new (Same.refl HK) hD3⟩ (fun i H' _ ⟨_, _, _, s⟩ => SqL.of (s _ _ IK.ties)) ?_ ?_
    · rintro i x' HL hi ⟨l', hDi, hl', s1⟩
      refine ⟨rfl, ?_⟩
      unfold tYes
      refine iteT ?_
      obtain ⟨r', hr', y', rfl, hy'⟩ := Paired.at IK.ts hi
      have ll := Paired.len hl'
      rw [List.length_map, List.length_take] at ll
      have il : i < b.ts.length := (List.getElem?_eq_some_iff.mp hr').1
      refine ⟨_, rfl, _, rfl, y', r', b.z, rfl, s1 _ _ hy', fun x2 HM nx s2 hx => ?_⟩
      have hD4 := s2 _ _ hDi
      refine ⟨_, hD4, by omega, l' ++ [.ref x2], upd_same, ?_, same_put (s1.trans s2) hD3⟩
      rw [takeN (f := (Row.far · b.z)) hr']
      exact Paired.snoc ⟨x2, rfl, (upd_ne (ne_of hx hD4 fun z => nomatch z)).trans hx⟩ ((hl'.same s2).put hD4)
    rintro HL ⟨l', hDL, hl', sL⟩
    rw [List.take_of_length_le (by omega)] at hl'
    have ll' := Paired.len hl'
    rw [List.length_map] at ll'
    refine ⟨ta, D3, _, _, rfl, rfl, sL _ _ IK.ties, hDL, by omega, fun u3 hu3 => ?_⟩
    have npu3 := ((WK.same sL).hp.ne' hu3).symm
    have sM := Same.new (o := .lst (tr ++ l')) (Same.refl HL) hu3
    have atM : upd HL u3 (.lst (tr ++ l')) u3 = some (.lst (tr ++ l')) := upd_same
    generalize upd HL u3 (.lst (tr ++ l')) = HM at sM atM ⊢
    have sLM := sL.trans sM
    have rows : RowsAt HM (tr ++ l') (b.add b).ts := Paired.app (hl'.same sM) (IK.ts.same sLM)
    refine ⟨sLM _ _ atD2, loreK2 (2 * b.z) u3, rfl, by show 2 ≤ 15; decide, ?_⟩
    rw [merge_lore2]
    have hDM := sLM _ _ atD2
    have sN : Same HJ (upd HM D2 (.dK (loreK2 (2 * b.z) u3))) := same_put (sK.trans sLM) hD2
    have put : ∀ {q : Addr} {o o' : HO}, HM q = some o → (∀ kvs, o ≠ .dK kvs) → upd HM D2 o' q = some o := fun e n => (upd_ne (ne_of e hDM (fun z => n _ z))).trans e
    have atN := put (o' := .dK (loreK2 (2 * b.z) u3)) atM (fun _ z => nomatch z)
    have rowsN : RowsAt (upd HM D2 (.dK (loreK2 (2 * b.z) u3))) (tr ++ l') (b.add b).ts := rows.dput hDM
    have hDN : upd HM D2 (.dK (loreK2 (2 * b.z) u3)) D2 = some (.dK (loreK2 (2 * b.z) u3)) := upd_same
    generalize upd HM D2 (.dK (loreK2 (2 * b.z) u3)) = HN at sN atN rowsN hDN ⊢
    clear rows atM hDL hl' sL sM sLM IK WK hGK hmK put hDM
    have WN := WJ.same sN
    have IN := IJ.same sN
    refine ⟨_, rfl, d, _, rfl, get_notes IN.dic, ?_⟩
    refine ⟨_, rfl, na, G, _, _, rfl, rfl, IN.notes, sN _ _ hGJ, by omega, fun u4 hu4 => ?_⟩
    have npu4 := (WN.hp.ne' hu4).symm
    have sO := Same.new (o := .lst (nr ++ m)) (Same.refl HN) hu4
    have atO : upd HN u4 (.lst (nr ++ m)) u4 = some (.lst (nr ++ m)) := upd_same
    generalize upd HN u4 (.lst (nr ++ m)) = HO' at sO atO ⊢
    have notes : Notes HO' (nr ++ m) (b.add b).ns := by
      rw [← add_ns]
      exact Paired.app ((hmJ.same sN).same sO) (IN.ns.same sO)
    have hDO := sO _ _ hDN
    refine ⟨_, rfl, D2, _, rfl, put_third hDO, ?_⟩
    have sNO := sN.trans sO
    have sP : Same HJ (upd HO' D2 (.dK (loreK (2 * b.z) u3 u4))) := same_put sNO hD2
    have put : ∀ {q : Addr} {o o' : HO}, HO' q = some o → (∀ kvs, o ≠ .dK kvs) → upd HO' D2 o' q = some o := fun e n => (upd_ne (ne_of e hDO (fun z => n _ z))).trans e
    have LA : LoreAt (upd HO' D2 (.dK (loreK (2 * b.z) u3 u4))) p D2 (b.add b) := by
      refine ⟨u3, u4, _, _, ?_, put (sO _ _ atN) (fun _ z => nomatch z), put atO (fun _ z => nomatch z), npu3, npu4, (rowsN.same sO).dput hDO, notes.dput hDO⟩
      show _ = some (HO.dK (loreK (b.z + b.z) u3 u4))
      rw [upd_same, show 2 * b.z = b.z + b.z by omega]
    generalize upd HO' D2 (.dK (loreK (2 * b.z) u3 u4)) = HP at sP LA ⊢
    have WP := WJ.same sP
    have addT : (b.add b).ts.length ≤ 12 := by
      show (b.ts ++ b.ts.map _).length ≤ 12
      rw [List.length_append, List.length_map]
      omega
    have addN : (b.add b).ns.length ≤ 12 := by
      show (b.ns ++ b.ns.map _).length ≤ 12
      rw [List.length_append, List.length_map]
      omega
    have addZ : b.z + b.z ≤ 10 ^ 30 := by omega
    have okA : (b.add b).Ok := ⟨fb.add fb addZ, addT, addN, Lore.nd_add fb fb one.nd one.nd⟩
    refine ⟨_, rfl, _, rfl, add_books WP.k WP.k okb okb addZ addT addN fun v1 HQ _ sQ hv1 => ?_⟩
    refine ⟨_, rfl, p, D2, b.add b, rfl, LA.same sQ, okA, fun v2 HR _ sR hv2 => eq_books (hv1.same sR) hv2 rfl ?_⟩
    exact k n2 HR (by omega) ((WP.same sQ).same sR)
end
end TT

set_option maxHeartbeats 4000000
namespace TT
open PySem PySem.Spec PyProof.Rows L2 LamX TL
/-! ### the law's own check -/
def tabs (_ : Zs) : List (Addr × Str) := []
/-- signs below 128 alone -/
def Low (t : Str) : Prop := ∀ c ∈ tl t, c < 128
theorem Low.app {a b : Str} (h : Low a) (g : Low b) : Low (a ++ b) := fun c hc => by
  rw [tl_append] at hc
  rcases List.mem_append.mp hc with hc | hc
  · exact h c hc
  · exact g c hc
theorem Low.lit {a : Str} (h : (tl a).all (fun c => decide (c < 128)) = true) : Low a := fun c hc => of_decide_eq_true (List.all_eq_true.mp h c hc)
theorem Low.num {n : Int} (h : 0 ≤ n) : Low (Str.ofString (toString n)) := fun c hc => by
  rw [tl_int h] at hc
  refine Classical.not_not.mp fun z => ?_
  exact numL_free (s := c) (.inr (by omega)) hc
theorem Low.shown (n : Int) : Low (shownInt n) := by
  unfold shownInt
  split
  · exact Low.app (Low.lit (by decide +kernel)) (Low.num (by omega))
  · exact Low.num (by omega)
theorem Low.join {s : Str} (h : Low s) : ∀ {l : List Str}, (∀ p ∈ l, Low p) → Low (Txt.join s l) := by
  intro l hl c hc
  rw [show Txt.join s l = _ from join_eq _ _, tl_join] at hc
  have key : ∀ m : List (List Nat), (∀ q ∈ m, ∀ c ∈ q, c < 128) → ∀ c ∈ joinL (tl s) m, c < 128 := by
    intro m
    induction m with
    | nil => intro _ c z; simp [joinL] at z
    | cons a t ih =>
      intro hm c z
      cases t with
      | nil => exact hm a (by simp) c (by simpa [joinL] using z)
      | cons b t =>
        have z' : c ∈ a ++ (tl s ++ joinL (tl s) (b :: t)) := z
        rcases List.mem_append.mp z' with z' | z'
        · exact hm a (by simp) c z'
        · rcases List.mem_append.mp z' with z' | z'
          · exact h c z'
          · exact ih (fun q hq => hm q (List.mem_cons_of_mem _ hq)) c z'
  refine key _ (fun q hq => ?_) c hc
  obtain ⟨p, hp, rfl⟩ := List.mem_map.mp hq
  exact hl p hp
theorem Low.row {r : Row} (ok : r.Ok) (bk : Bool) : Low (rowText r bk) := by
  have hf := ok.f0; have hs := ok.s0; have hl := ok.l0
  unfold rowText
  refine Low.join (Low.lit (by decide +kernel)) fun p hp => ?_
  unfold wordsOf at hp
  rcases List.mem_append.mp hp with hp | hp
  · simp only [List.mem_cons, List.not_mem_nil, or_false] at hp
    rcases hp with rfl | rfl | rfl | rfl | rfl
    · exact Low.num hf
    · exact Low.num hs
    · exact Low.num (by omega)
    · unfold way
      split <;> exact Low.lit (by decide +kernel)
    · exact Low.shown _
  · split at hp
    · rw [List.mem_singleton.mp hp]
      exact Low.lit (by decide +kernel)
    · cases hp
theorem Low.page {b : Lore} (h : b.Fine) (fl : Bool) : Low (b.textF fl) := by
  have z0 := h.z0
  refine Low.join (Low.lit (by decide +kernel)) fun p hp => ?_
  unfold Lore.linesF at hp
  rcases List.mem_cons.mp hp with rfl | hp
  · exact Low.app (Low.lit (by decide +kernel)) (Low.num (by omega))
  · rcases List.mem_append.mp hp with hp | hp
    · obtain ⟨r, hr, rfl⟩ := List.mem_map.mp hp
      exact Low.app (Low.lit (by decide +kernel)) (Low.row (h.ts r hr).ok _)
    · obtain ⟨r, hr, rfl⟩ := List.mem_map.mp hp
      exact Low.app (Low.app (Low.app (Low.lit (by decide +kernel)) (Low.num (h.ns r hr).p0)) (Low.lit (by decide +kernel))) (Low.shown _)
theorem note_ok {q : Int × Int} {z : Int} (h : NoteIn q z) (hz : z ≤ 10 ^ 30) : (datN q).showable = true ∧ (datN q).hasDict = false ∧ (datN q).depth ≤ 1 ∧ (datN q).shown.length ≤ 200 := by
  have e30 : (10 : Int) ^ 30 < 10 ^ 64 := by decide +kernel
  have e60 : (10 : Int) ^ 60 < 10 ^ 64 := by decide +kernel
  have p0 := h.p0; have pz := h.pz; have lo := h.lo; have hi := h.hi
  have b1 : -(10 ^ 64) < q.1 ∧ q.1 < 10 ^ 64 := by constructor <;> omega
  have b2 : -(10 ^ 64) < q.2 ∧ q.2 < 10 ^ 64 := by constructor <;> omega
  refine ⟨?_, ?_, ?_, ?_⟩
  · unfold datN
    rw [PyData.showable]
    simp only [PyData.showableAll, int_ok64 b1.1 b1.2, int_ok64 b2.1 b2.2, Bool.true_and, Bool.and_true]
  · simp [datN, PyData.hasDict, PyData.hasDictAll]
  · simp [datN, PyData.depth, PyData.depthAll]
  · unfold datN
    rw [PyData.shown]
    simp only [PyData.shownAll]
    have j := join_length_add [(PyData.int q.1).shown, (PyData.int q.2).shown] (by simp)
    have z1 := int_len64 b1.1 b1.2; have z2 := int_len64 b2.1 b2.2
    rw [← shown_int] at z1 z2
    unfold tupleText
    rw [Str.length_append, Str.length_append]
    simp only [piled, List.map_cons, List.map_nil, List.sum_cons, List.sum_nil] at j
    have y1 : (Str.ofString "(").length = 1 := by decide
    have y2 : (Str.ofString ")").length = 1 := by decide
    simp only [List.length_cons, List.length_nil]
    have y3 : (Str.ofString (if (0 + 1 + 1 == 1) = true then ",)" else ")")).length = 1 := by decide
    omega
theorem row_shown {r : Row} (ok : r.Ok) : r.dat.shown.length ≤ 400 ∧ r.dat.depth ≤ 1 := by
  have e30 : (10 : Int) ^ 30 < 10 ^ 64 := by decide +kernel
  have e60 : (10 : Int) ^ 60 < 10 ^ 64 := by decide +kernel
  have f0 := ok.f0; have s0 := ok.s0; have l0 := ok.l0; have fe := ok.fe; have se := ok.se; have al := ok.al; have ah := ok.ah
  have bf : -(10 ^ 64) < r.f ∧ r.f < 10 ^ 64 := by constructor <;> omega
  have bs : -(10 ^ 64) < r.s ∧ r.s < 10 ^ 64 := by constructor <;> omega
  have bl : -(10 ^ 64) < r.l ∧ r.l < 10 ^ 64 := by constructor <;> omega
  have ba : -(10 ^ 64) < r.a ∧ r.a < 10 ^ 64 := by constructor <;> omega
  refine ⟨?_, by simp [Row.dat, PyData.depth, PyData.depthAll]⟩
  unfold Row.dat
  rw [PyData.shown]
  simp only [PyData.shownAll]
  have j := join_length_add [(PyData.int r.f).shown, (PyData.int r.s).shown, (PyData.int r.l).shown, (PyData.int r.a).shown, (PyData.bool r.d).shown, (PyData.bool r.b).shown] (by simp)
  have z1 := int_len64 bf.1 bf.2; have z2 := int_len64 bs.1 bs.2; have z3 := int_len64 bl.1 bl.2; have z4 := int_len64 ba.1 ba.2; have z5 := bool_len r.d; have z6 := bool_len r.b
  rw [← shown_int] at z1 z2 z3 z4
  unfold tupleText
  rw [Str.length_append, Str.length_append]
  simp only [piled, List.map_cons, List.map_nil, List.sum_cons, List.sum_nil] at j
  have y1 : (Str.ofString "(").length = 1 := by decide
  have y2 : (Str.ofString ")").length = 1 := by decide
  simp only [List.length_cons, List.length_nil]
  have y3 : (Str.ofString (if (0 + 1 + 1 + 1 + 1 + 1 + 1 == 1) = true then ",)" else ")")).length = 1 := by decide
  omega
/-- data that can be shown, each of so many signs -/
structure Shows (ds : List PyData) (n : Nat) : Prop where
  s : PyData.showableAll ds = true
  d : PyData.hasDictAll ds = false
  dp : PyData.depthAll ds ≤ 1
  l : ((PyData.shownAll ds).map fun t => t.length + 2).sum ≤ n
theorem shows_map {α : Type} {f : α → PyData} {m : Nat} {l : List α} (h : ∀ x ∈ l, (f x).showable = true ∧ (f x).hasDict = false ∧ (f x).depth ≤ 1 ∧ (f x).shown.length ≤ m) : Shows (l.map f) (l.length * (m + 2)) := by
  induction l with
  | nil => exact ⟨by simp [PyData.showableAll], by simp [PyData.hasDictAll], by simp [PyData.depthAll], by simp [PyData.shownAll]⟩
  | cons a t ih =>
    obtain ⟨h1, h2, h3, h4⟩ := h a (by simp)
    have i := ih fun x hx => h x (List.mem_cons_of_mem _ hx)
    refine ⟨?_, ?_, ?_, ?_⟩
    · rw [List.map_cons, PyData.showableAll, h1, i.s] <;> rfl
    · rw [List.map_cons, PyData.hasDictAll, h2, i.d] <;> rfl
    · rw [List.map_cons, PyData.depthAll]
      have := i.dp
      omega
    · rw [List.map_cons, PyData.shownAll, List.map_cons, List.sum_cons, List.length_cons, Nat.succ_mul]
      have := i.l
      omega
theorem piled_sum (ts : List Str) : piled ts = (ts.map (·.length)).sum + 2 * ts.length := by
  induction ts with
  | nil => rfl
  | cons a t ih =>
    rw [piled_cons, ih, List.map_cons, List.sum_cons, List.length_cons]
    omega
theorem list_len (ts : List Str) : (listText ts).length ≤ piled ts + 2 := by
  have h := textFrom_len_le ts 0 "["
  have hX : (listText ts).length = (textFrom 0 "[" ts).length + 1 := by
    show (textFrom 0 "[" ts ++ "]").length = _
    rw [Str.length_append]
    rfl
  have y1 : ((("[" : String) : Str)).length = 1 := by decide
  rw [piled_sum]
  omega
theorem seq_len {ds : List PyData} {n : Nat} (h : Shows ds n) : (PyData.list ds).shown.length ≤ n + 10 ∧ (PyData.tuple ds).shown.length ≤ n + 10 := by
  have j : ∀ ts : List Str, (Str.join ", " ts).length ≤ piled ts := fun ts => by
    cases ts with
    | nil => exact Nat.zero_le _
    | cons a t =>
      have := join_length_add (a :: t) (by simp)
      omega
  have y1 : (Str.ofString "[").length = 1 := by decide
  have y2 : (Str.ofString "]").length = 1 := by decide
  have y3 : (Str.ofString "(").length = 1 := by decide
  have y4 : (Str.ofString ")").length = 1 := by decide
  have y5 : (Str.ofString ",)").length = 2 := by decide
  have y6 : (Str.ofString "()").length = 2 := by decide
  have hl := h.l
  have jj := j (PyData.shownAll ds)
  unfold piled at jj
  constructor
  · rw [PyData.shown]
    have := list_len (PyData.shownAll ds)
    unfold piled at this
    omega
  · rw [PyData.shown]
    unfold tupleText
    rw [Str.length_append, Str.length_append]
    have y7 : (Str.ofString (if ((PyData.shownAll ds).length == 1) = true then ",)" else ")")).length ≤ 2 := by
      split
      · omega
      · omega
    omega
def datB (page : Str) (b : Lore) : PyData := .list [.str page, .list (b.ts.map Row.dat), .tuple (b.ns.map datN), .int b.ts.length]
theorem datB_ok {b : Lore} (one : b.One) : (datB (b.textF true) b).showable = true ∧ (datB (b.textF true) b).hasDict = false ∧ (datB (b.textF true) b).depth ≤ 60 ∧ (datB (b.textF true) b).shown.length ≤ sizeLine := by
  have sl : sizeLine = 16777216 := sizeLine_eq
  have e30 : (100 : Int) < 10 ^ 30 := by decide +kernel
  have tn := one.tn; have nn := one.nn; have z1 := one.z
  have A := shows_map (f := Row.dat) (m := 400) (l := b.ts) fun r hr => ⟨(dat_ok (one.fine.ts r hr).ok).1, (dat_ok (one.fine.ts r hr).ok).2.1, (row_shown (one.fine.ts r hr).ok).2, (row_shown (one.fine.ts r hr).ok).1⟩
  have B := shows_map (f := datN) (m := 200) (l := b.ns) fun q hq => note_ok (one.fine.ns q hq) (by omega)
  have lp := text_lenF (fl := true) one.ok
  have pg := StrLaws.reprText_len (b.textF true) fun c hc => Nat.lt_trans (Low.page one.fine true c hc) (by decide)
  have ln : (PyData.int (b.ts.length : Int)).showable = true := int_ok64 (by omega) (by omega)
  have ll := int_len64 (i := (b.ts.length : Int)) (by omega) (by omega)
  rw [← shown_int] at ll
  have h1 := (seq_len A).1
  have h2 := (seq_len B).2
  have ad := A.dp; have bd := B.dp
  unfold datB
  refine ⟨?_, ?_, ?_, ?_⟩
  · rw [PyData.showable]
    simp only [PyData.showableAll, PyData.showable, A.s, B.s, Bool.true_and, Bool.and_true]
    simpa [PyData.showable] using ln
  · rw [PyData.hasDict]
    simp only [PyData.hasDictAll, PyData.hasDict, A.d, B.d, Bool.false_or]
  · rw [PyData.depth]
    simp only [PyData.depthAll, PyData.depth]
    omega
  · have j := join_length_add [(PyData.str (b.textF true)).shown, (PyData.list (b.ts.map Row.dat)).shown, (PyData.tuple (b.ns.map datN)).shown, (PyData.int (b.ts.length : Int)).shown] (by simp)
    simp only [piled, List.map_cons, List.map_nil, List.sum_cons, List.sum_nil] at j
    have es : (PyData.str (b.textF true)).shown = reprText (b.textF true) := by simp [PyData.shown]
    rw [es] at j
    have y1 : (Str.ofString "[").length = 1 := by decide
    have y2 : (Str.ofString "]").length = 1 := by decide
    have k1 : b.ts.length * (400 + 2) ≤ 5 * 402 := Nat.mul_le_mul_right _ tn
    have k2 : b.ns.length * (200 + 2) ≤ 4 * 202 := Nat.mul_le_mul_right _ nn
    rw [PyData.shown]
    simp only [PyData.shownAll]
    rw [es]
    have LL := list_len [reprText (b.textF true), (PyData.list (b.ts.map Row.dat)).shown, (PyData.tuple (b.ns.map datN)).shown, (PyData.int (b.ts.length : Int)).shown]
    simp only [piled, List.map_cons, List.map_nil, List.sum_cons, List.sum_nil] at LL
    omega
def sp_B_len (Z : Zs) : Sp := fun vs H Q _ => ∃ (a : Addr) (t : Str) (b : Lore), vs = [.ref a] ∧ BookAt Z.cC Z.cB H a t b ∧ Q (.int (b.ts.length : Int)) H
def sp_l_right (Z : Zs) : Sp := fun vs H Q _ => ∃ (p : Addr) (n : Nat), vs = [.ref p] ∧ Pot H p n ∧ n + 500 < 1000000 ∧ Tabs (tabs Z) H ∧ ∀ (n' : Nat) (H' : Hp), n' ≤ n + 500 → Pot H' p n' → Tabs (tabs Z) H' → KeepN p H H' → Q (.bl true) H'
section
variable {P : Program} {w : World} {K : PySem.W.Frag} {mg : Str → Option Value} {base : Heap} {Z : Zs}
theorem ok_B_len (T : Txt K mg Z) : FnOk P w K mg base CX0 1 Z.f_B_len Z.d_B_len ["self"] (sp_B_len Z) := by
  refine T.F_B_len.ok sc_B_len (fun vs H Q E h => ?_) (fun cdv A outer s H vs Q E hr h => ?_)
  · obtain ⟨a, t, b, rfl, _⟩ := h
    rfl
  · obtain ⟨a, t, b, rfl, ⟨dx, ta, na, tr, nr, ba⟩, k⟩ := h
    have lt := Paired.len ba.ts
    rw [← lt] at k
    refine ⟨_, (pss_one (ps_ret (pe_callB  call_len (by rfl) T.b_len (by decide +kernel) (pa_cons (pe_fld (pv 0) rfl) pa_nil)))), ?_⟩
    exact ⟨_, rfl, a, _, dx, _, _, rfl, ba.ins, T.clB, T.nB_ties, bfs_ties _ _ _ _, _, _, rfl, .inr ⟨_, SqT.of ba.ties, rfl⟩, k⟩
theorem inv_book {E : XK} {H : Hp} {x : Addr} {t : Str} {b : Lore} {Q : VK} (h : BookAt Z.cC Z.cB H x t b) (ok : b.Ok) (k : ∀ y H', H y = none → Same H H' → BookAt Z.cC Z.cB H' y b.turn.text b.turn → Q (.ref y) H') :
    ∃ a dx fs, V.ref x = .ref a ∧ H a = some (.ins Z.cB dx fs) ∧ sp_B_invert Z [.ref a] H Q E := by
  obtain ⟨dx, ta, na, tr, nr, q⟩ := id h
  exact ⟨x, dx, _, rfl, q.ins, x, t, b, rfl, h, ok, k⟩
theorem neg_book {E : XK} {H : Hp} {x : Addr} {t : Str} {b : Lore} {Q : VK} (h : BookAt Z.cC Z.cB H x t b) (ok : b.Ok) (k : ∀ y H', H y = none → Same H H' → BookAt Z.cC Z.cB H' y b.up.text b.up → Q (.ref y) H') :
    ∃ a dx fs, V.ref x = .ref a ∧ H a = some (.ins Z.cB dx fs) ∧ sp_B_neg Z [.ref a] H Q E := by
  obtain ⟨dx, ta, na, tr, nr, q⟩ := id h
  exact ⟨x, dx, _, rfl, q.ins, x, t, b, rfl, h, ok, k⟩
theorem ok_l_right (T : Txt K mg Z) : GOk P w K mg base CX0 19 Z.f_l_right Z.d_l_right ["_law_pot_here"] (sp_l_right Z) := by
  refine okG T.F_l_right sc_l_right (fun vs H Q E h => ?_) (fun cdv A outer s H vs Q E g hr h => ?_)
  · obtain ⟨p, n, rfl, _⟩ := h
    rfl
  · obtain ⟨p, n, rfl, hp, hn, hT, k⟩ := h
    have sl : sizeLine = 16777216 := sizeLine_eq
    refine ⟨_, (pss_cons (ps_set (i := 1) sc_l_right.nd rfl (Or.inl rfl) (pe_call (ok_l_grown T) (hr.mono (by decide)) rfl T.g_l_grown T.k_l_grown T.bn_l_grown .nil pass0 (pa_cons (pv 0) pa_nil)))
      (pss_cons (ps_par (i := 2) (j := 3) (by rfl) sc_l_right.nd rfl rfl (by decide) rfl rfl (pa_cons (pe_call (ok_l_book T) (hr.mono (by decide)) rfl T.g_l_book T.k_l_book T.bn_l_book .nil pass0 (pa_cons (pv 1) pa_nil)) (pa_cons (pe_join pe_str (pe_call (ok_l_loose T) (hr.mono (by decide)) rfl T.g_l_loose T.k_l_loose T.bn_l_loose .nil pass0 (pa_cons (pv 1) pa_nil))) pa_nil)) (by rfl))
      (pss_cons (ps_set (i := 4) sc_l_right.nd rfl (Or.inl rfl) (pe_make (mkB T) (ok_B_init T) (hr.mono (by decide)) rfl T.g_Bk T.bn_B_init .nil pass0 (pa_cons (pv 3) pa_nil)))
      (pss_cons (ps_setLc (i := 5) (own := [("_law_tie_here", 6)]) rfl sc_l_right.nd rfl rfl (sw_true rfl rfl rfl (by decide +kernel)) (pi_tup (pe_fld (pv 4) rfl)) (blkOk_by (own := [("_law_tie_here", 6)]) (N := ["_law_pot_here", "_law_lore_here", "_law_plain", "_law_page", "_law_loose_here", "_law_rows", "_law_tie_here"]) (sc := defScope s_l_right) (by decide +kernel)) (fun _ _ _ _ _ => (pg_name (i := 6) sc_l_right.nd rfl (Or.inl rfl))) (fun _ _ _ _ _ => pts_nil) (fun _ _ _ _ _ => (pe_call (ok_l_row_of T) (hr.mono (by decide)) rfl T.g_l_row_of T.k_l_row_of T.bn_l_row_of .nil pass0 (pa_cons (pv 6) pa_nil))))
      (pss_cons (ps_if (pt_cmpR op_ne (pe_callB (r := rRepr K) (id := "repr")  (call_repr (by exact g) (by exact hr.units)) (by rfl) T.b_repr (by decide +kernel) (pa_cons (pe_lst (pa_cons (pe_fld (pv 4) rfl) (pa_cons (pv 5) (pa_cons (pe_fld (pv 4) rfl) (pa_cons (pe_callB (id := "len") (call_lenO (E := E0) (ok_B_len T) ((hr.mono (j := 2) (by decide)).in1) T.bn_B_len pass0 T.a_B_len T.i_B_len) (by rfl) T.b_len (by decide +kernel) (pa_cons (pv 4) pa_nil)) pa_nil))))) pa_nil)) (pe_callB (r := rRepr K) (id := "repr")  (call_repr (by exact g) (by exact hr.units)) (by rfl) T.b_repr (by decide +kernel) (pa_cons (pe_lst (pa_cons (pv 3) (pa_cons (pe_dget (hu_of hr) (pv 1) pe_str (fun _ _ => rfl)) (pa_cons (pe_fld (pv 2) rfl) (pa_cons (pe_callB  call_len (by rfl) T.b_len (by decide +kernel) (pa_cons (pe_dget (hu_of hr) (pv 1) pe_str (fun _ _ => rfl)) pa_nil)) pa_nil))))) pa_nil)) (nomark _)) (pss_one (ps_ret pe_bl)) pss_nil)
      (pss_cons (ps_if (PW.pt (pw_or (pt_cmpR (op_eqO (E := E0) (ok_B_eq T) (hr.mono (by decide)) T.bn_B_eq pass0 T.z_notTB T.a_B_eq T.i_B_eq) (pv 4) (pv 2) (nomark _)) (pw_or (pt_not (pt_cmpR (op_eqO (E := E0) (ok_B_eq T) (hr.mono (by decide)) T.bn_B_eq pass0 T.z_notTB T.a_B_eq T.i_B_eq) (pv 4) (pe_make (mkB T) (ok_B_init T) (hr.mono (by decide)) rfl T.g_Bk T.bn_B_init .nil pass0 (pa_cons (pv 3) pa_nil)) (nomark _))) (pw_or1 (pt_not (pt_cmpR (op_neO (E := E0) (ok_B_eq T) ((hr.mono (j := 2) (by decide)).in1) hr.units T.bn_B_eq pass0 T.z_notTB T.z_mroB T.z_neB T.a_B_eq T.i_B_eq) (pv 4) (pv 2) (nomark _))))))) (pss_one (ps_ret pe_bl)) pss_nil)
      (pss_cons (ps_if (PW.pt (pw_or (pt_not (pt_val (pe_call (ok_l_are_more_right T) (hr.mono (by decide)) rfl T.g_l_are_more_right T.k_l_are_more_right T.bn_l_are_more_right .nil pass0 (pa_cons (pv 0) (pa_cons (pv 1) (pa_cons (pv 4) pa_nil)))))) (pw_or1 (pt_not (pt_val (pe_call (ok_l_are_joined_right T) (hr.mono (by decide)) rfl T.g_l_are_joined_right T.k_l_are_joined_right T.bn_l_are_joined_right .nil pass0 (pa_cons (pv 0) (pa_cons (pv 1) (pa_cons (pv 4) pa_nil))))))))) (pss_one (ps_ret pe_bl)) pss_nil)
      (pss_cons (ps_if (PW.pt (pw_or (pt_not (pt_cmpR (op_eqO (E := E0) (ok_B_eq T) (hr.mono (by decide)) T.bn_B_eq pass0 T.z_notTB T.a_B_eq T.i_B_eq) (pe_un (un_own (ok_B_invert T) (hr.mono (by decide)) T.bn_B_invert pass0 T.a_B_invert T.i_B_invert) (pv 4)) (pe_call (ok_l_book T) (hr.mono (by decide)) rfl T.g_l_book T.k_l_book T.bn_l_book .nil pass0 (pa_cons (pe_call (ok_l_turned T) (hr.mono (by decide)) rfl T.g_l_turned T.k_l_turned T.bn_l_turned .nil pass0 (pa_cons (pv 1) pa_nil)) pa_nil)) (nomark _))) (pw_or1 (pt_not (pt_cmpR (op_eqO (E := E0) (ok_B_eq T) (hr.mono (by decide)) T.bn_B_eq pass0 T.z_notTB T.a_B_eq T.i_B_eq) (pe_un (un_ownNeg (ok_B_neg T) (hr.mono (by decide)) T.bn_B_neg pass0 T.a_B_neg T.i_B_neg) (pv 4)) (pe_call (ok_l_book T) (hr.mono (by decide)) rfl T.g_l_book T.k_l_book T.bn_l_book .nil pass0 (pa_cons (pe_call (ok_l_upside T) (hr.mono (by decide)) rfl T.g_l_upside T.k_l_upside T.bn_l_upside .nil pass0 (pa_cons (pv 1) pa_nil)) pa_nil)) (nomark _)))))) (pss_one (ps_ret pe_bl)) pss_nil)
      (pss_one (ps_ret (pe_cmpR op_eq (pe_fld (pv 4) rfl) (pv 3) (nomark _)))))))))))), ?_⟩
    refine ⟨_, rfl, p, n, rfl, hp, by omega, fun d b n1 H1 one hn1 hp1 k1 L1 => ?_⟩
    have okb := one.ok
    have tn := one.tn; have nn := one.nn
    have ls := lines_sumF (fl := true) okb
    refine ⟨_, rfl, p, d, b, rfl, L1, okb, fun x0 H2 nx0 s2 K0 => ?_⟩
    refine ⟨⟨_, rfl⟩, _, rfl, p, d, b, rfl, L1.same s2, okb, fun l H3 nl s3 hl => ?_⟩
    refine ⟨_, l, b.linesF true, rfl, rfl, .inl (SqL.of hl), by omega, ?_⟩
    refine ⟨_, _, rfl, ?_⟩
    refine ⟨_, rfl, fun x dx nx nd ne => ⟨x, dx, b, true, rfl, okb, upd_same, fun H4 hb kp => ⟨rfl, ?_⟩⟩⟩
    have s14 := (s2.trans s3).trans (made nx nd kp)
    have W4 : W70 Z p n1 H H4 d x b (b.textF true) := ⟨hp1.same s14, k1.same s14, L1.same s14, hb⟩
    have K4 : BookAt Z.cC Z.cB H4 x0 b.text b := K0.same (s3.trans (made nx nd kp))
    clear s14 K0 s2 s3 hl hb kp
    -- what it tells
    obtain ⟨dy, ta, na, tr, nr, q4⟩ := id W4.k
    have lt := Paired.len q4.ts
    refine ⟨_, rfl, x, _, dy, _, _, rfl, q4.ins, T.clB, T.nB_ties, bfs_ties _ _ _ _, ta, rfl, ⟨_, SqT.of q4.ties⟩, fun D hD => ?_⟩
    refine lc_tup (xs := tr) (fun i H' => ∃ l, H' D = some (.lst l) ∧ RowsAt H' l (b.ts.take i) ∧ Same H4 H') ⟨[], upd_same, .nil, Same.new (Same.refl H4) hD⟩ (fun i H' _ ⟨_, _, _, s⟩ => SqT.of (s _ _ q4.ties)) ?_ ?_
    · rintro i x' H5 hi ⟨l', hDi, hl', s5⟩
      refine ⟨rfl, ?_⟩
      unfold tYes
      refine iteT ?_
      obtain ⟨r, hr', y, rfl, hy⟩ := Paired.at q4.ts hi
      have ll := Paired.len hl'
      rw [List.length_take] at ll
      refine ⟨_, rfl, y, r, rfl, Same.tie s5 hy, fun x2 nx2 => ?_⟩
      have s6 := Same.new (o := .tup r.vs) (Same.refl H5) nx2
      have hD6 := s6 _ _ hDi
      refine ⟨_, hD6, by omega, l' ++ [.ref x2], upd_same, ?_, same_put (s5.trans s6) hD⟩
      rw [take_snoc hr']
      exact Paired.snoc ⟨x2, rfl, (upd_ne (ne_of upd_same hD6 fun z => nomatch z)).trans upd_same⟩ ((hl'.same s6).put hD6)
    rintro H5 ⟨l', hD5, hl', s5⟩
    rw [List.take_of_length_le (by omega)] at hl'
    have W5 := W4.same s5
    have K5 := K4.same s5
    clear W4 K4 q4 lt
    obtain ⟨dy, ta, na, tr, nr, q5⟩ := id W5.k
    obtain ⟨dp, tp', np', trp, nrp, qp⟩ := id K5
    obtain ⟨tl5, nl5, trl, nrl, I5⟩ := id W5.l
    have ltl := Paired.len I5.ts
    obtain ⟨d1, d2, d3, d4⟩ := datB_ok one
    refine ⟨_, rfl, x, _, dy, _, _, rfl, q5.ins, T.clB, T.nB_text, bfs_text _ _ _ _, _, rfl, ?_⟩
    refine ⟨_, rfl, x, _, dy, _, _, rfl, q5.ins, T.clB, T.nB_notes, bfs_notes _ _ _ _, ?_⟩
    refine ⟨_, rfl, x, _, _, rfl, q5.ins, x, _, b, rfl, W5.k, _, rfl, ⟨by omega, by omega⟩, by show 4 ≤ sizeLine; decide, fun v1 hv1 => ?_⟩
    have s6 := Same.new (o := .lst [.str (b.textF true), .ref D, .ref na, .int (b.ts.length : Int)]) (Same.refl H5) hv1
    have at6 : upd H5 v1 (.lst [.str (b.textF true), .ref D, .ref na, .int (b.ts.length : Int)]) v1 = some (.lst [.str (b.textF true), .ref D, .ref na, .int (b.ts.length : Int)]) := upd_same
    generalize upd H5 v1 (.lst [.str (b.textF true), .ref D, .ref na, .int (b.ts.length : Int)]) = H6 at s6 at6 ⊢
    have dp1 : Dp K H6 (.ref v1) (datB (b.textF true) b) := .lst (SqL.of at6) (.cons (.str _) (.cons (.lst (SqL.of (s6 _ _ hD5)) (hl'.same s6).dps) (.cons (.tup (q5.notes.same s6).sq (q5.ns.same s6).dps) (.cons (.int _) .nil))))
    refine ⟨_, datB (b.textF true) b, rfl, dp1, d1, d2, d3, d4, ?_⟩
    -- what is due
    have W6 := W5.same s6
    have I6 := I5.same s6
    refine ⟨_, rfl, _, rfl, d, _, rfl, get_ties I6.dic, ?_⟩
    refine ⟨_, rfl, x0, _, dp, _, _, rfl, s6 _ _ qp.ins, T.clB, T.nB_notes, bfs_notes _ _ _ _, ?_⟩
    refine ⟨_, rfl, d, _, rfl, get_ties I6.dic, _, _, rfl, .inl ⟨_, SqL.of I6.ties, rfl⟩, by show 4 ≤ sizeLine; decide, fun v2 hv2 => ?_⟩
    have s7 := Same.new (o := .lst [.str (Txt.join (Str.ofString "\n") (b.linesF true)), .ref tl5, .ref np', .int (trl.length : Int)]) (Same.refl H6) hv2
    have at7 : upd H6 v2 (.lst [.str (Txt.join (Str.ofString "\n") (b.linesF true)), .ref tl5, .ref np', .int (trl.length : Int)]) v2 = some (.lst [.str (b.textF true), .ref tl5, .ref np', .int (b.ts.length : Int)]) := by rw [upd_same, ltl] <;> rfl
    generalize upd H6 v2 (.lst [.str (Txt.join (Str.ofString "\n") (b.linesF true)), .ref tl5, .ref np', .int (trl.length : Int)]) = H7 at s7 at7 ⊢
    have s67 := s6.trans s7
    have dp2 : Dp K H7 (.ref v2) (datB (b.textF true) b) := .lst (SqL.of at7) (.cons (.str _) (.cons (.lst (SqL.of (s7 _ _ I6.ties)) (I6.ts.same s7).dps) (.cons (.tup (qp.notes.same s67).sq (qp.ns.same s67).dps) (.cons (.int _) .nil))))
    refine ⟨_, datB (b.textF true) b, rfl, dp2, d1, d2, d3, d4, rfl, _, rfl, ?_⟩
    rw [decide_eq_true rfl]
    refine iteF ?_
    have W7 := W5.same s67
    have K7 := K5.same s67
    clear dp1 dp2 at6 at7 s6 s7 I6 I5 q5 qp W6 W5 K5 hD5 hl'
    -- equal and unequal
    obtain ⟨r, hr', hl1⟩ := one.one
    have une := loose_ne one.fine hr' hl1
    obtain ⟨dy, ta, na, tr, nr, q7⟩ := id W7.k
    obtain ⟨dp, tp', np', trp, nrp, qp⟩ := id K7
    refine ⟨_, rfl, _, rfl, x, _, _, rfl, q7.ins, .ins qp.ins, x, x0, _, _, _, _, rfl, W7.k, K7, ⟨_, rfl⟩, ?_⟩
    rw [decide_eq_false une]
    refine ⟨false, rfl, iteF ?_⟩
    refine ⟨_, rfl, _, rfl, fun z dz nz ndz nez => ⟨z, dz, b, true, rfl, okb, upd_same, fun H8 hb8 kp8 => ⟨rfl, ?_⟩⟩⟩
    have s8 := made nz ndz kp8
    have W8 := W7.same s8
    have K8 := K7.same s8
    refine eq_books W8.k hb8 rfl ⟨true, rfl, iteF ?_⟩
    obtain ⟨dy8, ta8, na8, tr8, nr8, q8⟩ := id W8.k
    obtain ⟨dp8, tp8, np8, trp8, nrp8, qp8⟩ := id K8
    refine ⟨_, rfl, _, rfl, x, _, _, rfl, q8.ins, .ins qp8.ins, x, x0, _, _, _, _, rfl, W8.k, K8, _, rfl, ?_⟩
    rw [decide_eq_false une]
    refine ⟨true, rfl, iteF ?_⟩
    -- more, joined
    refine ⟨_, rfl, _, rfl, _, rfl, p, d, x, n1, b, b.textF true, rfl, ⟨W8.hp, Keep.rfl', W8.l, W8.k⟩, by omega, one, fun n9 H9 hn9 W9 => ⟨true, rfl, iteF ?_⟩⟩
    refine ⟨_, rfl, _, rfl, _, rfl, p, d, x, n9, b, b.textF true, rfl, ⟨W9.hp, Keep.rfl', W9.l, W9.k⟩, by omega, one, fun nA HA hnA WA => ⟨true, rfl, iteF ?_⟩⟩
    have W : W70 Z p nA H HA d x b (b.textF true) := ⟨WA.hp, (W8.kp.trans W9.kp).trans WA.kp, WA.l, WA.k⟩
    clear W9 WA W8 K8 W7 K7 q7 qp q8 qp8 hb8 kp8 s8
    -- turned about, upside down
    refine ⟨_, rfl, inv_book W.k okb fun u1 HB _ s9 hu1 => ⟨_, rfl, p, d, _, b, rfl, W.hp.same s9, W.l.same s9, by omega, by omega, fun d3 HC _ s10 L10 => ⟨p, d3, b.turn, rfl, L10, okb.turn, fun u2 HD _ s11 hu2 => eq_books ((hu1.same s10).same s11) hu2 rfl ⟨true, rfl, iteF ?_⟩⟩⟩⟩
    have W := W.same ((s9.trans s10).trans s11)
    clear hu1 hu2 L10 s9 s10 s11
    refine ⟨_, rfl, neg_book W.k okb fun u1 HE _ s9 hu1 => ⟨_, rfl, p, d, _, b, rfl, W.hp.same s9, W.l.same s9, by omega, by omega, fun d3 HF _ s10 L10 => ⟨p, d3, b.up, rfl, L10, okb.up, fun u2 HG _ s11 hu2 => eq_books ((hu1.same s10).same s11) hu2 rfl ⟨true, rfl, iteF ?_⟩⟩⟩⟩
    have W := W.same ((s9.trans s10).trans s11)
    clear hu1 hu2 L10 s9 s10 s11
    obtain ⟨dz9, ta9, na9, tr9, nr9, q9⟩ := id W.k
    refine ⟨_, rfl, x, _, dz9, _, _, rfl, q9.ins, T.clB, T.nB_text, bfs_text _ _ _ _, _, rfl, rfl, ?_⟩
    rw [show decide (V.str (b.textF true) = V.str (Txt.join (Str.ofString "\n") (b.linesF true))) = true from decide_eq_true rfl]
    exact k nA _ (by omega) W.hp (fun _ h => nomatch h) (KeepN.of W.kp)
end
end TT

namespace TT
open PySem PySem.Spec PyProof.Rows L2 LamX
def sp_law (K : PySem.W.Frag) (Z : Zs) : Sp := fun vs H Q _ => ∃ (a : Addr) (ns : List Int), vs = [.ref a] ∧ SqL K H a (ns.map V.int) ∧ ns.length ≤ 63 ∧ Tabs (tabs Z) H ∧ ∀ H', Q (.bl true) H'
theorem rg_item {m : Int} {i : Nat} {x : V} (h : (rgV 0 m)[i]? = some x) : ∃ z : Int, x = .int z ∧ 0 ≤ z ∧ z < m := by
  have := List.mem_of_getElem? h
  unfold rgV at this
  obtain ⟨j, hj, rfl⟩ := List.mem_map.mp this
  have := List.mem_range.mp hj
  exact ⟨0 + (j : Int), rfl, by omega, by omega⟩
section
variable {P : Program} {w : World} {K : PySem.W.Frag} {mg : Str → Option Value} {base : Heap} {Z : Zs}
theorem ok_law (T : Txt K mg Z) : GOk P w K mg base CX0 20 Z.f_law Z.d_law ["_law_script"] (sp_law K Z) := by
  refine okG T.F_law sc_law (fun vs H Q E h => ?_) (fun cdv A outer s H vs Q E g hr h => ?_)
  · obtain ⟨a, ns, rfl, _⟩ := h
    rfl
  · obtain ⟨a, ns, rfl, hS, hl, hT, k⟩ := h
    refine ⟨_, (pss_cons (ps_for PassesOwn.never rfl (pi_list (pe_call (ok_l_cells T) (hr.mono (by decide)) rfl T.g_l_cells T.k_l_cells T.bn_l_cells .nil pass0 (pa_cons (pv 0) (pa_cons pe_int pa_nil)))) (pg_name (i := 1) sc_law.nd rfl (Or.inl rfl)) (pss_cons (ps_set (i := 2) sc_law.nd rfl (Or.inr rfl) (pe_call (ok_l_pot T) (hr.mono (by decide)) rfl T.g_l_pot T.k_l_pot T.bn_l_pot .nil pass0 (pa_cons (pv 0) (pa_cons (pv 1) pa_nil))))
      (pss_one (ps_if (pt_not (pt_val (pe_callB  (cr_all rfl) (by rfl) T.b_all (by decide +kernel) (pa_cons (pe_lc (own := [("_law_lap", 3)]) rfl sc_law.nd (pi_range1 rfl T.b_range (pa_cons pe_int pa_nil)) (blkOk_by (own := [("_law_lap", 3)]) (N := ["_law_script", "_law_k", "_law_pot_here", "_law_lap"]) (sc := defScope s_law) (by decide +kernel)) (fun _ _ _ _ _ => (pg_name (i := 3) sc_law.nd rfl (Or.inl rfl))) (fun _ _ _ _ _ => pts_nil) (fun _ _ _ _ _ => (pe_callG (ok_l_right T) (by exact g) (hr.mono (by decide)) rfl T.g_l_right T.k_l_right T.bn_l_right .nil pass0 (pa_cons (pv 2) pa_nil)))) pa_nil)))) (pss_one (ps_ret pe_bl)) pss_nil))))
      (pss_one (ps_ret pe_bl))), ?_⟩
    refine ⟨_, rfl, a, ns, 4, rfl, hS, hl, by decide, by decide, fun q m nq m1 m2 => ?_⟩
    have s0 := Same.new (o := .lst (rgV 0 m)) (Same.refl H) nq
    refine ⟨q, rfl, ⟨_, SqL.of upd_same⟩, for_list (xs := rgV 0 m) (fun _ σ H' => ∃ v1 v2, σ = [some (.ref a), v1, v2, none] ∧ ExtN (upd H q (.lst (rgV 0 m))) H' ∧ Tabs (tabs Z) H') ⟨_, _, rfl, ExtN.refl _, hT.ext s0⟩ (fun i σ H' _ ⟨_, _, _, e, _⟩ => ExtN.seq e (SqL.of upd_same)) ?_ ?_⟩
    · rintro i x σ H1 hi ⟨v1, v2, rfl, e1, hT1⟩
      obtain ⟨z, rfl, z0, z1⟩ := rg_item hi
      refine ⟨_, rfl, _, rfl, a, ns, z, rfl, ExtN.seq e1 (s0.seq hS), hl, z0, by omega, fun p H2 np s2 hp2 => ?_⟩
      refine ⟨3, rfl, by decide, by decide, fun D hD => ?_⟩
      have npD : p ≠ D := hp2.ne hD
      have hT2 := hT1.ext s2
      have sD := Same.new (o := .lst []) (Same.refl H2) hD
      refine lc_range (n := 3) (fun i H' => ∃ n', n' ≤ 500 * i ∧ Pot H' p n' ∧ H' D = some (.lst (List.replicate i (.bl true))) ∧ KeepN p H2 H' ∧ Tabs (tabs Z) H') ⟨0, Nat.le_refl _, hp2.new hD, upd_same, KeepN.of (Keep.rfl'.new hD), hT2.ext sD⟩ ?_ ?_
      · rintro j H' hj ⟨n', hn', hp', hD', kp', hT'⟩
        refine ⟨rfl, ?_⟩
        unfold tYes
        refine iteT ?_
        refine ⟨_, rfl, p, n', rfl, hp', by omega, hT', fun n2 H3 hn2 hp3 hT3 k3 => ?_⟩
        have hD3 := k3 _ _ npD.symm hD' (fun _ z => nomatch z)
        have kD : ∀ b o, b ≠ D → H3 b = some o → upd H3 D (.lst (List.replicate j (.bl true) ++ [.bl true])) b = some o := fun b o n e => by rw [upd_ne n]; exact e
        refine ⟨_, hD3, ?_, n2, by omega, ?_, ?_, fun b o nb e t => ?_, fun y hy => ?_⟩
        · rw [List.length_replicate]
          exact Nat.lt_trans hj (by decide)
        · obtain ⟨x1, x2, e1, e2⟩ := hp3
          exact ⟨x1, x2, kD _ _ npD e1, e2⟩
        · rw [← List.replicate_succ']
          exact upd_same
        · exact kD _ _ (ne_of_none e hD) (k3 _ _ nb (kp' _ _ nb e t) t)
        · obtain ⟨ps, h1, h2, h3⟩ := hT3 y hy
          refine ⟨ps, kD _ _ (ne_of h1 hD3 fun z => by cases z) h1, h2, fun pos cv hc => ?_⟩
          obtain ⟨c, g1, g2⟩ := h3 pos cv hc
          exact ⟨c, g1, kD _ _ (ne_of g2 hD3 fun z => by unfold CodeO at z; cases z) g2⟩
      · rintro H' ⟨n', hn', hp', hD', kp', hT'⟩
        refine ⟨D, List.replicate 3 true, rfl, SqL.of (by rw [List.map_replicate]; exact hD'), _, rfl, ?_⟩
        refine iteF ?_
        refine ⟨_, _, rfl, fun b o e t => ?_, hT'⟩
        have q1 := e1 _ _ e t
        exact kp' _ _ (ne_of_none q1 np) (s2 _ _ q1) t
    · rintro σ H' ⟨v1, v2, rfl, _⟩
      exact k H'
end
end TT

set_option Elab.async false
set_option linter.all false
set_option maxRecDepth 100000
set_option maxHeartbeats 8000000
namespace TT
open PySem PySem.Spec PyProof.Rows L2 LamX
theorem kit_self {K : PySem.W.Frag} {a : Addr} : PySem.W.kitOne K (.ref a) (.ref a) = some true := by
  unfold PySem.W.kitOne
  rw [if_pos (beq_iff_eq.mpr rfl)]
theorem kit_not {K : PySem.W.Frag} {T : String} {C : Addr} (h1 : PySem.W.mroIn K C (.type "object") = some true) (h2 : PySem.W.typeIn K (.ref C) = some (.type "type")) (h3 : PySem.W.subIn K (.type T) (.ref C) = some false) : PySem.W.kitOne K (.type T) (.ref C) = some false := by
  have h0 : (PySem.W.clsIn K C).isSome = true := by
    unfold PySem.W.mroIn at h1
    obtain ⟨cd, a, _⟩ := Option.bind_eq_some_iff.mp h1
    rw [a]; rfl
  have hc : PySem.W.kitCls K (.type T) (.ref C) = some false := by
    unfold PySem.W.kitCls
    simp only
    rw [if_pos (by rw [h0, h2]; rfl)]
    exact h3
  unfold PySem.W.kitOne
  have ne : ¬ ((Value.type T == Value.ref C) = true) := fun e => by
    have e2 := beq_iff_eq.mp e
    cases e2
  rw [if_neg ne]
  exact hc
theorem all_mk {l : PySem.W.OpenLaw} {q : Program} {w : World} {K : PySem.W.Frag} {h : Heap} {mg : Str → Option Value} {fa C CB c0 c1 c2 c3 c4 c5 c6 c7 c8 f0 f1 f2 f3 f4 f5 f6 f7 f8 f9 f10 f11 f12 f13 f14 f15 f16 f17 f18 f19 f20 f21 f22 f23 f24 f25 f26 f27 f28 f29 f30 f31 f32 f33 f34 f35 f36 f37 f38 f39 f40 f41 f42 f43 f44 f45 f46 f47 f48 f49 f50 f51 f52 f53 f54 f55 f56 f57 f58 f59 aT7 aD7 : Addr} (X : K.In h) (G : h.Ns mainGlobals mg) (hfa : mg "law" = some (.ref fa))
    (tab : ∀ d ∈ recsOf q, ∃ a o fd c P, mg d.name = some (.ref a) ∧ h.get? a = some o ∧ o.data = .func fd ∧ fd.code = .ref c ∧ h.IsCode c P #[] ∧ h.TableAt c P #[])
    {pS : Addr} {rS : List Value} {od0 an0 od1 an1 od2 an2 od3 an3 od4 an4 od5 an5 od6 an6 od7 an7 odT7 od8 an8 od9 an9 od10 an10 od11 an11 od12 an12 od13 an13 od14 an14 od15 an15 od16 an16 od17 an17 od18 an18 od19 an19 od20 an20 od21 an21 od22 an22 od23 an23 od24 an24 od25 an25 od26 an26 od27 an27 od28 an28 od29 an29 od30 an30 od31 an31 od32 an32 od33 an33 od34 an34 od35 an35 od36 an36 od37 an37 od38 an38 od39 an39 od40 an40 od41 an41 od42 an42 od43 an43 od44 an44 od45 an45 od46 an46 od47 an47 od48 an48 od49 an49 od50 an50 od51 an51 od52 an52 od53 an53 od54 an54 od55 an55 od56 an56 od57 an57 od58 an58 od59 an59 : Option Addr} {sl0 sl1 sl2 sl3 sl4 sl5 sl6 sl7 slT7 sl8 sl9 sl10 sl11 sl12 sl13 sl14 sl15 sl16 sl17 sl18 sl19 sl20 sl21 sl22 sl23 sl24 sl25 sl26 sl27 sl28 sl29 sl30 sl31 sl32 sl33 sl34 sl35 sl36 sl37 sl38 sl39 sl40 sl41 sl42 sl43 sl44 sl45 sl46 sl47 sl48 sl49 sl50 sl51 sl52 sl53 sl54 sl55 sl56 sl57 sl58 sl59 : Array (Option Value)} {oc0 kV0 dc0 pm0 cd0 ct0 oc1 kV1 dc1 pm1 cd1 ct1 oc2 kV2 dc2 pm2 cd2 ct2 oc3 kV3 dc3 pm3 cd3 ct3 oc4 kV4 dc4 pm4 cd4 ct4 oc5 kV5 dc5 pm5 cd5 ct5 oc6 kV6 dc6 pm6 cd6 ct6 oc7 dc7 pm7 cd7 ct7 ocT7 oc8 kV8 dc8 pm8 cd8 ct8 oc9 kV9 dc9 pm9 cd9 ct9 oc10 kV10 dc10 pm10 cd10 ct10 oc11 kV11 dc11 pm11 cd11 ct11 oc12 kV12 dc12 pm12 cd12 ct12 oc13 kV13 dc13 pm13 cd13 ct13 oc14 kV14 dc14 pm14 cd14 ct14 oc15 kV15 dc15 pm15 cd15 ct15 oc16 kV16 dc16 pm16 cd16 ct16 oc17 kV17 dc17 pm17 cd17 ct17 oc18 kV18 dc18 pm18 cd18 ct18 oc19 kV19 dc19 pm19 cd19 ct19 oc20 kV20 dc20 pm20 cd20 ct20 oc21 kV21 dc21 pm21 cd21 ct21 oc22 kV22 dc22 pm22 cd22 ct22 oc23 kV23 dc23 pm23 cd23 ct23 oc24 kV24 dc24 pm24 cd24 ct24 oc25 kV25 dc25 pm25 cd25 ct25 oc26 kV26 dc26 pm26 cd26 ct26 oc27 kV27 dc27 pm27 cd27 ct27 oc28 kV28 dc28 pm28 cd28 ct28 oc29 kV29 dc29 pm29 cd29 ct29 oc30 kV30 dc30 pm30 cd30 ct30 oc31 kV31 dc31 pm31 cd31 ct31 oc32 kV32 dc32 pm32 cd32 ct32 oc33 kV33 dc33 pm33 cd33 ct33 oc34 kV34 dc34 pm34 cd34 ct34 oc35 kV35 dc35 pm35 cd35 ct35 oc36 kV36 dc36 pm36 cd36 ct36 oc37 kV37 dc37 pm37 cd37 ct37 oc38 kV38 dc38 pm38 cd38 ct38 oc39 kV39 dc39 pm39 cd39 ct39 oc40 kV40 dc40 pm40 cd40 ct40 oc41 kV41 dc41 pm41 cd41 ct41 oc42 kV42 dc42 pm42 cd42 ct42 oc43 kV43 dc43 pm43 cd43 ct43 oc44 kV44 dc44 pm44 cd44 ct44 oc45 kV45 dc45 pm45 cd45 ct45 oc46 kV46 dc46 pm46 cd46 ct46 oc47 kV47 dc47 pm47 cd47 ct47 oc48 kV48 dc48 pm48 cd48 ct48 oc49 kV49 dc49 pm49 cd49 ct49 oc50 kV50 dc50 pm50 cd50 ct50 oc51 kV51 dc51 pm51 cd51 ct51 oc52 kV52 dc52 pm52 cd52 ct52 oc53 kV53 dc53 pm53 cd53 ct53 oc54 kV54 dc54 pm54 cd54 ct54 oc55 kV55 dc55 pm55 cd55 ct55 oc56 kV56 dc56 pm56 cd56 ct56 oc57 kV57 dc57 pm57 cd57 ct57 oc58 kV58 dc58 pm58 cd58 ct58 oc59 kV59 dc59 pm59 cd59 ct59 : Value} {nT7 : Nat} {tD7_0 t_GREATEST t__DIGITS t__CHUNK t_MOST : Tok}
    (aC : PySem.W.nsIn K mainGlobals "Tie" = some (some (.ref C)))
    (aB : PySem.W.nsIn K mainGlobals "Book" = some (some (.ref CB)))
    (m_read : PySem.W.readsIn K C (.type "type") = true)
    (m_ga : PySem.W.specialIn K (.ref C) "__getattribute__" = some (some (.builtin "type.__getattribute__")))
    (m_sta : PySem.W.findCls K (.ref C) (.type "type") "of" = some (.get (.builtin "staticmethod.__get__") (.ref pS) .none (.ref C)))
    (ge0 : PySem.W.nsIn K mainGlobals "Full" = some (some (.ref c0)))
    (ge1 : PySem.W.nsIn K mainGlobals "OtherNote" = some (some (.ref c1)))
    (ge2 : PySem.W.nsIn K mainGlobals "OtherSize" = some (some (.ref c2)))
    (ge3 : PySem.W.nsIn K mainGlobals "BadSize" = some (some (.ref c3)))
    (ge4 : PySem.W.nsIn K mainGlobals "BadTie" = some (some (.ref c4)))
    (ge5 : PySem.W.nsIn K mainGlobals "NoTie" = some (some (.ref c5)))
    (ge6 : PySem.W.nsIn K mainGlobals "NoPlace" = some (some (.ref c6)))
    (ge7 : PySem.W.nsIn K mainGlobals "BadNote" = some (some (.ref c7)))
    (ge8 : PySem.W.nsIn K mainGlobals "TuneError" = some (some (.ref c8)))
    (hin : PySem.W.findIn K (.ref c8) "__init__" = some (some (.ref f0)))
    (i0 : PySem.W.isFn K (.ref f0) = true)
    (l0 : K.lookup f0 = some ⟨oc0, od0, .func (PySem.W.fnOf "__init__" "TuneError.__init__" (defArgs s_E_init) (defBody s_E_init) (defScope s_E_init) .none kV0 dc0 pm0 an0 cd0 ct0), sl0⟩)
    (d0 : PySem.W.codeIn K cd0 "TuneError.__init__" = true)
    (k0 : PySem.W.keepIn K (.ref f0) = true)
    (a1 : PySem.W.nsIn K mainGlobals "is_whole" = some (some (.ref f1)))
    (l1 : K.lookup f1 = some ⟨oc1, od1, .func (PySem.W.fnOf "is_whole" "is_whole" (defArgs s_is_whole) (defBody s_is_whole) (defScope s_is_whole) .none kV1 dc1 pm1 an1 cd1 ct1), sl1⟩)
    (d1 : PySem.W.codeIn K cd1 "is_whole" = true)
    (k1 : PySem.W.keepIn K (.ref f1) = true)
    (a2 : PySem.W.nsIn K mainGlobals "is_from" = some (some (.ref f2)))
    (l2 : K.lookup f2 = some ⟨oc2, od2, .func (PySem.W.fnOf "is_from" "is_from" (defArgs s_is_from) (defBody s_is_from) (defScope s_is_from) .none kV2 dc2 pm2 an2 cd2 ct2), sl2⟩)
    (d2 : PySem.W.codeIn K cd2 "is_from" = true)
    (k2 : PySem.W.keepIn K (.ref f2) = true)
    (a3 : PySem.W.nsIn K mainGlobals "is_between" = some (some (.ref f3)))
    (l3 : K.lookup f3 = some ⟨oc3, od3, .func (PySem.W.fnOf "is_between" "is_between" (defArgs s_is_between) (defBody s_is_between) (defScope s_is_between) .none kV3 dc3 pm3 an3 cd3 ct3), sl3⟩)
    (d3 : PySem.W.codeIn K cd3 "is_between" = true)
    (k3 : PySem.W.keepIn K (.ref f3) = true)
    (a4 : PySem.W.nsIn K mainGlobals "written" = some (some (.ref f4)))
    (l4 : K.lookup f4 = some ⟨oc4, od4, .func (PySem.W.fnOf "written" "written" (defArgs s_written) (defBody s_written) (defScope s_written) .none kV4 dc4 pm4 an4 cd4 ct4), sl4⟩)
    (d4 : PySem.W.codeIn K cd4 "written" = true)
    (k4 : PySem.W.keepIn K (.ref f4) = true)
    (a5 : PySem.W.nsIn K mainGlobals "number_in" = some (some (.ref f5)))
    (l5 : K.lookup f5 = some ⟨oc5, od5, .func (PySem.W.fnOf "number_in" "number_in" (defArgs s_number_in) (defBody s_number_in) (defScope s_number_in) .none kV5 dc5 pm5 an5 cd5 ct5), sl5⟩)
    (d5 : PySem.W.codeIn K cd5 "number_in" = true)
    (k5 : PySem.W.keepIn K (.ref f5) = true)
    (a6 : PySem.W.nsIn K mainGlobals "_number_of" = some (some (.ref f6)))
    (l6 : K.lookup f6 = some ⟨oc6, od6, .func (PySem.W.fnOf "_number_of" "_number_of" (defArgs s_number_of) (defBody s_number_of) (defScope s_number_of) .none kV6 dc6 pm6 an6 cd6 ct6), sl6⟩)
    (d6 : PySem.W.codeIn K cd6 "_number_of" = true)
    (k6 : PySem.W.keepIn K (.ref f6) = true)
    (a7 : PySem.W.findIn K (.ref C) "__init__" = some (some (.ref f7)))
    (i7 : PySem.W.isFn K (.ref f7) = true)
    (l7 : K.lookup f7 = some ⟨oc7, od7, .func (PySem.W.fnOf "__init__" "Tie.__init__" (defArgs s_T_init) (defBody s_T_init) (defScope s_T_init) (.ref aT7) (.ref aD7) dc7 pm7 an7 cd7 ct7), sl7⟩)
    (d7 : PySem.W.codeIn K cd7 "Tie.__init__" = true)
    (k7 : PySem.W.keepIn K (.ref f7) = true)
    (lT7 : K.lookup aT7 = some ⟨ocT7, odT7, .seq ([Value.int 0 tD7_0] : List Value).toArray nT7, slT7⟩)
    (w7_down : PySem.W.nsIn K aD7 "down" = some (some (.bool false)))
    (w7_backward : PySem.W.nsIn K aD7 "backward" = some (some (.bool false)))
    (a8 : PySem.W.recIn K pS "staticmethod" = some ((.ref f8) :: rS))
    (i8 : PySem.W.isFn K (.ref f8) = true)
    (l8 : K.lookup f8 = some ⟨oc8, od8, .func (PySem.W.fnOf "of" "Tie.of" (defArgs s_T_of) (defBody s_T_of) (defScope s_T_of) .none kV8 dc8 pm8 an8 cd8 ct8), sl8⟩)
    (d8 : PySem.W.codeIn K cd8 "Tie.of" = true)
    (k8 : PySem.W.keepIn K (.ref f8) = true)
    (a9 : PySem.W.findIn K (.ref C) "__eq__" = some (some (.ref f9)))
    (i9 : PySem.W.isFn K (.ref f9) = true)
    (l9 : K.lookup f9 = some ⟨oc9, od9, .func (PySem.W.fnOf "__eq__" "Tie.__eq__" (defArgs s_T_eq) (defBody s_T_eq) (defScope s_T_eq) .none kV9 dc9 pm9 an9 cd9 ct9), sl9⟩)
    (d9 : PySem.W.codeIn K cd9 "Tie.__eq__" = true)
    (k9 : PySem.W.keepIn K (.ref f9) = true)
    (a10 : PySem.W.nsIn K mainGlobals "is_tie_within" = some (some (.ref f10)))
    (l10 : K.lookup f10 = some ⟨oc10, od10, .func (PySem.W.fnOf "is_tie_within" "is_tie_within" (defArgs s_is_tie_within) (defBody s_is_tie_within) (defScope s_is_tie_within) .none kV10 dc10 pm10 an10 cd10 ct10), sl10⟩)
    (d10 : PySem.W.codeIn K cd10 "is_tie_within" = true)
    (k10 : PySem.W.keepIn K (.ref f10) = true)
    (a11 : PySem.W.nsIn K mainGlobals "_check_parts" = some (some (.ref f11)))
    (l11 : K.lookup f11 = some ⟨oc11, od11, .func (PySem.W.fnOf "_check_parts" "_check_parts" (defArgs s_check_parts) (defBody s_check_parts) (defScope s_check_parts) .none kV11 dc11 pm11 an11 cd11 ct11), sl11⟩)
    (d11 : PySem.W.codeIn K cd11 "_check_parts" = true)
    (k11 : PySem.W.keepIn K (.ref f11) = true)
    (a12 : PySem.W.nsIn K mainGlobals "_check_leading" = some (some (.ref f12)))
    (l12 : K.lookup f12 = some ⟨oc12, od12, .func (PySem.W.fnOf "_check_leading" "_check_leading" (defArgs s_check_leading) (defBody s_check_leading) (defScope s_check_leading) .none kV12 dc12 pm12 an12 cd12 ct12), sl12⟩)
    (d12 : PySem.W.codeIn K cd12 "_check_leading" = true)
    (k12 : PySem.W.keepIn K (.ref f12) = true)
    (a13 : PySem.W.nsIn K mainGlobals "_values_in" = some (some (.ref f13)))
    (l13 : K.lookup f13 = some ⟨oc13, od13, .func (PySem.W.fnOf "_values_in" "_values_in" (defArgs s_values_in) (defBody s_values_in) (defScope s_values_in) .none kV13 dc13 pm13 an13 cd13 ct13), sl13⟩)
    (d13 : PySem.W.codeIn K cd13 "_values_in" = true)
    (k13 : PySem.W.keepIn K (.ref f13) = true)
    (a14 : PySem.W.nsIn K mainGlobals "numbers_behind" = some (some (.ref f14)))
    (l14 : K.lookup f14 = some ⟨oc14, od14, .func (PySem.W.fnOf "numbers_behind" "numbers_behind" (defArgs s_numbers_behind) (defBody s_numbers_behind) (defScope s_numbers_behind) .none kV14 dc14 pm14 an14 cd14 ct14), sl14⟩)
    (d14 : PySem.W.codeIn K cd14 "numbers_behind" = true)
    (k14 : PySem.W.keepIn K (.ref f14) = true)
    (a15 : PySem.W.nsIn K mainGlobals "tie_behind" = some (some (.ref f15)))
    (l15 : K.lookup f15 = some ⟨oc15, od15, .func (PySem.W.fnOf "tie_behind" "tie_behind" (defArgs s_tie_behind) (defBody s_tie_behind) (defScope s_tie_behind) .none kV15 dc15 pm15 an15 cd15 ct15), sl15⟩)
    (d15 : PySem.W.codeIn K cd15 "tie_behind" = true)
    (k15 : PySem.W.keepIn K (.ref f15) = true)
    (a16 : PySem.W.nsIn K mainGlobals "size_in" = some (some (.ref f16)))
    (l16 : K.lookup f16 = some ⟨oc16, od16, .func (PySem.W.fnOf "size_in" "size_in" (defArgs s_size_in) (defBody s_size_in) (defScope s_size_in) .none kV16 dc16 pm16 an16 cd16 ct16), sl16⟩)
    (d16 : PySem.W.codeIn K cd16 "size_in" = true)
    (k16 : PySem.W.keepIn K (.ref f16) = true)
    (a17 : PySem.W.nsIn K mainGlobals "tie_in" = some (some (.ref f17)))
    (l17 : K.lookup f17 = some ⟨oc17, od17, .func (PySem.W.fnOf "tie_in" "tie_in" (defArgs s_tie_in) (defBody s_tie_in) (defScope s_tie_in) .none kV17 dc17 pm17 an17 cd17 ct17), sl17⟩)
    (d17 : PySem.W.codeIn K cd17 "tie_in" = true)
    (k17 : PySem.W.keepIn K (.ref f17) = true)
    (a18 : PySem.W.nsIn K mainGlobals "note_in" = some (some (.ref f18)))
    (l18 : K.lookup f18 = some ⟨oc18, od18, .func (PySem.W.fnOf "note_in" "note_in" (defArgs s_note_in) (defBody s_note_in) (defScope s_note_in) .none kV18 dc18 pm18 an18 cd18 ct18), sl18⟩)
    (d18 : PySem.W.codeIn K cd18 "note_in" = true)
    (k18 : PySem.W.keepIn K (.ref f18) = true)
    (a19 : PySem.W.findIn K (.ref CB) "__init__" = some (some (.ref f19)))
    (i19 : PySem.W.isFn K (.ref f19) = true)
    (l19 : K.lookup f19 = some ⟨oc19, od19, .func (PySem.W.fnOf "__init__" "Book.__init__" (defArgs s_B_init) (defBody s_B_init) (defScope s_B_init) .none kV19 dc19 pm19 an19 cd19 ct19), sl19⟩)
    (d19 : PySem.W.codeIn K cd19 "Book.__init__" = true)
    (k19 : PySem.W.keepIn K (.ref f19) = true)
    (a20 : PySem.W.findIn K (.ref CB) "__len__" = some (some (.ref f20)))
    (i20 : PySem.W.isFn K (.ref f20) = true)
    (l20 : K.lookup f20 = some ⟨oc20, od20, .func (PySem.W.fnOf "__len__" "Book.__len__" (defArgs s_B_len) (defBody s_B_len) (defScope s_B_len) .none kV20 dc20 pm20 an20 cd20 ct20), sl20⟩)
    (d20 : PySem.W.codeIn K cd20 "Book.__len__" = true)
    (k20 : PySem.W.keepIn K (.ref f20) = true)
    (a21 : PySem.W.findIn K (.ref CB) "with_tie" = some (some (.ref f21)))
    (i21 : PySem.W.isFn K (.ref f21) = true)
    (l21 : K.lookup f21 = some ⟨oc21, od21, .func (PySem.W.fnOf "with_tie" "Book.with_tie" (defArgs s_B_with_tie) (defBody s_B_with_tie) (defScope s_B_with_tie) .none kV21 dc21 pm21 an21 cd21 ct21), sl21⟩)
    (d21 : PySem.W.codeIn K cd21 "Book.with_tie" = true)
    (k21 : PySem.W.keepIn K (.ref f21) = true)
    (a22 : PySem.W.findIn K (.ref CB) "without" = some (some (.ref f22)))
    (i22 : PySem.W.isFn K (.ref f22) = true)
    (l22 : K.lookup f22 = some ⟨oc22, od22, .func (PySem.W.fnOf "without" "Book.without" (defArgs s_B_without) (defBody s_B_without) (defScope s_B_without) .none kV22 dc22 pm22 an22 cd22 ct22), sl22⟩)
    (d22 : PySem.W.codeIn K cd22 "Book.without" = true)
    (k22 : PySem.W.keepIn K (.ref f22) = true)
    (a23 : PySem.W.findIn K (.ref CB) "with_note" = some (some (.ref f23)))
    (i23 : PySem.W.isFn K (.ref f23) = true)
    (l23 : K.lookup f23 = some ⟨oc23, od23, .func (PySem.W.fnOf "with_note" "Book.with_note" (defArgs s_B_with_note) (defBody s_B_with_note) (defScope s_B_with_note) .none kV23 dc23 pm23 an23 cd23 ct23), sl23⟩)
    (d23 : PySem.W.codeIn K cd23 "Book.with_note" = true)
    (k23 : PySem.W.keepIn K (.ref f23) = true)
    (a24 : PySem.W.findIn K (.ref CB) "__or__" = some (some (.ref f24)))
    (i24 : PySem.W.isFn K (.ref f24) = true)
    (l24 : K.lookup f24 = some ⟨oc24, od24, .func (PySem.W.fnOf "__or__" "Book.__or__" (defArgs s_B_or) (defBody s_B_or) (defScope s_B_or) .none kV24 dc24 pm24 an24 cd24 ct24), sl24⟩)
    (d24 : PySem.W.codeIn K cd24 "Book.__or__" = true)
    (k24 : PySem.W.keepIn K (.ref f24) = true)
    (a25 : PySem.W.findIn K (.ref CB) "__add__" = some (some (.ref f25)))
    (i25 : PySem.W.isFn K (.ref f25) = true)
    (l25 : K.lookup f25 = some ⟨oc25, od25, .func (PySem.W.fnOf "__add__" "Book.__add__" (defArgs s_B_add) (defBody s_B_add) (defScope s_B_add) .none kV25 dc25 pm25 an25 cd25 ct25), sl25⟩)
    (d25 : PySem.W.codeIn K cd25 "Book.__add__" = true)
    (k25 : PySem.W.keepIn K (.ref f25) = true)
    (a26 : PySem.W.findIn K (.ref CB) "__invert__" = some (some (.ref f26)))
    (i26 : PySem.W.isFn K (.ref f26) = true)
    (l26 : K.lookup f26 = some ⟨oc26, od26, .func (PySem.W.fnOf "__invert__" "Book.__invert__" (defArgs s_B_invert) (defBody s_B_invert) (defScope s_B_invert) .none kV26 dc26 pm26 an26 cd26 ct26), sl26⟩)
    (d26 : PySem.W.codeIn K cd26 "Book.__invert__" = true)
    (k26 : PySem.W.keepIn K (.ref f26) = true)
    (a27 : PySem.W.findIn K (.ref CB) "__neg__" = some (some (.ref f27)))
    (i27 : PySem.W.isFn K (.ref f27) = true)
    (l27 : K.lookup f27 = some ⟨oc27, od27, .func (PySem.W.fnOf "__neg__" "Book.__neg__" (defArgs s_B_neg) (defBody s_B_neg) (defScope s_B_neg) .none kV27 dc27 pm27 an27 cd27 ct27), sl27⟩)
    (d27 : PySem.W.codeIn K cd27 "Book.__neg__" = true)
    (k27 : PySem.W.keepIn K (.ref f27) = true)
    (a28 : PySem.W.findIn K (.ref CB) "__eq__" = some (some (.ref f28)))
    (i28 : PySem.W.isFn K (.ref f28) = true)
    (l28 : K.lookup f28 = some ⟨oc28, od28, .func (PySem.W.fnOf "__eq__" "Book.__eq__" (defArgs s_B_eq) (defBody s_B_eq) (defScope s_B_eq) .none kV28 dc28 pm28 an28 cd28 ct28), sl28⟩)
    (d28 : PySem.W.codeIn K cd28 "Book.__eq__" = true)
    (k28 : PySem.W.keepIn K (.ref f28) = true)
    (a29 : PySem.W.nsIn K mainGlobals "_contents" = some (some (.ref f29)))
    (l29 : K.lookup f29 = some ⟨oc29, od29, .func (PySem.W.fnOf "_contents" "_contents" (defArgs s_contents) (defBody s_contents) (defScope s_contents) .none kV29 dc29 pm29 an29 cd29 ct29), sl29⟩)
    (d29 : PySem.W.codeIn K cd29 "_contents" = true)
    (k29 : PySem.W.keepIn K (.ref f29) = true)
    (a30 : PySem.W.nsIn K mainGlobals "_first_ties" = some (some (.ref f30)))
    (l30 : K.lookup f30 = some ⟨oc30, od30, .func (PySem.W.fnOf "_first_ties" "_first_ties" (defArgs s_first_ties) (defBody s_first_ties) (defScope s_first_ties) .none kV30 dc30 pm30 an30 cd30 ct30), sl30⟩)
    (d30 : PySem.W.codeIn K cd30 "_first_ties" = true)
    (k30 : PySem.W.keepIn K (.ref f30) = true)
    (a31 : PySem.W.nsIn K mainGlobals "_first_notes" = some (some (.ref f31)))
    (l31 : K.lookup f31 = some ⟨oc31, od31, .func (PySem.W.fnOf "_first_notes" "_first_notes" (defArgs s_first_notes) (defBody s_first_notes) (defScope s_first_notes) .none kV31 dc31 pm31 an31 cd31 ct31), sl31⟩)
    (d31 : PySem.W.codeIn K cd31 "_first_notes" = true)
    (k31 : PySem.W.keepIn K (.ref f31) = true)
    (a32 : PySem.W.nsIn K mainGlobals "_has_note" = some (some (.ref f32)))
    (l32 : K.lookup f32 = some ⟨oc32, od32, .func (PySem.W.fnOf "_has_note" "_has_note" (defArgs s_has_note) (defBody s_has_note) (defScope s_has_note) .none kV32 dc32 pm32 an32 cd32 ct32), sl32⟩)
    (d32 : PySem.W.codeIn K cd32 "_has_note" = true)
    (k32 : PySem.W.keepIn K (.ref f32) = true)
    (a33 : PySem.W.nsIn K mainGlobals "_check_notes" = some (some (.ref f33)))
    (l33 : K.lookup f33 = some ⟨oc33, od33, .func (PySem.W.fnOf "_check_notes" "_check_notes" (defArgs s_check_notes) (defBody s_check_notes) (defScope s_check_notes) .none kV33 dc33 pm33 an33 cd33 ct33), sl33⟩)
    (d33 : PySem.W.codeIn K cd33 "_check_notes" = true)
    (k33 : PySem.W.keepIn K (.ref f33) = true)
    (a34 : PySem.W.nsIn K mainGlobals "_book_of" = some (some (.ref f34)))
    (l34 : K.lookup f34 = some ⟨oc34, od34, .func (PySem.W.fnOf "_book_of" "_book_of" (defArgs s_book_of) (defBody s_book_of) (defScope s_book_of) .none kV34 dc34 pm34 an34 cd34 ct34), sl34⟩)
    (d34 : PySem.W.codeIn K cd34 "_book_of" = true)
    (k34 : PySem.W.keepIn K (.ref f34) = true)
    (a35 : PySem.W.nsIn K mainGlobals "_moved" = some (some (.ref f35)))
    (l35 : K.lookup f35 = some ⟨oc35, od35, .func (PySem.W.fnOf "_moved" "_moved" (defArgs s_moved) (defBody s_moved) (defScope s_moved) .none kV35 dc35 pm35 an35 cd35 ct35), sl35⟩)
    (d35 : PySem.W.codeIn K cd35 "_moved" = true)
    (k35 : PySem.W.keepIn K (.ref f35) = true)
    (a36 : PySem.W.nsIn K mainGlobals "_turned" = some (some (.ref f36)))
    (l36 : K.lookup f36 = some ⟨oc36, od36, .func (PySem.W.fnOf "_turned" "_turned" (defArgs s_turned) (defBody s_turned) (defScope s_turned) .none kV36 dc36 pm36 an36 cd36 ct36), sl36⟩)
    (d36 : PySem.W.codeIn K cd36 "_turned" = true)
    (k36 : PySem.W.keepIn K (.ref f36) = true)
    (a37 : PySem.W.nsIn K mainGlobals "_upside_down" = some (some (.ref f37)))
    (l37 : K.lookup f37 = some ⟨oc37, od37, .func (PySem.W.fnOf "_upside_down" "_upside_down" (defArgs s_upside_down) (defBody s_upside_down) (defScope s_upside_down) .none kV37 dc37 pm37 an37 cd37 ct37), sl37⟩)
    (d37 : PySem.W.codeIn K cd37 "_upside_down" = true)
    (k37 : PySem.W.keepIn K (.ref f37) = true)
    (a38 : PySem.W.nsIn K mainGlobals "_law_pot" = some (some (.ref f38)))
    (l38 : K.lookup f38 = some ⟨oc38, od38, .func (PySem.W.fnOf "_law_pot" "_law_pot" (defArgs s_l_pot) (defBody s_l_pot) (defScope s_l_pot) .none kV38 dc38 pm38 an38 cd38 ct38), sl38⟩)
    (d38 : PySem.W.codeIn K cd38 "_law_pot" = true)
    (k38 : PySem.W.keepIn K (.ref f38) = true)
    (a39 : PySem.W.nsIn K mainGlobals "_law_take" = some (some (.ref f39)))
    (l39 : K.lookup f39 = some ⟨oc39, od39, .func (PySem.W.fnOf "_law_take" "_law_take" (defArgs s_l_take) (defBody s_l_take) (defScope s_l_take) .none kV39 dc39 pm39 an39 cd39 ct39), sl39⟩)
    (d39 : PySem.W.codeIn K cd39 "_law_take" = true)
    (k39 : PySem.W.keepIn K (.ref f39) = true)
    (a40 : PySem.W.nsIn K mainGlobals "_law_of" = some (some (.ref f40)))
    (l40 : K.lookup f40 = some ⟨oc40, od40, .func (PySem.W.fnOf "_law_of" "_law_of" (defArgs s_l_of) (defBody s_l_of) (defScope s_l_of) .none kV40 dc40 pm40 an40 cd40 ct40), sl40⟩)
    (d40 : PySem.W.codeIn K cd40 "_law_of" = true)
    (k40 : PySem.W.keepIn K (.ref f40) = true)
    (a41 : PySem.W.nsIn K mainGlobals "_law_cells" = some (some (.ref f41)))
    (l41 : K.lookup f41 = some ⟨oc41, od41, .func (PySem.W.fnOf "_law_cells" "_law_cells" (defArgs s_l_cells) (defBody s_l_cells) (defScope s_l_cells) .none kV41 dc41 pm41 an41 cd41 ct41), sl41⟩)
    (d41 : PySem.W.codeIn K cd41 "_law_cells" = true)
    (k41 : PySem.W.keepIn K (.ref f41) = true)
    (a42 : PySem.W.nsIn K mainGlobals "_law_amount" = some (some (.ref f42)))
    (l42 : K.lookup f42 = some ⟨oc42, od42, .func (PySem.W.fnOf "_law_amount" "_law_amount" (defArgs s_l_amount) (defBody s_l_amount) (defScope s_l_amount) .none kV42 dc42 pm42 an42 cd42 ct42), sl42⟩)
    (d42 : PySem.W.codeIn K cd42 "_law_amount" = true)
    (k42 : PySem.W.keepIn K (.ref f42) = true)
    (a43 : PySem.W.nsIn K mainGlobals "_law_row" = some (some (.ref f43)))
    (l43 : K.lookup f43 = some ⟨oc43, od43, .func (PySem.W.fnOf "_law_row" "_law_row" (defArgs s_l_row) (defBody s_l_row) (defScope s_l_row) .none kV43 dc43 pm43 an43 cd43 ct43), sl43⟩)
    (d43 : PySem.W.codeIn K cd43 "_law_row" = true)
    (k43 : PySem.W.keepIn K (.ref f43) = true)
    (a44 : PySem.W.nsIn K mainGlobals "_law_far" = some (some (.ref f44)))
    (l44 : K.lookup f44 = some ⟨oc44, od44, .func (PySem.W.fnOf "_law_far" "_law_far" (defArgs s_l_far) (defBody s_l_far) (defScope s_l_far) .none kV44 dc44 pm44 an44 cd44 ct44), sl44⟩)
    (d44 : PySem.W.codeIn K cd44 "_law_far" = true)
    (k44 : PySem.W.keepIn K (.ref f44) = true)
    (a45 : PySem.W.nsIn K mainGlobals "_law_tie" = some (some (.ref f45)))
    (l45 : K.lookup f45 = some ⟨oc45, od45, .func (PySem.W.fnOf "_law_tie" "_law_tie" (defArgs s_l_tie) (defBody s_l_tie) (defScope s_l_tie) .none kV45 dc45 pm45 an45 cd45 ct45), sl45⟩)
    (d45 : PySem.W.codeIn K cd45 "_law_tie" = true)
    (k45 : PySem.W.keepIn K (.ref f45) = true)
    (a46 : PySem.W.nsIn K mainGlobals "_law_row_of" = some (some (.ref f46)))
    (l46 : K.lookup f46 = some ⟨oc46, od46, .func (PySem.W.fnOf "_law_row_of" "_law_row_of" (defArgs s_l_row_of) (defBody s_l_row_of) (defScope s_l_row_of) .none kV46 dc46 pm46 an46 cd46 ct46), sl46⟩)
    (d46 : PySem.W.codeIn K cd46 "_law_row_of" = true)
    (k46 : PySem.W.keepIn K (.ref f46) = true)
    (a47 : PySem.W.nsIn K mainGlobals "_law_text_of" = some (some (.ref f47)))
    (l47 : K.lookup f47 = some ⟨oc47, od47, .func (PySem.W.fnOf "_law_text_of" "_law_text_of" (defArgs s_l_text_of) (defBody s_l_text_of) (defScope s_l_text_of) .none kV47 dc47 pm47 an47 cd47 ct47), sl47⟩)
    (d47 : PySem.W.codeIn K cd47 "_law_text_of" = true)
    (k47 : PySem.W.keepIn K (.ref f47) = true)
    (a48 : PySem.W.nsIn K mainGlobals "_law_lore" = some (some (.ref f48)))
    (l48 : K.lookup f48 = some ⟨oc48, od48, .func (PySem.W.fnOf "_law_lore" "_law_lore" (defArgs s_l_lore) (defBody s_l_lore) (defScope s_l_lore) .none kV48 dc48 pm48 an48 cd48 ct48), sl48⟩)
    (d48 : PySem.W.codeIn K cd48 "_law_lore" = true)
    (k48 : PySem.W.keepIn K (.ref f48) = true)
    (a49 : PySem.W.nsIn K mainGlobals "_law_lines" = some (some (.ref f49)))
    (l49 : K.lookup f49 = some ⟨oc49, od49, .func (PySem.W.fnOf "_law_lines" "_law_lines" (defArgs s_l_lines) (defBody s_l_lines) (defScope s_l_lines) .none kV49 dc49 pm49 an49 cd49 ct49), sl49⟩)
    (d49 : PySem.W.codeIn K cd49 "_law_lines" = true)
    (k49 : PySem.W.keepIn K (.ref f49) = true)
    (a50 : PySem.W.nsIn K mainGlobals "_law_book" = some (some (.ref f50)))
    (l50 : K.lookup f50 = some ⟨oc50, od50, .func (PySem.W.fnOf "_law_book" "_law_book" (defArgs s_l_book) (defBody s_l_book) (defScope s_l_book) .none kV50 dc50 pm50 an50 cd50 ct50), sl50⟩)
    (d50 : PySem.W.codeIn K cd50 "_law_book" = true)
    (k50 : PySem.W.keepIn K (.ref f50) = true)
    (a51 : PySem.W.nsIn K mainGlobals "_law_loose" = some (some (.ref f51)))
    (l51 : K.lookup f51 = some ⟨oc51, od51, .func (PySem.W.fnOf "_law_loose" "_law_loose" (defArgs s_l_loose) (defBody s_l_loose) (defScope s_l_loose) .none kV51 dc51 pm51 an51 cd51 ct51), sl51⟩)
    (d51 : PySem.W.codeIn K cd51 "_law_loose" = true)
    (k51 : PySem.W.keepIn K (.ref f51) = true)
    (a52 : PySem.W.nsIn K mainGlobals "_law_with" = some (some (.ref f52)))
    (l52 : K.lookup f52 = some ⟨oc52, od52, .func (PySem.W.fnOf "_law_with" "_law_with" (defArgs s_l_with) (defBody s_l_with) (defScope s_l_with) .none kV52 dc52 pm52 an52 cd52 ct52), sl52⟩)
    (d52 : PySem.W.codeIn K cd52 "_law_with" = true)
    (k52 : PySem.W.keepIn K (.ref f52) = true)
    (a53 : PySem.W.nsIn K mainGlobals "_law_turned" = some (some (.ref f53)))
    (l53 : K.lookup f53 = some ⟨oc53, od53, .func (PySem.W.fnOf "_law_turned" "_law_turned" (defArgs s_l_turned) (defBody s_l_turned) (defScope s_l_turned) .none kV53 dc53 pm53 an53 cd53 ct53), sl53⟩)
    (d53 : PySem.W.codeIn K cd53 "_law_turned" = true)
    (k53 : PySem.W.keepIn K (.ref f53) = true)
    (a54 : PySem.W.nsIn K mainGlobals "_law_upside" = some (some (.ref f54)))
    (l54 : K.lookup f54 = some ⟨oc54, od54, .func (PySem.W.fnOf "_law_upside" "_law_upside" (defArgs s_l_upside) (defBody s_l_upside) (defScope s_l_upside) .none kV54 dc54 pm54 an54 cd54 ct54), sl54⟩)
    (d54 : PySem.W.codeIn K cd54 "_law_upside" = true)
    (k54 : PySem.W.keepIn K (.ref f54) = true)
    (a55 : PySem.W.nsIn K mainGlobals "_law_grown" = some (some (.ref f55)))
    (l55 : K.lookup f55 = some ⟨oc55, od55, .func (PySem.W.fnOf "_law_grown" "_law_grown" (defArgs s_l_grown) (defBody s_l_grown) (defScope s_l_grown) .none kV55 dc55 pm55 an55 cd55 ct55), sl55⟩)
    (d55 : PySem.W.codeIn K cd55 "_law_grown" = true)
    (k55 : PySem.W.keepIn K (.ref f55) = true)
    (a56 : PySem.W.nsIn K mainGlobals "_law_are_more_right" = some (some (.ref f56)))
    (l56 : K.lookup f56 = some ⟨oc56, od56, .func (PySem.W.fnOf "_law_are_more_right" "_law_are_more_right" (defArgs s_l_are_more_right) (defBody s_l_are_more_right) (defScope s_l_are_more_right) .none kV56 dc56 pm56 an56 cd56 ct56), sl56⟩)
    (d56 : PySem.W.codeIn K cd56 "_law_are_more_right" = true)
    (k56 : PySem.W.keepIn K (.ref f56) = true)
    (a57 : PySem.W.nsIn K mainGlobals "_law_are_joined_right" = some (some (.ref f57)))
    (l57 : K.lookup f57 = some ⟨oc57, od57, .func (PySem.W.fnOf "_law_are_joined_right" "_law_are_joined_right" (defArgs s_l_are_joined_right) (defBody s_l_are_joined_right) (defScope s_l_are_joined_right) .none kV57 dc57 pm57 an57 cd57 ct57), sl57⟩)
    (d57 : PySem.W.codeIn K cd57 "_law_are_joined_right" = true)
    (k57 : PySem.W.keepIn K (.ref f57) = true)
    (a58 : PySem.W.nsIn K mainGlobals "_law_right" = some (some (.ref f58)))
    (l58 : K.lookup f58 = some ⟨oc58, od58, .func (PySem.W.fnOf "_law_right" "_law_right" (defArgs s_l_right) (defBody s_l_right) (defScope s_l_right) .none kV58 dc58 pm58 an58 cd58 ct58), sl58⟩)
    (d58 : PySem.W.codeIn K cd58 "_law_right" = true)
    (k58 : PySem.W.keepIn K (.ref f58) = true)
    (a59 : PySem.W.nsIn K mainGlobals "law" = some (some (.ref f59)))
    (l59 : K.lookup f59 = some ⟨oc59, od59, .func (PySem.W.fnOf "law" "law" (defArgs s_law) (defBody s_law) (defScope s_law) .none kV59 dc59 pm59 an59 cd59 ct59), sl59⟩)
    (d59 : PySem.W.codeIn K cd59 "law" = true)
    (k59 : PySem.W.keepIn K (.ref f59) = true)
    (b_isinstance : PySem.W.nsIn K mainGlobals "isinstance" = some none)
    (b_int : PySem.W.nsIn K mainGlobals "int" = some none)
    (b_bool : PySem.W.nsIn K mainGlobals "bool" = some none)
    (b_str : PySem.W.nsIn K mainGlobals "str" = some none)
    (b_range : PySem.W.nsIn K mainGlobals "range" = some none)
    (b_len : PySem.W.nsIn K mainGlobals "len" = some none)
    (b_max : PySem.W.nsIn K mainGlobals "max" = some none)
    (b_tuple : PySem.W.nsIn K mainGlobals "tuple" = some none)
    (b_enumerate : PySem.W.nsIn K mainGlobals "enumerate" = some none)
    (b_dict : PySem.W.nsIn K mainGlobals "dict" = some none)
    (b_abs : PySem.W.nsIn K mainGlobals "abs" = some none)
    (b_list : PySem.W.nsIn K mainGlobals "list" = some none)
    (b_min : PySem.W.nsIn K mainGlobals "min" = some none)
    (b_repr : PySem.W.nsIn K mainGlobals "repr" = some none)
    (b_all : PySem.W.nsIn K mainGlobals "all" = some none)
    (y_GREATEST : PySem.W.nsIn K mainGlobals "GREATEST" = some (some (.int 1000000000000000000000000000000 t_GREATEST)))
    (y__DIGITS : PySem.W.nsIn K mainGlobals "_DIGITS" = some (some (.int 64 t__DIGITS)))
    (y__CHUNK : PySem.W.nsIn K mainGlobals "_CHUNK" = some (some (.int 10000000000000000000000000000000000000000000000000000000000000000 t__CHUNK)))
    (y_MOST : PySem.W.nsIn K mainGlobals "MOST" = some (some (.int 12 t_MOST)))
    (pg : PySem.W.plainGet K C Str.empty = true)
    (hd : PySem.W.hasDictIn K C = true)
    (po : PySem.W.plainOver K C = true)
    (sa : PySem.W.findIn K (.ref C) "__setattr__" = some (some (.builtin "object.__setattr__")))
    (mkc : PySem.W.makesIn K C = true)
    (kcc : PySem.W.keepIn K (.ref C) = true)
    (n_first : PySem.W.findIn K (.ref C) "first" = some none)
    (n_second : PySem.W.findIn K (.ref C) "second" = some none)
    (n_length : PySem.W.findIn K (.ref C) "length" = some none)
    (n_amount : PySem.W.findIn K (.ref C) "amount" = some none)
    (n_down : PySem.W.findIn K (.ref C) "down" = some none)
    (n_backward : PySem.W.findIn K (.ref C) "backward" = some none)
    (n_text : PySem.W.findIn K (.ref C) "text" = some none)
    (pgB : PySem.W.plainGet K CB Str.empty = true)
    (hdB : PySem.W.hasDictIn K CB = true)
    (poB : PySem.W.plainOver K CB = true)
    (saB : PySem.W.findIn K (.ref CB) "__setattr__" = some (some (.builtin "object.__setattr__")))
    (mkcB : PySem.W.makesIn K CB = true)
    (kccB : PySem.W.keepIn K (.ref CB) = true)
    (nB_text : PySem.W.findIn K (.ref CB) "text" = some none)
    (nB_size : PySem.W.findIn K (.ref CB) "size" = some none)
    (nB_ties : PySem.W.findIn K (.ref CB) "ties" = some none)
    (nB_notes : PySem.W.findIn K (.ref CB) "notes" = some none)
    (m_z_cls : PySem.W.findIn K (.ref C) "__class__" = some (some (.builtin "object.__class__")))
    (m_z_mro : PySem.W.mroIn K C (.type "object") = some true)
    (m_z_ty : PySem.W.typeIn K (.ref C) = some (.type "type"))
    (m_z_clsB : PySem.W.findIn K (.ref CB) "__class__" = some (some (.builtin "object.__class__")))
    (m_z_mroB : PySem.W.mroIn K CB (.type "object") = some true)
    (m_z_tyB : PySem.W.typeIn K (.ref CB) = some (.type "type"))
    (m_z_get : PySem.W.specialIn K (.builtin "object.__class__") "__get__" = some (some (.builtin "getset_descriptor.__get__")))
    (m_z_tk : PySem.W.takesIn K (.builtin "object.__class__") = some true)
    (m_z_subN : PySem.W.subIn K (.type "NoneType") (.ref C) = some false)
    (m_z_subT : PySem.W.subIn K (.type "tuple") (.ref C) = some false)
    (m_z_notT : PySem.W.notFirst K C (.type "tuple") = true)
    (m_z_firstB : PySem.W.selfFirst K CB = true)
    (m_z_notTB : PySem.W.notFirst K CB (.type "tuple") = true)
    (m_z_neB : PySem.W.findIn K (.ref CB) "__ne__" = some (some (.builtin "object.__ne__")))
    (b_ValueErrorX : PySem.W.nsIn K mainGlobals "ValueError" = some none)
    (zve : PySem.W.findCls K (.type "ValueError") (.type "type") "__init__" = some (.val (.builtin "ValueError.__init__")))
    (tin : PySem.W.typeIn K (.ref f0) = some (.type "function"))
    (zget : PySem.W.specialIn K (.builtin "object.__class__") "__get__" = some (some (.builtin "getset_descriptor.__get__")))
    (ztk : PySem.W.takesIn K (.builtin "object.__class__") = some true)
    (e0 : ExcF K c8 f0 c0)
    (e1 : ExcF K c8 f0 c1)
    (e2 : ExcF K c8 f0 c2)
    (e3 : ExcF K c8 f0 c3)
    (e4 : ExcF K c8 f0 c4)
    (e5 : ExcF K c8 f0 c5)
    (e6 : ExcF K c8 f0 c6)
    (e7 : ExcF K c8 f0 c7)
    (e8 : ExcF K c8 f0 c8)
    (nd : ([c0, c1, c2, c3, c4, c5, c6, c7, c8] : List Addr).Nodup) :
    ∃ (fd : FuncData) (cs : List (Addr × Addr)) (sp : Sp), (∀ p ∈ cs, PySem.W.CodeHd h p.1 p.2 ∧ h.get? p.2 = some tab0) ∧ (∀ (s : Shared) (u : Value), BindsTo s fd ⟨[u], []⟩ [("_law_script", u)]) ∧
        (∀ (H : Hp) (a : Addr) (ns : List Int), ns.length ≤ 63 → (∀ p ∈ cs, H p.2 = some (.tbl #[])) → SqL K H a (ns.map V.int) → sp [.ref a] H (fun v _ => v = .bl true) fun _ _ _ => False) ∧
        ∀ base : Heap, K.In base → base.Ns mainGlobals mg → (∀ p ∈ cs, TabB base mg p.1 p.2) → GOk l.prog w K mg base CX0 20 fa fd ["_law_script"] sp := by
  have e := hfa.symm.trans (PySem.W.mg_of X G a59)
  cases e
  have F0 := fun_mk (st := s_E_init) l0 d0 k0
  have F1 := fun_mk (st := s_is_whole) l1 d1 k1
  have F2 := fun_mk (st := s_is_from) l2 d2 k2
  have F3 := fun_mk (st := s_is_between) l3 d3 k3
  have F4 := fun_mk (st := s_written) l4 d4 k4
  have F5 := fun_mk (st := s_number_in) l5 d5 k5
  have F6 := fun_mk (st := s_number_of) l6 d6 k6
  have F7 : FunD K "__init__" "Tie.__init__" (defArgs s_T_init) (defBody s_T_init) (defScope s_T_init) [.int 0] [("down", .bl false), ("backward", .bl false)] f7 (PySem.W.fnOf "__init__" "Tie.__init__" (defArgs s_T_init) (defBody s_T_init) (defScope s_T_init) (.ref aT7) (.ref aD7) dc7 pm7 an7 cd7 ct7) := by
    refine ⟨⟨_, _, _, _, _, _, _, _, _, _, rfl, l7, d7, .inr ⟨by decide, aT7, _, _, _, rfl, lT7, rfl, .cons ⟨_, rfl⟩ .nil⟩, .inr ⟨aD7, rfl, fun q hq => ?_⟩⟩, k7⟩
    simp only [List.mem_cons, List.not_mem_nil, or_false] at hq
    rcases hq with rfl | rfl
    · exact ⟨_, w7_down, rfl⟩
    · exact ⟨_, w7_backward, rfl⟩
  have F8 := fun_mk (st := s_T_of) l8 d8 k8
  have F9 := fun_mk (st := s_T_eq) l9 d9 k9
  have F10 := fun_mk (st := s_is_tie_within) l10 d10 k10
  have F11 := fun_mk (st := s_check_parts) l11 d11 k11
  have F12 := fun_mk (st := s_check_leading) l12 d12 k12
  have F13 := fun_mk (st := s_values_in) l13 d13 k13
  have F14 := fun_mk (st := s_numbers_behind) l14 d14 k14
  have F15 := fun_mk (st := s_tie_behind) l15 d15 k15
  have F16 := fun_mk (st := s_size_in) l16 d16 k16
  have F17 := fun_mk (st := s_tie_in) l17 d17 k17
  have F18 := fun_mk (st := s_note_in) l18 d18 k18
  have F19 := fun_mk (st := s_B_init) l19 d19 k19
  have F20 := fun_mk (st := s_B_len) l20 d20 k20
  have F21 := fun_mk (st := s_B_with_tie) l21 d21 k21
  have F22 := fun_mk (st := s_B_without) l22 d22 k22
  have F23 := fun_mk (st := s_B_with_note) l23 d23 k23
  have F24 := fun_mk (st := s_B_or) l24 d24 k24
  have F25 := fun_mk (st := s_B_add) l25 d25 k25
  have F26 := fun_mk (st := s_B_invert) l26 d26 k26
  have F27 := fun_mk (st := s_B_neg) l27 d27 k27
  have F28 := fun_mk (st := s_B_eq) l28 d28 k28
  have F29 := fun_mk (st := s_contents) l29 d29 k29
  have F30 := fun_mk (st := s_first_ties) l30 d30 k30
  have F31 := fun_mk (st := s_first_notes) l31 d31 k31
  have F32 := fun_mk (st := s_has_note) l32 d32 k32
  have F33 := fun_mk (st := s_check_notes) l33 d33 k33
  have F34 := fun_mk (st := s_book_of) l34 d34 k34
  have F35 := fun_mk (st := s_moved) l35 d35 k35
  have F36 := fun_mk (st := s_turned) l36 d36 k36
  have F37 := fun_mk (st := s_upside_down) l37 d37 k37
  have F38 := fun_mk (st := s_l_pot) l38 d38 k38
  have F39 := fun_mk (st := s_l_take) l39 d39 k39
  have F40 := fun_mk (st := s_l_of) l40 d40 k40
  have F41 := fun_mk (st := s_l_cells) l41 d41 k41
  have F42 := fun_mk (st := s_l_amount) l42 d42 k42
  have F43 := fun_mk (st := s_l_row) l43 d43 k43
  have F44 := fun_mk (st := s_l_far) l44 d44 k44
  have F45 := fun_mk (st := s_l_tie) l45 d45 k45
  have F46 := fun_mk (st := s_l_row_of) l46 d46 k46
  have F47 := fun_mk (st := s_l_text_of) l47 d47 k47
  have F48 := fun_mk (st := s_l_lore) l48 d48 k48
  have F49 := fun_mk (st := s_l_lines) l49 d49 k49
  have F50 := fun_mk (st := s_l_book) l50 d50 k50
  have F51 := fun_mk (st := s_l_loose) l51 d51 k51
  have F52 := fun_mk (st := s_l_with) l52 d52 k52
  have F53 := fun_mk (st := s_l_turned) l53 d53 k53
  have F54 := fun_mk (st := s_l_upside) l54 d54 k54
  have F55 := fun_mk (st := s_l_grown) l55 d55 k55
  have F56 := fun_mk (st := s_l_are_more_right) l56 d56 k56
  have F57 := fun_mk (st := s_l_are_joined_right) l57 d57 k57
  have F58 := fun_mk (st := s_l_right) l58 d58 k58
  have F59 := fun_mk (st := s_law) l59 d59 k59
  have cs_all : ∀ i, i < 9 → ExcT K c8 f0 (([c0, c1, c2, c3, c4, c5, c6, c7, c8] : List Addr).getD i 0) := fun i hi => match i, hi with
    | 0, _ => e0.all zget ztk
    | 1, _ => e1.all zget ztk
    | 2, _ => e2.all zget ztk
    | 3, _ => e3.all zget ztk
    | 4, _ => e4.all zget ztk
    | 5, _ => e5.all zget ztk
    | 6, _ => e6.all zget ztk
    | 7, _ => e7.all zget ztk
    | 8, _ => e8.all zget ztk
    | i + 9, h => absurd h (by omega)
  have T : Txt K mg { pS := pS, f_E_init := f0, d_E_init := PySem.W.fnOf "__init__" "TuneError.__init__" (defArgs s_E_init) (defBody s_E_init) (defScope s_E_init) .none kV0 dc0 pm0 an0 cd0 ct0, f_is_whole := f1, d_is_whole := PySem.W.fnOf "is_whole" "is_whole" (defArgs s_is_whole) (defBody s_is_whole) (defScope s_is_whole) .none kV1 dc1 pm1 an1 cd1 ct1, f_is_from := f2, d_is_from := PySem.W.fnOf "is_from" "is_from" (defArgs s_is_from) (defBody s_is_from) (defScope s_is_from) .none kV2 dc2 pm2 an2 cd2 ct2, f_is_between := f3, d_is_between := PySem.W.fnOf "is_between" "is_between" (defArgs s_is_between) (defBody s_is_between) (defScope s_is_between) .none kV3 dc3 pm3 an3 cd3 ct3, f_written := f4, d_written := PySem.W.fnOf "written" "written" (defArgs s_written) (defBody s_written) (defScope s_written) .none kV4 dc4 pm4 an4 cd4 ct4, f_number_in := f5, d_number_in := PySem.W.fnOf "number_in" "number_in" (defArgs s_number_in) (defBody s_number_in) (defScope s_number_in) .none kV5 dc5 pm5 an5 cd5 ct5, f_number_of := f6, d_number_of := PySem.W.fnOf "_number_of" "_number_of" (defArgs s_number_of) (defBody s_number_of) (defScope s_number_of) .none kV6 dc6 pm6 an6 cd6 ct6, f_T_init := f7, d_T_init := PySem.W.fnOf "__init__" "Tie.__init__" (defArgs s_T_init) (defBody s_T_init) (defScope s_T_init) (.ref aT7) (.ref aD7) dc7 pm7 an7 cd7 ct7, f_T_of := f8, d_T_of := PySem.W.fnOf "of" "Tie.of" (defArgs s_T_of) (defBody s_T_of) (defScope s_T_of) .none kV8 dc8 pm8 an8 cd8 ct8, f_T_eq := f9, d_T_eq := PySem.W.fnOf "__eq__" "Tie.__eq__" (defArgs s_T_eq) (defBody s_T_eq) (defScope s_T_eq) .none kV9 dc9 pm9 an9 cd9 ct9, f_is_tie_within := f10, d_is_tie_within := PySem.W.fnOf "is_tie_within" "is_tie_within" (defArgs s_is_tie_within) (defBody s_is_tie_within) (defScope s_is_tie_within) .none kV10 dc10 pm10 an10 cd10 ct10, f_check_parts := f11, d_check_parts := PySem.W.fnOf "_check_parts" "_check_parts" (defArgs s_check_parts) (defBody s_check_parts) (defScope s_check_parts) .none kV11 dc11 pm11 an11 cd11 ct11, f_check_leading := f12, d_check_leading := PySem.W.fnOf "_check_leading" "_check_leading" (defArgs s_check_leading) (defBody s_check_leading) (defScope s_check_leading) .none kV12 dc12 pm12 an12 cd12 ct12, f_values_in := f13, d_values_in := PySem.W.fnOf "_values_in" "_values_in" (defArgs s_values_in) (defBody s_values_in) (defScope s_values_in) .none kV13 dc13 pm13 an13 cd13 ct13, f_numbers_behind := f14, d_numbers_behind := PySem.W.fnOf "numbers_behind" "numbers_behind" (defArgs s_numbers_behind) (defBody s_numbers_behind) (defScope s_numbers_behind) .none kV14 dc14 pm14 an14 cd14 ct14, f_tie_behind := f15, d_tie_behind := PySem.W.fnOf "tie_behind" "tie_behind" (defArgs s_tie_behind) (defBody s_tie_behind) (defScope s_tie_behind) .none kV15 dc15 pm15 an15 cd15 ct15, f_size_in := f16, d_size_in := PySem.W.fnOf "size_in" "size_in" (defArgs s_size_in) (defBody s_size_in) (defScope s_size_in) .none kV16 dc16 pm16 an16 cd16 ct16, f_tie_in := f17, d_tie_in := PySem.W.fnOf "tie_in" "tie_in" (defArgs s_tie_in) (defBody s_tie_in) (defScope s_tie_in) .none kV17 dc17 pm17 an17 cd17 ct17, f_note_in := f18, d_note_in := PySem.W.fnOf "note_in" "note_in" (defArgs s_note_in) (defBody s_note_in) (defScope s_note_in) .none kV18 dc18 pm18 an18 cd18 ct18, f_B_init := f19, d_B_init := PySem.W.fnOf "__init__" "Book.__init__" (defArgs s_B_init) (defBody s_B_init) (defScope s_B_init) .none kV19 dc19 pm19 an19 cd19 ct19, f_B_len := f20, d_B_len := PySem.W.fnOf "__len__" "Book.__len__" (defArgs s_B_len) (defBody s_B_len) (defScope s_B_len) .none kV20 dc20 pm20 an20 cd20 ct20, f_B_with_tie := f21, d_B_with_tie := PySem.W.fnOf "with_tie" "Book.with_tie" (defArgs s_B_with_tie) (defBody s_B_with_tie) (defScope s_B_with_tie) .none kV21 dc21 pm21 an21 cd21 ct21, f_B_without := f22, d_B_without := PySem.W.fnOf "without" "Book.without" (defArgs s_B_without) (defBody s_B_without) (defScope s_B_without) .none kV22 dc22 pm22 an22 cd22 ct22, f_B_with_note := f23, d_B_with_note := PySem.W.fnOf "with_note" "Book.with_note" (defArgs s_B_with_note) (defBody s_B_with_note) (defScope s_B_with_note) .none kV23 dc23 pm23 an23 cd23 ct23, f_B_or := f24, d_B_or := PySem.W.fnOf "__or__" "Book.__or__" (defArgs s_B_or) (defBody s_B_or) (defScope s_B_or) .none kV24 dc24 pm24 an24 cd24 ct24, f_B_add := f25, d_B_add := PySem.W.fnOf "__add__" "Book.__add__" (defArgs s_B_add) (defBody s_B_add) (defScope s_B_add) .none kV25 dc25 pm25 an25 cd25 ct25, f_B_invert := f26, d_B_invert := PySem.W.fnOf "__invert__" "Book.__invert__" (defArgs s_B_invert) (defBody s_B_invert) (defScope s_B_invert) .none kV26 dc26 pm26 an26 cd26 ct26, f_B_neg := f27, d_B_neg := PySem.W.fnOf "__neg__" "Book.__neg__" (defArgs s_B_neg) (defBody s_B_neg) (defScope s_B_neg) .none kV27 dc27 pm27 an27 cd27 ct27, f_B_eq := f28, d_B_eq := PySem.W.fnOf "__eq__" "Book.__eq__" (defArgs s_B_eq) (defBody s_B_eq) (defScope s_B_eq) .none kV28 dc28 pm28 an28 cd28 ct28, f_contents := f29, d_contents := PySem.W.fnOf "_contents" "_contents" (defArgs s_contents) (defBody s_contents) (defScope s_contents) .none kV29 dc29 pm29 an29 cd29 ct29, f_first_ties := f30, d_first_ties := PySem.W.fnOf "_first_ties" "_first_ties" (defArgs s_first_ties) (defBody s_first_ties) (defScope s_first_ties) .none kV30 dc30 pm30 an30 cd30 ct30, f_first_notes := f31, d_first_notes := PySem.W.fnOf "_first_notes" "_first_notes" (defArgs s_first_notes) (defBody s_first_notes) (defScope s_first_notes) .none kV31 dc31 pm31 an31 cd31 ct31, f_has_note := f32, d_has_note := PySem.W.fnOf "_has_note" "_has_note" (defArgs s_has_note) (defBody s_has_note) (defScope s_has_note) .none kV32 dc32 pm32 an32 cd32 ct32, f_check_notes := f33, d_check_notes := PySem.W.fnOf "_check_notes" "_check_notes" (defArgs s_check_notes) (defBody s_check_notes) (defScope s_check_notes) .none kV33 dc33 pm33 an33 cd33 ct33, f_book_of := f34, d_book_of := PySem.W.fnOf "_book_of" "_book_of" (defArgs s_book_of) (defBody s_book_of) (defScope s_book_of) .none kV34 dc34 pm34 an34 cd34 ct34, f_moved := f35, d_moved := PySem.W.fnOf "_moved" "_moved" (defArgs s_moved) (defBody s_moved) (defScope s_moved) .none kV35 dc35 pm35 an35 cd35 ct35, f_turned := f36, d_turned := PySem.W.fnOf "_turned" "_turned" (defArgs s_turned) (defBody s_turned) (defScope s_turned) .none kV36 dc36 pm36 an36 cd36 ct36, f_upside_down := f37, d_upside_down := PySem.W.fnOf "_upside_down" "_upside_down" (defArgs s_upside_down) (defBody s_upside_down) (defScope s_upside_down) .none kV37 dc37 pm37 an37 cd37 ct37, f_l_pot := f38, d_l_pot := PySem.W.fnOf "_law_pot" "_law_pot" (defArgs s_l_pot) (defBody s_l_pot) (defScope s_l_pot) .none kV38 dc38 pm38 an38 cd38 ct38, f_l_take := f39, d_l_take := PySem.W.fnOf "_law_take" "_law_take" (defArgs s_l_take) (defBody s_l_take) (defScope s_l_take) .none kV39 dc39 pm39 an39 cd39 ct39, f_l_of := f40, d_l_of := PySem.W.fnOf "_law_of" "_law_of" (defArgs s_l_of) (defBody s_l_of) (defScope s_l_of) .none kV40 dc40 pm40 an40 cd40 ct40, f_l_cells := f41, d_l_cells := PySem.W.fnOf "_law_cells" "_law_cells" (defArgs s_l_cells) (defBody s_l_cells) (defScope s_l_cells) .none kV41 dc41 pm41 an41 cd41 ct41, f_l_amount := f42, d_l_amount := PySem.W.fnOf "_law_amount" "_law_amount" (defArgs s_l_amount) (defBody s_l_amount) (defScope s_l_amount) .none kV42 dc42 pm42 an42 cd42 ct42, f_l_row := f43, d_l_row := PySem.W.fnOf "_law_row" "_law_row" (defArgs s_l_row) (defBody s_l_row) (defScope s_l_row) .none kV43 dc43 pm43 an43 cd43 ct43, f_l_far := f44, d_l_far := PySem.W.fnOf "_law_far" "_law_far" (defArgs s_l_far) (defBody s_l_far) (defScope s_l_far) .none kV44 dc44 pm44 an44 cd44 ct44, f_l_tie := f45, d_l_tie := PySem.W.fnOf "_law_tie" "_law_tie" (defArgs s_l_tie) (defBody s_l_tie) (defScope s_l_tie) .none kV45 dc45 pm45 an45 cd45 ct45, f_l_row_of := f46, d_l_row_of := PySem.W.fnOf "_law_row_of" "_law_row_of" (defArgs s_l_row_of) (defBody s_l_row_of) (defScope s_l_row_of) .none kV46 dc46 pm46 an46 cd46 ct46, f_l_text_of := f47, d_l_text_of := PySem.W.fnOf "_law_text_of" "_law_text_of" (defArgs s_l_text_of) (defBody s_l_text_of) (defScope s_l_text_of) .none kV47 dc47 pm47 an47 cd47 ct47, f_l_lore := f48, d_l_lore := PySem.W.fnOf "_law_lore" "_law_lore" (defArgs s_l_lore) (defBody s_l_lore) (defScope s_l_lore) .none kV48 dc48 pm48 an48 cd48 ct48, f_l_lines := f49, d_l_lines := PySem.W.fnOf "_law_lines" "_law_lines" (defArgs s_l_lines) (defBody s_l_lines) (defScope s_l_lines) .none kV49 dc49 pm49 an49 cd49 ct49, f_l_book := f50, d_l_book := PySem.W.fnOf "_law_book" "_law_book" (defArgs s_l_book) (defBody s_l_book) (defScope s_l_book) .none kV50 dc50 pm50 an50 cd50 ct50, f_l_loose := f51, d_l_loose := PySem.W.fnOf "_law_loose" "_law_loose" (defArgs s_l_loose) (defBody s_l_loose) (defScope s_l_loose) .none kV51 dc51 pm51 an51 cd51 ct51, f_l_with := f52, d_l_with := PySem.W.fnOf "_law_with" "_law_with" (defArgs s_l_with) (defBody s_l_with) (defScope s_l_with) .none kV52 dc52 pm52 an52 cd52 ct52, f_l_turned := f53, d_l_turned := PySem.W.fnOf "_law_turned" "_law_turned" (defArgs s_l_turned) (defBody s_l_turned) (defScope s_l_turned) .none kV53 dc53 pm53 an53 cd53 ct53, f_l_upside := f54, d_l_upside := PySem.W.fnOf "_law_upside" "_law_upside" (defArgs s_l_upside) (defBody s_l_upside) (defScope s_l_upside) .none kV54 dc54 pm54 an54 cd54 ct54, f_l_grown := f55, d_l_grown := PySem.W.fnOf "_law_grown" "_law_grown" (defArgs s_l_grown) (defBody s_l_grown) (defScope s_l_grown) .none kV55 dc55 pm55 an55 cd55 ct55, f_l_are_more_right := f56, d_l_are_more_right := PySem.W.fnOf "_law_are_more_right" "_law_are_more_right" (defArgs s_l_are_more_right) (defBody s_l_are_more_right) (defScope s_l_are_more_right) .none kV56 dc56 pm56 an56 cd56 ct56, f_l_are_joined_right := f57, d_l_are_joined_right := PySem.W.fnOf "_law_are_joined_right" "_law_are_joined_right" (defArgs s_l_are_joined_right) (defBody s_l_are_joined_right) (defScope s_l_are_joined_right) .none kV57 dc57 pm57 an57 cd57 ct57, f_l_right := f58, d_l_right := PySem.W.fnOf "_law_right" "_law_right" (defArgs s_l_right) (defBody s_l_right) (defScope s_l_right) .none kV58 dc58 pm58 an58 cd58 ct58, f_law := fa, d_law := PySem.W.fnOf "law" "law" (defArgs s_law) (defBody s_law) (defScope s_law) .none kV59 dc59 pm59 an59 cd59 ct59, t_GREATEST := t_GREATEST, t__DIGITS := t__DIGITS, t__CHUNK := t__CHUNK, t_MOST := t_MOST, cC := C, cB := CB, c := fun i => ([c0, c1, c2, c3, c4, c5, c6, c7, c8] : List Addr).getD i 0 } := { g_Full := PySem.W.mg_of X G ge0, g_OtherNote := PySem.W.mg_of X G ge1, g_OtherSize := PySem.W.mg_of X G ge2, g_BadSize := PySem.W.mg_of X G ge3, g_BadTie := PySem.W.mg_of X G ge4, g_NoTie := PySem.W.mg_of X G ge5, g_NoPlace := PySem.W.mg_of X G ge6, g_BadNote := PySem.W.mg_of X G ge7, g_TuneError := PySem.W.mg_of X G ge8, F_E_init := F0, bn_E_init := F0.binds (ps := ["self", "value"]) fun _ _ _ _ _ _ us hl => match us, hl with | [_, _], _ => rfl, k_E_init := k0, i_E_init := i0, F_is_whole := F1, bn_is_whole := F1.binds (ps := ["value"]) fun _ _ _ _ _ _ us hl => match us, hl with | [_], _ => rfl, k_is_whole := k1, g_is_whole := PySem.W.mg_of X G a1, F_is_from := F2, bn_is_from := F2.binds (ps := ["value", "least"]) fun _ _ _ _ _ _ us hl => match us, hl with | [_, _], _ => rfl, k_is_from := k2, g_is_from := PySem.W.mg_of X G a2, F_is_between := F3, bn_is_between := F3.binds (ps := ["value", "least", "greatest"]) fun _ _ _ _ _ _ us hl => match us, hl with | [_, _, _], _ => rfl, k_is_between := k3, g_is_between := PySem.W.mg_of X G a3, F_written := F4, bn_written := F4.binds (ps := ["number"]) fun _ _ _ _ _ _ us hl => match us, hl with | [_], _ => rfl, k_written := k4, g_written := PySem.W.mg_of X G a4, F_number_in := F5, bn_number_in := F5.binds (ps := ["word"]) fun _ _ _ _ _ _ us hl => match us, hl with | [_], _ => rfl, k_number_in := k5, g_number_in := PySem.W.mg_of X G a5, F_number_of := F6, bn_number_of := F6.binds (ps := ["digits"]) fun _ _ _ _ _ _ us hl => match us, hl with | [_], _ => rfl, k_number_of := k6, g_number_of := PySem.W.mg_of X G a6, F_T_init := F7, k_T_init := k7, i_T_init := i7, a_T_init := a7, F_T_of := F8, bn_T_of := F8.binds (ps := ["text"]) fun _ _ _ _ _ _ us hl => match us, hl with | [_], _ => rfl, k_T_of := k8, i_T_of := i8, F_T_eq := F9, bn_T_eq := F9.binds (ps := ["self", "other"]) fun _ _ _ _ _ _ us hl => match us, hl with | [_, _], _ => rfl, k_T_eq := k9, i_T_eq := i9, a_T_eq := a9, F_is_tie_within := F10, bn_is_tie_within := F10.binds (ps := ["value", "size"]) fun _ _ _ _ _ _ us hl => match us, hl with | [_, _], _ => rfl, k_is_tie_within := k10, g_is_tie_within := PySem.W.mg_of X G a10, F_check_parts := F11, bn_check_parts := F11.binds (ps := ["first", "second", "length"]) fun _ _ _ _ _ _ us hl => match us, hl with | [_, _, _], _ => rfl, k_check_parts := k11, g_check_parts := PySem.W.mg_of X G a11, F_check_leading := F12, bn_check_leading := F12.binds (ps := ["amount", "down", "backward"]) fun _ _ _ _ _ _ us hl => match us, hl with | [_, _, _], _ => rfl, k_check_leading := k12, g_check_leading := PySem.W.mg_of X G a12, F_values_in := F13, bn_values_in := F13.binds (ps := ["text"]) fun _ _ _ _ _ _ us hl => match us, hl with | [_], _ => rfl, k_values_in := k13, g_values_in := PySem.W.mg_of X G a13, F_numbers_behind := F14, bn_numbers_behind := F14.binds (ps := ["line", "word", "many"]) fun _ _ _ _ _ _ us hl => match us, hl with | [_, _, _], _ => rfl, k_numbers_behind := k14, g_numbers_behind := PySem.W.mg_of X G a14, F_tie_behind := F15, bn_tie_behind := F15.binds (ps := ["line", "word"]) fun _ _ _ _ _ _ us hl => match us, hl with | [_, _], _ => rfl, k_tie_behind := k15, g_tie_behind := PySem.W.mg_of X G a15, F_size_in := F16, bn_size_in := F16.binds (ps := ["line"]) fun _ _ _ _ _ _ us hl => match us, hl with | [_], _ => rfl, k_size_in := k16, g_size_in := PySem.W.mg_of X G a16, F_tie_in := F17, bn_tie_in := F17.binds (ps := ["line", "size"]) fun _ _ _ _ _ _ us hl => match us, hl with | [_, _], _ => rfl, k_tie_in := k17, g_tie_in := PySem.W.mg_of X G a17, F_note_in := F18, bn_note_in := F18.binds (ps := ["line", "size"]) fun _ _ _ _ _ _ us hl => match us, hl with | [_, _], _ => rfl, k_note_in := k18, g_note_in := PySem.W.mg_of X G a18, F_B_init := F19, bn_B_init := F19.binds (ps := ["self", "text"]) fun _ _ _ _ _ _ us hl => match us, hl with | [_, _], _ => rfl, k_B_init := k19, i_B_init := i19, a_B_init := a19, F_B_len := F20, bn_B_len := F20.binds (ps := ["self"]) fun _ _ _ _ _ _ us hl => match us, hl with | [_], _ => rfl, k_B_len := k20, i_B_len := i20, a_B_len := a20, F_B_with_tie := F21, bn_B_with_tie := F21.binds (ps := ["self", "tie"]) fun _ _ _ _ _ _ us hl => match us, hl with | [_, _], _ => rfl, k_B_with_tie := k21, i_B_with_tie := i21, a_B_with_tie := a21, F_B_without := F22, bn_B_without := F22.binds (ps := ["self", "number"]) fun _ _ _ _ _ _ us hl => match us, hl with | [_, _], _ => rfl, k_B_without := k22, i_B_without := i22, a_B_without := a22, F_B_with_note := F23, bn_B_with_note := F23.binds (ps := ["self", "place", "note"]) fun _ _ _ _ _ _ us hl => match us, hl with | [_, _, _], _ => rfl, k_B_with_note := k23, i_B_with_note := i23, a_B_with_note := a23, F_B_or := F24, bn_B_or := F24.binds (ps := ["self", "other"]) fun _ _ _ _ _ _ us hl => match us, hl with | [_, _], _ => rfl, k_B_or := k24, i_B_or := i24, a_B_or := a24, F_B_add := F25, bn_B_add := F25.binds (ps := ["self", "other"]) fun _ _ _ _ _ _ us hl => match us, hl with | [_, _], _ => rfl, k_B_add := k25, i_B_add := i25, a_B_add := a25, F_B_invert := F26, bn_B_invert := F26.binds (ps := ["self"]) fun _ _ _ _ _ _ us hl => match us, hl with | [_], _ => rfl, k_B_invert := k26, i_B_invert := i26, a_B_invert := a26, F_B_neg := F27, bn_B_neg := F27.binds (ps := ["self"]) fun _ _ _ _ _ _ us hl => match us, hl with | [_], _ => rfl, k_B_neg := k27, i_B_neg := i27, a_B_neg := a27, F_B_eq := F28, bn_B_eq := F28.binds (ps := ["self", "other"]) fun _ _ _ _ _ _ us hl => match us, hl with | [_, _], _ => rfl, k_B_eq := k28, i_B_eq := i28, a_B_eq := a28, F_contents := F29, bn_contents := F29.binds (ps := ["text"]) fun _ _ _ _ _ _ us hl => match us, hl with | [_], _ => rfl, k_contents := k29, g_contents := PySem.W.mg_of X G a29, F_first_ties := F30, bn_first_ties := F30.binds (ps := ["lines", "size"]) fun _ _ _ _ _ _ us hl => match us, hl with | [_, _], _ => rfl, k_first_ties := k30, g_first_ties := PySem.W.mg_of X G a30, F_first_notes := F31, bn_first_notes := F31.binds (ps := ["lines", "size"]) fun _ _ _ _ _ _ us hl => match us, hl with | [_, _], _ => rfl, k_first_notes := k31, g_first_notes := PySem.W.mg_of X G a31, F_has_note := F32, bn_has_note := F32.binds (ps := ["notes", "place"]) fun _ _ _ _ _ _ us hl => match us, hl with | [_, _], _ => rfl, k_has_note := k32, g_has_note := PySem.W.mg_of X G a32, F_check_notes := F33, bn_check_notes := F33.binds (ps := ["one", "other"]) fun _ _ _ _ _ _ us hl => match us, hl with | [_, _], _ => rfl, k_check_notes := k33, g_check_notes := PySem.W.mg_of X G a33, F_book_of := F34, bn_book_of := F34.binds (ps := ["size", "ties", "notes"]) fun _ _ _ _ _ _ us hl => match us, hl with | [_, _, _], _ => rfl, k_book_of := k34, g_book_of := PySem.W.mg_of X G a34, F_moved := F35, bn_moved := F35.binds (ps := ["tie", "by"]) fun _ _ _ _ _ _ us hl => match us, hl with | [_, _], _ => rfl, k_moved := k35, g_moved := PySem.W.mg_of X G a35, F_turned := F36, bn_turned := F36.binds (ps := ["tie", "size"]) fun _ _ _ _ _ _ us hl => match us, hl with | [_, _], _ => rfl, k_turned := k36, g_turned := PySem.W.mg_of X G a36, F_upside_down := F37, bn_upside_down := F37.binds (ps := ["tie"]) fun _ _ _ _ _ _ us hl => match us, hl with | [_], _ => rfl, k_upside_down := k37, g_upside_down := PySem.W.mg_of X G a37, F_l_pot := F38, bn_l_pot := F38.binds (ps := ["_law_script", "_law_k"]) fun _ _ _ _ _ _ us hl => match us, hl with | [_, _], _ => rfl, k_l_pot := k38, g_l_pot := PySem.W.mg_of X G a38, F_l_take := F39, bn_l_take := F39.binds (ps := ["_law_pot_here", "_law_under"]) fun _ _ _ _ _ _ us hl => match us, hl with | [_, _], _ => rfl, k_l_take := k39, g_l_take := PySem.W.mg_of X G a39, F_l_of := F40, bn_l_of := F40.binds (ps := ["_law_pot_here", "_law_some"]) fun _ _ _ _ _ _ us hl => match us, hl with | [_, _], _ => rfl, k_l_of := k40, g_l_of := PySem.W.mg_of X G a40, F_l_cells := F41, bn_l_cells := F41.binds (ps := ["_law_script", "_law_most"]) fun _ _ _ _ _ _ us hl => match us, hl with | [_, _], _ => rfl, k_l_cells := k41, g_l_cells := PySem.W.mg_of X G a41, F_l_amount := F42, bn_l_amount := F42.binds (ps := ["_law_pot_here"]) fun _ _ _ _ _ _ us hl => match us, hl with | [_], _ => rfl, k_l_amount := k42, g_l_amount := PySem.W.mg_of X G a42, F_l_row := F43, bn_l_row := F43.binds (ps := ["_law_pot_here", "_law_size"]) fun _ _ _ _ _ _ us hl => match us, hl with | [_, _], _ => rfl, k_l_row := k43, g_l_row := PySem.W.mg_of X G a43, F_l_far := F44, bn_l_far := F44.binds (ps := ["_law_row_here", "_law_far_here"]) fun _ _ _ _ _ _ us hl => match us, hl with | [_, _], _ => rfl, k_l_far := k44, g_l_far := PySem.W.mg_of X G a44, F_l_tie := F45, bn_l_tie := F45.binds (ps := ["_law_row_here"]) fun _ _ _ _ _ _ us hl => match us, hl with | [_], _ => rfl, k_l_tie := k45, g_l_tie := PySem.W.mg_of X G a45, F_l_row_of := F46, bn_l_row_of := F46.binds (ps := ["_law_tie_here"]) fun _ _ _ _ _ _ us hl => match us, hl with | [_], _ => rfl, k_l_row_of := k46, g_l_row_of := PySem.W.mg_of X G a46, F_l_text_of := F47, bn_l_text_of := F47.binds (ps := ["_law_row_here"]) fun _ _ _ _ _ _ us hl => match us, hl with | [_], _ => rfl, k_l_text_of := k47, g_l_text_of := PySem.W.mg_of X G a47, F_l_lore := F48, bn_l_lore := F48.binds (ps := ["_law_pot_here", "_law_most", "_law_ties", "_law_notes"]) fun _ _ _ _ _ _ us hl => match us, hl with | [_, _, _, _], _ => rfl, k_l_lore := k48, g_l_lore := PySem.W.mg_of X G a48, F_l_lines := F49, bn_l_lines := F49.binds (ps := ["_law_lore_here"]) fun _ _ _ _ _ _ us hl => match us, hl with | [_], _ => rfl, k_l_lines := k49, g_l_lines := PySem.W.mg_of X G a49, F_l_book := F50, bn_l_book := F50.binds (ps := ["_law_lore_here"]) fun _ _ _ _ _ _ us hl => match us, hl with | [_], _ => rfl, k_l_book := k50, g_l_book := PySem.W.mg_of X G a50, F_l_loose := F51, bn_l_loose := F51.binds (ps := ["_law_lore_here"]) fun _ _ _ _ _ _ us hl => match us, hl with | [_], _ => rfl, k_l_loose := k51, g_l_loose := PySem.W.mg_of X G a51, F_l_with := F52, bn_l_with := F52.binds (ps := ["_law_lore_here", "_law_ties", "_law_notes"]) fun _ _ _ _ _ _ us hl => match us, hl with | [_, _, _], _ => rfl, k_l_with := k52, g_l_with := PySem.W.mg_of X G a52, F_l_turned := F53, bn_l_turned := F53.binds (ps := ["_law_lore_here"]) fun _ _ _ _ _ _ us hl => match us, hl with | [_], _ => rfl, k_l_turned := k53, g_l_turned := PySem.W.mg_of X G a53, F_l_upside := F54, bn_l_upside := F54.binds (ps := ["_law_lore_here"]) fun _ _ _ _ _ _ us hl => match us, hl with | [_], _ => rfl, k_l_upside := k54, g_l_upside := PySem.W.mg_of X G a54, F_l_grown := F55, bn_l_grown := F55.binds (ps := ["_law_pot_here"]) fun _ _ _ _ _ _ us hl => match us, hl with | [_], _ => rfl, k_l_grown := k55, g_l_grown := PySem.W.mg_of X G a55, F_l_are_more_right := F56, bn_l_are_more_right := F56.binds (ps := ["_law_pot_here", "_law_lore_here", "_law_loose_here"]) fun _ _ _ _ _ _ us hl => match us, hl with | [_, _, _], _ => rfl, k_l_are_more_right := k56, g_l_are_more_right := PySem.W.mg_of X G a56, F_l_are_joined_right := F57, bn_l_are_joined_right := F57.binds (ps := ["_law_pot_here", "_law_lore_here", "_law_loose_here"]) fun _ _ _ _ _ _ us hl => match us, hl with | [_, _, _], _ => rfl, k_l_are_joined_right := k57, g_l_are_joined_right := PySem.W.mg_of X G a57, F_l_right := F58, bn_l_right := F58.binds (ps := ["_law_pot_here"]) fun _ _ _ _ _ _ us hl => match us, hl with | [_], _ => rfl, k_l_right := k58, g_l_right := PySem.W.mg_of X G a58, F_law := F59, bn_law := F59.binds (ps := ["_law_script"]) fun _ _ _ _ _ _ us hl => match us, hl with | [_], _ => rfl, k_law := k59, g_law := PySem.W.mg_of X G a59, b_isinstance := PySem.W.mg_none_of X G b_isinstance, b_int := PySem.W.mg_none_of X G b_int, b_bool := PySem.W.mg_none_of X G b_bool, b_str := PySem.W.mg_none_of X G b_str, b_range := PySem.W.mg_none_of X G b_range, b_len := PySem.W.mg_none_of X G b_len, b_max := PySem.W.mg_none_of X G b_max, b_tuple := PySem.W.mg_none_of X G b_tuple, b_enumerate := PySem.W.mg_none_of X G b_enumerate, b_dict := PySem.W.mg_none_of X G b_dict, b_abs := PySem.W.mg_none_of X G b_abs, b_list := PySem.W.mg_none_of X G b_list, b_min := PySem.W.mg_none_of X G b_min, b_repr := PySem.W.mg_none_of X G b_repr, b_all := PySem.W.mg_none_of X G b_all, c_GREATEST := PySem.W.mg_of X G y_GREATEST, c__DIGITS := PySem.W.mg_of X G y__DIGITS, c__CHUNK := PySem.W.mg_of X G y__CHUNK, c_MOST := PySem.W.mg_of X G y_MOST, cl := ⟨pg, hd, po, sa⟩, g_C := PySem.W.mg_of X G aC, mkC := mkc, kC := kcc, n_first := n_first, n_second := n_second, n_length := n_length, n_amount := n_amount, n_down := n_down, n_backward := n_backward, n_text := n_text, clB := ⟨pgB, hdB, poB, saB⟩, g_Bk := PySem.W.mg_of X G aB, mkBc := mkcB, kB := kccB, nB_text := nB_text, nB_size := nB_size, nB_ties := nB_ties, nB_notes := nB_notes, z_cls := m_z_cls, z_mro := m_z_mro, z_kit := kit_self, z_ty := m_z_ty, z_clsB := m_z_clsB, z_mroB := m_z_mroB, z_kitB := kit_self, z_tyB := m_z_tyB, z_get := m_z_get, z_tk := m_z_tk, z_read := ⟨m_read, m_ga⟩, z_sta := ⟨m_sta, ⟨_, a8⟩, k8⟩, z_subN := m_z_subN, z_kitN := (kit_not m_z_mro m_z_ty m_z_subN), z_subT := m_z_subT, z_kitT := (kit_not m_z_mro m_z_ty m_z_subT), z_notT := m_z_notT, z_firstB := m_z_firstB, z_notTB := m_z_notTB, z_neB := m_z_neB, b_ValueError := PySem.W.mg_none_of X G b_ValueErrorX, z_ve := zve, t_E_init := tin, ex := fun i hi => cs_all i hi, nd := fun i j hi hj e => nd_at nd (by simpa using hi) (by simpa using hj) e }
  refine ⟨_, [], sp_law K { pS := pS, f_E_init := f0, d_E_init := PySem.W.fnOf "__init__" "TuneError.__init__" (defArgs s_E_init) (defBody s_E_init) (defScope s_E_init) .none kV0 dc0 pm0 an0 cd0 ct0, f_is_whole := f1, d_is_whole := PySem.W.fnOf "is_whole" "is_whole" (defArgs s_is_whole) (defBody s_is_whole) (defScope s_is_whole) .none kV1 dc1 pm1 an1 cd1 ct1, f_is_from := f2, d_is_from := PySem.W.fnOf "is_from" "is_from" (defArgs s_is_from) (defBody s_is_from) (defScope s_is_from) .none kV2 dc2 pm2 an2 cd2 ct2, f_is_between := f3, d_is_between := PySem.W.fnOf "is_between" "is_between" (defArgs s_is_between) (defBody s_is_between) (defScope s_is_between) .none kV3 dc3 pm3 an3 cd3 ct3, f_written := f4, d_written := PySem.W.fnOf "written" "written" (defArgs s_written) (defBody s_written) (defScope s_written) .none kV4 dc4 pm4 an4 cd4 ct4, f_number_in := f5, d_number_in := PySem.W.fnOf "number_in" "number_in" (defArgs s_number_in) (defBody s_number_in) (defScope s_number_in) .none kV5 dc5 pm5 an5 cd5 ct5, f_number_of := f6, d_number_of := PySem.W.fnOf "_number_of" "_number_of" (defArgs s_number_of) (defBody s_number_of) (defScope s_number_of) .none kV6 dc6 pm6 an6 cd6 ct6, f_T_init := f7, d_T_init := PySem.W.fnOf "__init__" "Tie.__init__" (defArgs s_T_init) (defBody s_T_init) (defScope s_T_init) (.ref aT7) (.ref aD7) dc7 pm7 an7 cd7 ct7, f_T_of := f8, d_T_of := PySem.W.fnOf "of" "Tie.of" (defArgs s_T_of) (defBody s_T_of) (defScope s_T_of) .none kV8 dc8 pm8 an8 cd8 ct8, f_T_eq := f9, d_T_eq := PySem.W.fnOf "__eq__" "Tie.__eq__" (defArgs s_T_eq) (defBody s_T_eq) (defScope s_T_eq) .none kV9 dc9 pm9 an9 cd9 ct9, f_is_tie_within := f10, d_is_tie_within := PySem.W.fnOf "is_tie_within" "is_tie_within" (defArgs s_is_tie_within) (defBody s_is_tie_within) (defScope s_is_tie_within) .none kV10 dc10 pm10 an10 cd10 ct10, f_check_parts := f11, d_check_parts := PySem.W.fnOf "_check_parts" "_check_parts" (defArgs s_check_parts) (defBody s_check_parts) (defScope s_check_parts) .none kV11 dc11 pm11 an11 cd11 ct11, f_check_leading := f12, d_check_leading := PySem.W.fnOf "_check_leading" "_check_leading" (defArgs s_check_leading) (defBody s_check_leading) (defScope s_check_leading) .none kV12 dc12 pm12 an12 cd12 ct12, f_values_in := f13, d_values_in := PySem.W.fnOf "_values_in" "_values_in" (defArgs s_values_in) (defBody s_values_in) (defScope s_values_in) .none kV13 dc13 pm13 an13 cd13 ct13, f_numbers_behind := f14, d_numbers_behind := PySem.W.fnOf "numbers_behind" "numbers_behind" (defArgs s_numbers_behind) (defBody s_numbers_behind) (defScope s_numbers_behind) .none kV14 dc14 pm14 an14 cd14 ct14, f_tie_behind := f15, d_tie_behind := PySem.W.fnOf "tie_behind" "tie_behind" (defArgs s_tie_behind) (defBody s_tie_behind) (defScope s_tie_behind) .none kV15 dc15 pm15 an15 cd15 ct15, f_size_in := f16, d_size_in := PySem.W.fnOf "size_in" "size_in" (defArgs s_size_in) (defBody s_size_in) (defScope s_size_in) .none kV16 dc16 pm16 an16 cd16 ct16, f_tie_in := f17, d_tie_in := PySem.W.fnOf "tie_in" "tie_in" (defArgs s_tie_in) (defBody s_tie_in) (defScope s_tie_in) .none kV17 dc17 pm17 an17 cd17 ct17, f_note_in := f18, d_note_in := PySem.W.fnOf "note_in" "note_in" (defArgs s_note_in) (defBody s_note_in) (defScope s_note_in) .none kV18 dc18 pm18 an18 cd18 ct18, f_B_init := f19, d_B_init := PySem.W.fnOf "__init__" "Book.__init__" (defArgs s_B_init) (defBody s_B_init) (defScope s_B_init) .none kV19 dc19 pm19 an19 cd19 ct19, f_B_len := f20, d_B_len := PySem.W.fnOf "__len__" "Book.__len__" (defArgs s_B_len) (defBody s_B_len) (defScope s_B_len) .none kV20 dc20 pm20 an20 cd20 ct20, f_B_with_tie := f21, d_B_with_tie := PySem.W.fnOf "with_tie" "Book.with_tie" (defArgs s_B_with_tie) (defBody s_B_with_tie) (defScope s_B_with_tie) .none kV21 dc21 pm21 an21 cd21 ct21, f_B_without := f22, d_B_without := PySem.W.fnOf "without" "Book.without" (defArgs s_B_without) (defBody s_B_without) (defScope s_B_without) .none kV22 dc22 pm22 an22 cd22 ct22, f_B_with_note := f23, d_B_with_note := PySem.W.fnOf "with_note" "Book.with_note" (defArgs s_B_with_note) (defBody s_B_with_note) (defScope s_B_with_note) .none kV23 dc23 pm23 an23 cd23 ct23, f_B_or := f24, d_B_or := PySem.W.fnOf "__or__" "Book.__or__" (defArgs s_B_or) (defBody s_B_or) (defScope s_B_or) .none kV24 dc24 pm24 an24 cd24 ct24, f_B_add := f25, d_B_add := PySem.W.fnOf "__add__" "Book.__add__" (defArgs s_B_add) (defBody s_B_add) (defScope s_B_add) .none kV25 dc25 pm25 an25 cd25 ct25, f_B_invert := f26, d_B_invert := PySem.W.fnOf "__invert__" "Book.__invert__" (defArgs s_B_invert) (defBody s_B_invert) (defScope s_B_invert) .none kV26 dc26 pm26 an26 cd26 ct26, f_B_neg := f27, d_B_neg := PySem.W.fnOf "__neg__" "Book.__neg__" (defArgs s_B_neg) (defBody s_B_neg) (defScope s_B_neg) .none kV27 dc27 pm27 an27 cd27 ct27, f_B_eq := f28, d_B_eq := PySem.W.fnOf "__eq__" "Book.__eq__" (defArgs s_B_eq) (defBody s_B_eq) (defScope s_B_eq) .none kV28 dc28 pm28 an28 cd28 ct28, f_contents := f29, d_contents := PySem.W.fnOf "_contents" "_contents" (defArgs s_contents) (defBody s_contents) (defScope s_contents) .none kV29 dc29 pm29 an29 cd29 ct29, f_first_ties := f30, d_first_ties := PySem.W.fnOf "_first_ties" "_first_ties" (defArgs s_first_ties) (defBody s_first_ties) (defScope s_first_ties) .none kV30 dc30 pm30 an30 cd30 ct30, f_first_notes := f31, d_first_notes := PySem.W.fnOf "_first_notes" "_first_notes" (defArgs s_first_notes) (defBody s_first_notes) (defScope s_first_notes) .none kV31 dc31 pm31 an31 cd31 ct31, f_has_note := f32, d_has_note := PySem.W.fnOf "_has_note" "_has_note" (defArgs s_has_note) (defBody s_has_note) (defScope s_has_note) .none kV32 dc32 pm32 an32 cd32 ct32, f_check_notes := f33, d_check_notes := PySem.W.fnOf "_check_notes" "_check_notes" (defArgs s_check_notes) (defBody s_check_notes) (defScope s_check_notes) .none kV33 dc33 pm33 an33 cd33 ct33, f_book_of := f34, d_book_of := PySem.W.fnOf "_book_of" "_book_of" (defArgs s_book_of) (defBody s_book_of) (defScope s_book_of) .none kV34 dc34 pm34 an34 cd34 ct34, f_moved := f35, d_moved := PySem.W.fnOf "_moved" "_moved" (defArgs s_moved) (defBody s_moved) (defScope s_moved) .none kV35 dc35 pm35 an35 cd35 ct35, f_turned := f36, d_turned := PySem.W.fnOf "_turned" "_turned" (defArgs s_turned) (defBody s_turned) (defScope s_turned) .none kV36 dc36 pm36 an36 cd36 ct36, f_upside_down := f37, d_upside_down := PySem.W.fnOf "_upside_down" "_upside_down" (defArgs s_upside_down) (defBody s_upside_down) (defScope s_upside_down) .none kV37 dc37 pm37 an37 cd37 ct37, f_l_pot := f38, d_l_pot := PySem.W.fnOf "_law_pot" "_law_pot" (defArgs s_l_pot) (defBody s_l_pot) (defScope s_l_pot) .none kV38 dc38 pm38 an38 cd38 ct38, f_l_take := f39, d_l_take := PySem.W.fnOf "_law_take" "_law_take" (defArgs s_l_take) (defBody s_l_take) (defScope s_l_take) .none kV39 dc39 pm39 an39 cd39 ct39, f_l_of := f40, d_l_of := PySem.W.fnOf "_law_of" "_law_of" (defArgs s_l_of) (defBody s_l_of) (defScope s_l_of) .none kV40 dc40 pm40 an40 cd40 ct40, f_l_cells := f41, d_l_cells := PySem.W.fnOf "_law_cells" "_law_cells" (defArgs s_l_cells) (defBody s_l_cells) (defScope s_l_cells) .none kV41 dc41 pm41 an41 cd41 ct41, f_l_amount := f42, d_l_amount := PySem.W.fnOf "_law_amount" "_law_amount" (defArgs s_l_amount) (defBody s_l_amount) (defScope s_l_amount) .none kV42 dc42 pm42 an42 cd42 ct42, f_l_row := f43, d_l_row := PySem.W.fnOf "_law_row" "_law_row" (defArgs s_l_row) (defBody s_l_row) (defScope s_l_row) .none kV43 dc43 pm43 an43 cd43 ct43, f_l_far := f44, d_l_far := PySem.W.fnOf "_law_far" "_law_far" (defArgs s_l_far) (defBody s_l_far) (defScope s_l_far) .none kV44 dc44 pm44 an44 cd44 ct44, f_l_tie := f45, d_l_tie := PySem.W.fnOf "_law_tie" "_law_tie" (defArgs s_l_tie) (defBody s_l_tie) (defScope s_l_tie) .none kV45 dc45 pm45 an45 cd45 ct45, f_l_row_of := f46, d_l_row_of := PySem.W.fnOf "_law_row_of" "_law_row_of" (defArgs s_l_row_of) (defBody s_l_row_of) (defScope s_l_row_of) .none kV46 dc46 pm46 an46 cd46 ct46, f_l_text_of := f47, d_l_text_of := PySem.W.fnOf "_law_text_of" "_law_text_of" (defArgs s_l_text_of) (defBody s_l_text_of) (defScope s_l_text_of) .none kV47 dc47 pm47 an47 cd47 ct47, f_l_lore := f48, d_l_lore := PySem.W.fnOf "_law_lore" "_law_lore" (defArgs s_l_lore) (defBody s_l_lore) (defScope s_l_lore) .none kV48 dc48 pm48 an48 cd48 ct48, f_l_lines := f49, d_l_lines := PySem.W.fnOf "_law_lines" "_law_lines" (defArgs s_l_lines) (defBody s_l_lines) (defScope s_l_lines) .none kV49 dc49 pm49 an49 cd49 ct49, f_l_book := f50, d_l_book := PySem.W.fnOf "_law_book" "_law_book" (defArgs s_l_book) (defBody s_l_book) (defScope s_l_book) .none kV50 dc50 pm50 an50 cd50 ct50, f_l_loose := f51, d_l_loose := PySem.W.fnOf "_law_loose" "_law_loose" (defArgs s_l_loose) (defBody s_l_loose) (defScope s_l_loose) .none kV51 dc51 pm51 an51 cd51 ct51, f_l_with := f52, d_l_with := PySem.W.fnOf "_law_with" "_law_with" (defArgs s_l_with) (defBody s_l_with) (defScope s_l_with) .none kV52 dc52 pm52 an52 cd52 ct52, f_l_turned := f53, d_l_turned := PySem.W.fnOf "_law_turned" "_law_turned" (defArgs s_l_turned) (defBody s_l_turned) (defScope s_l_turned) .none kV53 dc53 pm53 an53 cd53 ct53, f_l_upside := f54, d_l_upside := PySem.W.fnOf "_law_upside" "_law_upside" (defArgs s_l_upside) (defBody s_l_upside) (defScope s_l_upside) .none kV54 dc54 pm54 an54 cd54 ct54, f_l_grown := f55, d_l_grown := PySem.W.fnOf "_law_grown" "_law_grown" (defArgs s_l_grown) (defBody s_l_grown) (defScope s_l_grown) .none kV55 dc55 pm55 an55 cd55 ct55, f_l_are_more_right := f56, d_l_are_more_right := PySem.W.fnOf "_law_are_more_right" "_law_are_more_right" (defArgs s_l_are_more_right) (defBody s_l_are_more_right) (defScope s_l_are_more_right) .none kV56 dc56 pm56 an56 cd56 ct56, f_l_are_joined_right := f57, d_l_are_joined_right := PySem.W.fnOf "_law_are_joined_right" "_law_are_joined_right" (defArgs s_l_are_joined_right) (defBody s_l_are_joined_right) (defScope s_l_are_joined_right) .none kV57 dc57 pm57 an57 cd57 ct57, f_l_right := f58, d_l_right := PySem.W.fnOf "_law_right" "_law_right" (defArgs s_l_right) (defBody s_l_right) (defScope s_l_right) .none kV58 dc58 pm58 an58 cd58 ct58, f_law := fa, d_law := PySem.W.fnOf "law" "law" (defArgs s_law) (defBody s_law) (defScope s_law) .none kV59 dc59 pm59 an59 cd59 ct59, t_GREATEST := t_GREATEST, t__DIGITS := t__DIGITS, t__CHUNK := t__CHUNK, t_MOST := t_MOST, cC := C, cB := CB, c := fun i => ([c0, c1, c2, c3, c4, c5, c6, c7, c8] : List Addr).getD i 0 }, fun p hp => ?_, fun s v => .of_eq rfl, fun H a ns hl hT hS => ⟨a, ns, rfl, hS, hl, fun p hp => ?_, fun _ => rfl⟩, fun base _ _ hTB => ok_law T ⟩
  · exact absurd hp List.not_mem_nil

  · exact absurd (show p ∈ ([] : List (Addr × Str)) from hp) List.not_mem_nil

end TT

set_option Elab.async false
set_option linter.all false
open PySem PySem.W PyProof.Rows
set_option maxRecDepth 100000 in
set_option maxHeartbeats 0 in
theorem PySem.Challenge.cw_turnedtunes_k70_books_written_otherwise_holds : PySem.Challenge.rw_turnedtunes_k70_books_written_otherwise.Holds := by
  w_on; o_law; k_head; (case hw => w_witness2)
  k_fill
  refine TT.walk_gT (n := 63) (k := 20) (x := "_law_script") (l := PySem.Challenge.rw_turnedtunes_k70_books_written_otherwise) rfl (by decide) rfl ⟨rfl, by decide, by decide⟩ (fun w h Y => by first | exact PySem.W.km_in_of Y | exact PySem.W.kIn_of Y) (fun w => by kernel_rfl) ?F
  case F =>
    intro w mg fa h KX G hmg tab
    refine' TT.all_mk KX G hmg tab ?zz_aC ?zz_aB ?zz_m_read ?zz_m_ga ?zz_m_sta ?zz_ge0 ?zz_ge1 ?zz_ge2 ?zz_ge3 ?zz_ge4 ?zz_ge5 ?zz_ge6 ?zz_ge7 ?zz_ge8 ?zz_hin ?zz_i0 ?zz_l0 ?zz_d0 ?zz_k0 ?zz_a1 ?zz_l1 ?zz_d1 ?zz_k1 ?zz_a2 ?zz_l2 ?zz_d2 ?zz_k2 ?zz_a3 ?zz_l3 ?zz_d3 ?zz_k3 ?zz_a4 ?zz_l4 ?zz_d4 ?zz_k4 ?zz_a5 ?zz_l5 ?zz_d5 ?zz_k5 ?zz_a6 ?zz_l6 ?zz_d6 ?zz_k6 ?zz_a7 ?zz_i7 ?zz_l7 ?zz_d7 ?zz_k7 ?zz_lT7 ?zz_w7_down ?zz_w7_backward ?zz_a8 ?zz_i8 ?zz_l8 ?zz_d8 ?zz_k8 ?zz_a9 ?zz_i9 ?zz_l9 ?zz_d9 ?zz_k9 ?zz_a10 ?zz_l10 ?zz_d10 ?zz_k10 ?zz_a11 ?zz_l11 ?zz_d11 ?zz_k11 ?zz_a12 ?zz_l12 ?zz_d12 ?zz_k12 ?zz_a13 ?zz_l13 ?zz_d13 ?zz_k13 ?zz_a14 ?zz_l14 ?zz_d14 ?zz_k14 ?zz_a15 ?zz_l15 ?zz_d15 ?zz_k15 ?zz_a16 ?zz_l16 ?zz_d16 ?zz_k16 ?zz_a17 ?zz_l17 ?zz_d17 ?zz_k17 ?zz_a18 ?zz_l18 ?zz_d18 ?zz_k18 ?zz_a19 ?zz_i19 ?zz_l19 ?zz_d19 ?zz_k19 ?zz_a20 ?zz_i20 ?zz_l20 ?zz_d20 ?zz_k20 ?zz_a21 ?zz_i21 ?zz_l21 ?zz_d21 ?zz_k21 ?zz_a22 ?zz_i22 ?zz_l22 ?zz_d22 ?zz_k22 ?zz_a23 ?zz_i23 ?zz_l23 ?zz_d23 ?zz_k23 ?zz_a24 ?zz_i24 ?zz_l24 ?zz_d24 ?zz_k24 ?zz_a25 ?zz_i25 ?zz_l25 ?zz_d25 ?zz_k25 ?zz_a26 ?zz_i26 ?zz_l26 ?zz_d26 ?zz_k26 ?zz_a27 ?zz_i27 ?zz_l27 ?zz_d27 ?zz_k27 ?zz_a28 ?zz_i28 ?zz_l28 ?zz_d28 ?zz_k28 ?zz_a29 ?zz_l29 ?zz_d29 ?zz_k29 ?zz_a30 ?zz_l30 ?zz_d30 ?zz_k30 ?zz_a31 ?zz_l31 ?zz_d31 ?zz_k31 ?zz_a32 ?zz_l32 ?zz_d32 ?zz_k32 ?zz_a33 ?zz_l33 ?zz_d33 ?zz_k33 ?zz_a34 ?zz_l34 ?zz_d34 ?zz_k34 ?zz_a35 ?zz_l35 ?zz_d35 ?zz_k35 ?zz_a36 ?zz_l36 ?zz_d36 ?zz_k36 ?zz_a37 ?zz_l37 ?zz_d37 ?zz_k37 ?zz_a38 ?zz_l38 ?zz_d38 ?zz_k38 ?zz_a39 ?zz_l39 ?zz_d39 ?zz_k39 ?zz_a40 ?zz_l40 ?zz_d40 ?zz_k40 ?zz_a41 ?zz_l41 ?zz_d41 ?zz_k41 ?zz_a42 ?zz_l42 ?zz_d42 ?zz_k42 ?zz_a43 ?zz_l43 ?zz_d43 ?zz_k43 ?zz_a44 ?zz_l44 ?zz_d44 ?zz_k44 ?zz_a45 ?zz_l45 ?zz_d45 ?zz_k45 ?zz_a46 ?zz_l46 ?zz_d46 ?zz_k46 ?zz_a47 ?zz_l47 ?zz_d47 ?zz_k47 ?zz_a48 ?zz_l48 ?zz_d48 ?zz_k48 ?zz_a49 ?zz_l49 ?zz_d49 ?zz_k49 ?zz_a50 ?zz_l50 ?zz_d50 ?zz_k50 ?zz_a51 ?zz_l51 ?zz_d51 ?zz_k51 ?zz_a52 ?zz_l52 ?zz_d52 ?zz_k52 ?zz_a53 ?zz_l53 ?zz_d53 ?zz_k53 ?zz_a54 ?zz_l54 ?zz_d54 ?zz_k54 ?zz_a55 ?zz_l55 ?zz_d55 ?zz_k55 ?zz_a56 ?zz_l56 ?zz_d56 ?zz_k56 ?zz_a57 ?zz_l57 ?zz_d57 ?zz_k57 ?zz_a58 ?zz_l58 ?zz_d58 ?zz_k58 ?zz_a59 ?zz_l59 ?zz_d59 ?zz_k59 ?zz_b_isinstance ?zz_b_int ?zz_b_bool ?zz_b_str ?zz_b_range ?zz_b_len ?zz_b_max ?zz_b_tuple ?zz_b_enumerate ?zz_b_dict ?zz_b_abs ?zz_b_list ?zz_b_min ?zz_b_repr ?zz_b_all ?zz_y_GREATEST ?zz_y__DIGITS ?zz_y__CHUNK ?zz_y_MOST ?zz_pg ?zz_hd ?zz_po ?zz_sa ?zz_mkc ?zz_kcc ?zz_n_first ?zz_n_second ?zz_n_length ?zz_n_amount ?zz_n_down ?zz_n_backward ?zz_n_text ?zz_pgB ?zz_hdB ?zz_poB ?zz_saB ?zz_mkcB ?zz_kccB ?zz_nB_text ?zz_nB_size ?zz_nB_ties ?zz_nB_notes ?zz_m_z_cls ?zz_m_z_mro ?zz_m_z_ty ?zz_m_z_clsB ?zz_m_z_mroB ?zz_m_z_tyB ?zz_m_z_get ?zz_m_z_tk ?zz_m_z_subN ?zz_m_z_subT ?zz_m_z_notT ?zz_m_z_firstB ?zz_m_z_notTB ?zz_m_z_neB ?zz_b_ValueErrorX ?zz_zve ?zz_tin ?zz_zget ?zz_ztk ?zz_e0 ?zz_e1 ?zz_e2 ?zz_e3 ?zz_e4 ?zz_e5 ?zz_e6 ?zz_e7 ?zz_e8 ?zz_nd
    (case zz_aC => k_is)
    (case zz_aB => k_is)
    (case zz_m_read => k_is)
    (case zz_m_ga => k_is)
    (case zz_m_sta => k_is)
    (case zz_ge0 => k_is)
    (case zz_ge1 => k_is)
    (case zz_ge2 => k_is)
    (case zz_ge3 => k_is)
    (case zz_ge4 => k_is)
    (case zz_ge5 => k_is)
    (case zz_ge6 => k_is)
    (case zz_ge7 => k_is)
    (case zz_ge8 => k_is)
    (case zz_hin => k_is)
    (case zz_i0 => k_is)
    (case zz_l0 => k_is)
    (case zz_d0 => k_is)
    (case zz_k0 => k_is)
    (case zz_a1 => k_is)
    (case zz_l1 => k_is)
    (case zz_d1 => k_is)
    (case zz_k1 => k_is)
    (case zz_a2 => k_is)
    (case zz_l2 => k_is)
    (case zz_d2 => k_is)
    (case zz_k2 => k_is)
    (case zz_a3 => k_is)
    (case zz_l3 => k_is)
    (case zz_d3 => k_is)
    (case zz_k3 => k_is)
    (case zz_a4 => k_is)
    (case zz_l4 => k_is)
    (case zz_d4 => k_is)
    (case zz_k4 => k_is)
    (case zz_a5 => k_is)
    (case zz_l5 => k_is)
    (case zz_d5 => k_is)
    (case zz_k5 => k_is)
    (case zz_a6 => k_is)
    (case zz_l6 => k_is)
    (case zz_d6 => k_is)
    (case zz_k6 => k_is)
    (case zz_a7 => k_is)
    (case zz_i7 => k_is)
    (case zz_l7 => k_is)
    (case zz_d7 => k_is)
    (case zz_k7 => k_is)
    (case zz_lT7 => k_is)
    (case zz_w7_down => k_is)
    (case zz_w7_backward => k_is)
    (case zz_a8 => k_is)
    (case zz_i8 => k_is)
    (case zz_l8 => k_is)
    (case zz_d8 => k_is)
    (case zz_k8 => k_is)
    (case zz_a9 => k_is)
    (case zz_i9 => k_is)
    (case zz_l9 => k_is)
    (case zz_d9 => k_is)
    (case zz_k9 => k_is)
    (case zz_a10 => k_is)
    (case zz_l10 => k_is)
    (case zz_d10 => k_is)
    (case zz_k10 => k_is)
    (case zz_a11 => k_is)
    (case zz_l11 => k_is)
    (case zz_d11 => k_is)
    (case zz_k11 => k_is)
    (case zz_a12 => k_is)
    (case zz_l12 => k_is)
    (case zz_d12 => k_is)
    (case zz_k12 => k_is)
    (case zz_a13 => k_is)
    (case zz_l13 => k_is)
    (case zz_d13 => k_is)
    (case zz_k13 => k_is)
    (case zz_a14 => k_is)
    (case zz_l14 => k_is)
    (case zz_d14 => k_is)
    (case zz_k14 => k_is)
    (case zz_a15 => k_is)
    (case zz_l15 => k_is)
    (case zz_d15 => k_is)
    (case zz_k15 => k_is)
    (case zz_a16 => k_is)
    (case zz_l16 => k_is)
    (case zz_d16 => k_is)
    (case zz_k16 => k_is)
    (case zz_a17 => k_is)
    (case zz_l17 => k_is)
    (case zz_d17 => k_is)
    (case zz_k17 => k_is)
    (case zz_a18 => k_is)
    (case zz_l18 => k_is)
    (case zz_d18 => k_is)
    (case zz_k18 => k_is)
    (case zz_a19 => k_is)
    (case zz_i19 => k_is)
    (case zz_l19 => k_is)
    (case zz_d19 => k_is)
    (case zz_k19 => k_is)
    (case zz_a20 => k_is)
    (case zz_i20 => k_is)
    (case zz_l20 => k_is)
    (case zz_d20 => k_is)
    (case zz_k20 => k_is)
    (case zz_a21 => k_is)
    (case zz_i21 => k_is)
    (case zz_l21 => k_is)
    (case zz_d21 => k_is)
    (case zz_k21 => k_is)
    (case zz_a22 => k_is)
    (case zz_i22 => k_is)
    (case zz_l22 => k_is)
    (case zz_d22 => k_is)
    (case zz_k22 => k_is)
    (case zz_a23 => k_is)
    (case zz_i23 => k_is)
    (case zz_l23 => k_is)
    (case zz_d23 => k_is)
    (case zz_k23 => k_is)
    (case zz_a24 => k_is)
    (case zz_i24 => k_is)
    (case zz_l24 => k_is)
    (case zz_d24 => k_is)
    (case zz_k24 => k_is)
    (case zz_a25 => k_is)
    (case zz_i25 => k_is)
    (case zz_l25 => k_is)
    (case zz_d25 => k_is)
    (case zz_k25 => k_is)
    (case zz_a26 => k_is)
    (case zz_i26 => k_is)
    (case zz_l26 => k_is)
    (case zz_d26 => k_is)
    (case zz_k26 => k_is)
    (case zz_a27 => k_is)
    (case zz_i27 => k_is)
    (case zz_l27 => k_is)
    (case zz_d27 => k_is)
    (case zz_k27 => k_is)
    (case zz_a28 => k_is)
    (case zz_i28 => k_is)
    (case zz_l28 => k_is)
    (case zz_d28 => k_is)
    (case zz_k28 => k_is)
    (case zz_a29 => k_is)
    (case zz_l29 => k_is)
    (case zz_d29 => k_is)
    (case zz_k29 => k_is)
    (case zz_a30 => k_is)
    (case zz_l30 => k_is)
    (case zz_d30 => k_is)
    (case zz_k30 => k_is)
    (case zz_a31 => k_is)
    (case zz_l31 => k_is)
    (case zz_d31 => k_is)
    (case zz_k31 => k_is)
    (case zz_a32 => k_is)
    (case zz_l32 => k_is)
    (case zz_d32 => k_is)
    (case zz_k32 => k_is)
    (case zz_a33 => k_is)
    (case zz_l33 => k_is)
    (case zz_d33 => k_is)
    (case zz_k33 => k_is)
    (case zz_a34 => k_is)
    (case zz_l34 => k_is)
    (case zz_d34 => k_is)
    (case zz_k34 => k_is)
    (case zz_a35 => k_is)
    (case zz_l35 => k_is)
    (case zz_d35 => k_is)
    (case zz_k35 => k_is)
    (case zz_a36 => k_is)
    (case zz_l36 => k_is)
    (case zz_d36 => k_is)
    (case zz_k36 => k_is)
    (case zz_a37 => k_is)
    (case zz_l37 => k_is)
    (case zz_d37 => k_is)
    (case zz_k37 => k_is)
    (case zz_a38 => k_is)
    (case zz_l38 => k_is)
    (case zz_d38 => k_is)
    (case zz_k38 => k_is)
    (case zz_a39 => k_is)
    (case zz_l39 => k_is)
    (case zz_d39 => k_is)
    (case zz_k39 => k_is)
    (case zz_a40 => k_is)
    (case zz_l40 => k_is)
    (case zz_d40 => k_is)
    (case zz_k40 => k_is)
    (case zz_a41 => k_is)
    (case zz_l41 => k_is)
    (case zz_d41 => k_is)
    (case zz_k41 => k_is)
    (case zz_a42 => k_is)
    (case zz_l42 => k_is)
    (case zz_d42 => k_is)
    (case zz_k42 => k_is)
    (case zz_a43 => k_is)
    (case zz_l43 => k_is)
    (case zz_d43 => k_is)
    (case zz_k43 => k_is)
    (case zz_a44 => k_is)
    (case zz_l44 => k_is)
    (case zz_d44 => k_is)
    (case zz_k44 => k_is)
    (case zz_a45 => k_is)
    (case zz_l45 => k_is)
    (case zz_d45 => k_is)
    (case zz_k45 => k_is)
    (case zz_a46 => k_is)
    (case zz_l46 => k_is)
    (case zz_d46 => k_is)
    (case zz_k46 => k_is)
    (case zz_a47 => k_is)
    (case zz_l47 => k_is)
    (case zz_d47 => k_is)
    (case zz_k47 => k_is)
    (case zz_a48 => k_is)
    (case zz_l48 => k_is)
    (case zz_d48 => k_is)
    (case zz_k48 => k_is)
    (case zz_a49 => k_is)
    (case zz_l49 => k_is)
    (case zz_d49 => k_is)
    (case zz_k49 => k_is)
    (case zz_a50 => k_is)
    (case zz_l50 => k_is)
    (case zz_d50 => k_is)
    (case zz_k50 => k_is)
    (case zz_a51 => k_is)
    (case zz_l51 => k_is)
    (case zz_d51 => k_is)
    (case zz_k51 => k_is)
    (case zz_a52 => k_is)
    (case zz_l52 => k_is)
    (case zz_d52 => k_is)
    (case zz_k52 => k_is)
    (case zz_a53 => k_is)
    (case zz_l53 => k_is)
    (case zz_d53 => k_is)
    (case zz_k53 => k_is)
    (case zz_a54 => k_is)
    (case zz_l54 => k_is)
    (case zz_d54 => k_is)
    (case zz_k54 => k_is)
    (case zz_a55 => k_is)
    (case zz_l55 => k_is)
    (case zz_d55 => k_is)
    (case zz_k55 => k_is)
    (case zz_a56 => k_is)
    (case zz_l56 => k_is)
    (case zz_d56 => k_is)
    (case zz_k56 => k_is)
    (case zz_a57 => k_is)
    (case zz_l57 => k_is)
    (case zz_d57 => k_is)
    (case zz_k57 => k_is)
    (case zz_a58 => k_is)
    (case zz_l58 => k_is)
    (case zz_d58 => k_is)
    (case zz_k58 => k_is)
    (case zz_a59 => k_is)
    (case zz_l59 => k_is)
    (case zz_d59 => k_is)
    (case zz_k59 => k_is)
    (case zz_b_isinstance => k_is)
    (case zz_b_int => k_is)
    (case zz_b_bool => k_is)
    (case zz_b_str => k_is)
    (case zz_b_range => k_is)
    (case zz_b_len => k_is)
    (case zz_b_max => k_is)
    (case zz_b_tuple => k_is)
    (case zz_b_enumerate => k_is)
    (case zz_b_dict => k_is)
    (case zz_b_abs => k_is)
    (case zz_b_list => k_is)
    (case zz_b_min => k_is)
    (case zz_b_repr => k_is)
    (case zz_b_all => k_is)
    (case zz_y_GREATEST => k_is)
    (case zz_y__DIGITS => k_is)
    (case zz_y__CHUNK => k_is)
    (case zz_y_MOST => k_is)
    (case zz_pg => k_is)
    (case zz_hd => k_is)
    (case zz_po => k_is)
    (case zz_sa => k_is)
    (case zz_mkc => k_is)
    (case zz_kcc => k_is)
    (case zz_n_first => k_is)
    (case zz_n_second => k_is)
    (case zz_n_length => k_is)
    (case zz_n_amount => k_is)
    (case zz_n_down => k_is)
    (case zz_n_backward => k_is)
    (case zz_n_text => k_is)
    (case zz_pgB => k_is)
    (case zz_hdB => k_is)
    (case zz_poB => k_is)
    (case zz_saB => k_is)
    (case zz_mkcB => k_is)
    (case zz_kccB => k_is)
    (case zz_nB_text => k_is)
    (case zz_nB_size => k_is)
    (case zz_nB_ties => k_is)
    (case zz_nB_notes => k_is)
    (case zz_m_z_cls => k_is)
    (case zz_m_z_mro => k_is)
    (case zz_m_z_ty => k_is)
    (case zz_m_z_clsB => k_is)
    (case zz_m_z_mroB => k_is)
    (case zz_m_z_tyB => k_is)
    (case zz_m_z_get => k_is)
    (case zz_m_z_tk => k_is)
    (case zz_m_z_subN => k_is)
    (case zz_m_z_subT => k_is)
    (case zz_m_z_notT => k_is)
    (case zz_m_z_firstB => k_is)
    (case zz_m_z_notTB => k_is)
    (case zz_m_z_neB => k_is)
    (case zz_b_ValueErrorX => k_is)
    (case zz_zve => k_is)
    (case zz_tin => k_is)
    (case zz_zget => k_is)
    (case zz_ztk => k_is)
    (case zz_e0 => (refine' TT.excF_mk ?zx0_xL rfl ?zx0_sa ?zx0_tyC ?zx0_kC ?zx0_ga ?zx0_gg ?zx0_ha ?zx0_ini ?zx0_nv; (case zx0_xL => k_is); (case zx0_sa => k_is); (case zx0_tyC => k_is); (case zx0_kC => k_is); (case zx0_ga => k_is); (case zx0_gg => k_is); (case zx0_ha => k_is); (case zx0_ini => k_is); (case zx0_nv => k_is)))
    (case zz_e1 => (refine' TT.excF_mk ?zx1_xL rfl ?zx1_sa ?zx1_tyC ?zx1_kC ?zx1_ga ?zx1_gg ?zx1_ha ?zx1_ini ?zx1_nv; (case zx1_xL => k_is); (case zx1_sa => k_is); (case zx1_tyC => k_is); (case zx1_kC => k_is); (case zx1_ga => k_is); (case zx1_gg => k_is); (case zx1_ha => k_is); (case zx1_ini => k_is); (case zx1_nv => k_is)))
    (case zz_e2 => (refine' TT.excF_mk ?zx2_xL rfl ?zx2_sa ?zx2_tyC ?zx2_kC ?zx2_ga ?zx2_gg ?zx2_ha ?zx2_ini ?zx2_nv; (case zx2_xL => k_is); (case zx2_sa => k_is); (case zx2_tyC => k_is); (case zx2_kC => k_is); (case zx2_ga => k_is); (case zx2_gg => k_is); (case zx2_ha => k_is); (case zx2_ini => k_is); (case zx2_nv => k_is)))
    (case zz_e3 => (refine' TT.excF_mk ?zx3_xL rfl ?zx3_sa ?zx3_tyC ?zx3_kC ?zx3_ga ?zx3_gg ?zx3_ha ?zx3_ini ?zx3_nv; (case zx3_xL => k_is); (case zx3_sa => k_is); (case zx3_tyC => k_is); (case zx3_kC => k_is); (case zx3_ga => k_is); (case zx3_gg => k_is); (case zx3_ha => k_is); (case zx3_ini => k_is); (case zx3_nv => k_is)))
    (case zz_e4 => (refine' TT.excF_mk ?zx4_xL rfl ?zx4_sa ?zx4_tyC ?zx4_kC ?zx4_ga ?zx4_gg ?zx4_ha ?zx4_ini ?zx4_nv; (case zx4_xL => k_is); (case zx4_sa => k_is); (case zx4_tyC => k_is); (case zx4_kC => k_is); (case zx4_ga => k_is); (case zx4_gg => k_is); (case zx4_ha => k_is); (case zx4_ini => k_is); (case zx4_nv => k_is)))
    (case zz_e5 => (refine' TT.excF_mk ?zx5_xL rfl ?zx5_sa ?zx5_tyC ?zx5_kC ?zx5_ga ?zx5_gg ?zx5_ha ?zx5_ini ?zx5_nv; (case zx5_xL => k_is); (case zx5_sa => k_is); (case zx5_tyC => k_is); (case zx5_kC => k_is); (case zx5_ga => k_is); (case zx5_gg => k_is); (case zx5_ha => k_is); (case zx5_ini => k_is); (case zx5_nv => k_is)))
    (case zz_e6 => (refine' TT.excF_mk ?zx6_xL rfl ?zx6_sa ?zx6_tyC ?zx6_kC ?zx6_ga ?zx6_gg ?zx6_ha ?zx6_ini ?zx6_nv; (case zx6_xL => k_is); (case zx6_sa => k_is); (case zx6_tyC => k_is); (case zx6_kC => k_is); (case zx6_ga => k_is); (case zx6_gg => k_is); (case zx6_ha => k_is); (case zx6_ini => k_is); (case zx6_nv => k_is)))
    (case zz_e7 => (refine' TT.excF_mk ?zx7_xL rfl ?zx7_sa ?zx7_tyC ?zx7_kC ?zx7_ga ?zx7_gg ?zx7_ha ?zx7_ini ?zx7_nv; (case zx7_xL => k_is); (case zx7_sa => k_is); (case zx7_tyC => k_is); (case zx7_kC => k_is); (case zx7_ga => k_is); (case zx7_gg => k_is); (case zx7_ha => k_is); (case zx7_ini => k_is); (case zx7_nv => k_is)))
    (case zz_e8 => (refine' TT.excF_mk ?zx8_xL rfl ?zx8_sa ?zx8_tyC ?zx8_kC ?zx8_ga ?zx8_gg ?zx8_ha ?zx8_ini ?zx8_nv; (case zx8_xL => k_is); (case zx8_sa => k_is); (case zx8_tyC => k_is); (case zx8_kC => k_is); (case zx8_ga => k_is); (case zx8_gg => k_is); (case zx8_ha => k_is); (case zx8_ini => k_is); (case zx8_nv => k_is)))
    (case zz_nd => decide +kernel)
#print axioms PySem.Challenge.cw_turnedtunes_k70_books_written_otherwise_holds
