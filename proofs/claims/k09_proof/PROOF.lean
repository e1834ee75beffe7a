import PyProof.Rows.All
import Wide.All
import OpenK.AllK
import Wide.FinOn
import HandS.Base
import HandS.Call
import HandS.List
import HandS.Comp
import HandS.Iter
import HandS.Text
import HandS.Ends
import HandS.Words
import HandS.WordsExc
import HandS.Wide
import HandS.FStr
import HandS.IsInst
import HandS.Defaults
import HandS.MakeKwOnly
import HandS.OwnEq
import HandS.TupAny
import HandS.Style
import HandS.Conv
import HandS.Star
import HandS.Dict
import HandS.More
import HandS.Exc
import HandS.ExcInit
import HandS.ExcIs
import HandS.ExcField
import HandS.DeepEq
import HandS.Deep
import HandS.Lambda
import HandS.EndTab
import PyProof.EqAt
import PyProof.EqKinds
import PyProof.TupleCall
import PyProof.ReprRoads
import PyProof.LongRange
import PyProof.ListRange
import PyProof.NeKinds
import KE.DataMinMax
import HandS.StrMore
import HandS.Codes
import KE.IntTextLaws
import HandS.ClsMeth
import PyProof.P3In
import KE.KDictPairs
import PyProof.EnumMake
import PyProof.TupleIter
import KE.GoesMore
import HandS.Walk
import HandS.TryOnly
import PySem.Challenge.RW_turnedtunes_k09_books_read
set_option Elab.async false
set_option linter.all false
set_option maxRecDepth 100000
set_option maxHeartbeats 4000000
/-! Rules of our own over the hand layer: powers of great ints, repr of data, own unary operators, promises that know that no repr is under way. -/
namespace TT
open PySem PySem.Spec PyProof.Rows L2
section
variable {X : Cx}
/-- a ** b of any size that fits -/
theorem op_powW : OpR X (binaryOp .Pow) (rI (fun i j => 0 ≤ j ∧ (Builtin.Int.intBits i : Int) * j ≤ 2 ^ 27) fun i j => .int (i ^ j.toNat)) :=
  opI fun _ _ _ _ _ _ _ hc q => pow_int hc.1 hc.2 q

/-- repr(x), x data without dicts -/
def rRepr (K : PySem.W.Frag) : List V → Hp → VK → Prop := fun xs H Q => ∃ (x : V) (d : PyData), xs = [x] ∧ Dp K H x d ∧ d.showable = true ∧ d.hasDict = false ∧ d.depth ≤ 60 ∧ d.shown.length ≤ sizeLine ∧ Q (.str d.shown) H
theorem call_repr (hg : X.A.guards = some []) (hu : X.A.units + 64 < cLine) : CallR X (.builtin "repr") (rRepr X.K) := by
  intro pins s σ H xs us Q I r h
  obtain ⟨x, d, rfl, hd, hs, hn, hdep, hz, q⟩ := h
  obtain ⟨u, rfl, rx⟩ : ∃ u, us = [u] ∧ RelV x u := by
    cases r with
    | cons a b => cases b; exact ⟨_, rfl, a⟩
  obtain ⟨as, rd⟩ := Dp.reads I d x u hd rx
  have fin : ∀ h' tk u', (∀ b o, s.heap.get? b = some o → h'.get? b = some o) → EP X pins σ Q (.str d.shown u') { s with heap := h', toks := tk } :=
    fun h' tk u' hk => ⟨.str d.shown, H, I.kept hk, ⟨_, rfl⟩, q⟩
  cases hd with
  | non => obtain rfl := rx; exact PySem.P.repr_of_none (fin s.heap _ _ fun _ _ e => e)
  | bl b => obtain rfl := rx; exact PySem.P.repr_of_bool (fin s.heap _ _ fun _ _ e => e)
  | int i => obtain ⟨t, rfl⟩ := rx; exact PySem.P.repr_of_int (by simpa [PyData.showable] using hs) (fin s.heap _ _ fun _ _ e => e)
  | str y => obtain ⟨t, rfl⟩ := rx; exact PySem.P.repr_of_str (fin s.heap _ _ fun _ _ e => e) hz
  | lst h1 h2 =>
    obtain rfl := rx
    exact repr_of_reads' rd hs (PyData.noDict_hsm hn) hg (by omega) (fun _ _ e => e) (fun h' u tk hk => fin h' tk u hk) hz
  | tup h1 h2 =>
    obtain rfl := rx
    exact repr_of_reads' rd hs (PyData.noDict_hsm hn) hg (by omega) (fun _ _ e => e) (fun h' u tk hk => fin h' tk u hk) hz
end

/-! ### promises that know that no repr is under way -/
/-- the def at f keeps sp wherever it is called while no repr runs -/
structure GOk (P : Program) (w : World) (K : PySem.W.Frag) (mg : Str → Option Value) (base : Heap) (CX : CXT) (k : Nat) (f : Addr) (fd : FuncData) (ps : List Str) (sp : Sp) : Prop where
  size : ∀ vs H Q E, sp vs H Q E → vs.length = ps.length
  go : ∀ (A : Around) (outer : List Env) (s : Shared) (H : Hp) (args : Args) (us : List Value) (vs : List V) (Q : VK) (E : XK), A.guards = some [] → Room k A →
    Env0 P w K mg base A outer s H → BindsTo s fd args (ps.zip us) → Vals vs us → sp vs H Q E → codeAny (model P w) A (.call (.ref f) args) (CR CX outer P w H s Q E) s

section
variable {P : Program} {w : World} {K : PySem.W.Frag} {mg : Str → Option Value} {base : Heap} {CX : CXT} {k : Nat} {f : Addr} {ps : List Str} {sp : Sp}
theorem GOk.mono {j : Nat} {fd : FuncData} (F : GOk P w K mg base CX j f fd ps sp) (h : j ≤ k) : GOk P w K mg base CX k f fd ps sp :=
  { size := F.size, go := fun A outer s H args us vs Q E g r => F.go A outer s H args us vs Q E g (r.mono h) }
theorem GOk.weak {sp' : Sp} {fd : FuncData} (F : GOk P w K mg base CX k f fd ps sp) (h : ∀ vs H Q E, sp' vs H Q E → sp vs H Q E) : GOk P w K mg base CX k f fd ps sp' :=
  { size := fun vs H Q E q => F.size vs H Q E (h vs H Q E q), go := fun A outer s H args us vs Q E g r e b v q => F.go A outer s H args us vs Q E g r e b v (h vs H Q E q) }
/-- any promise of the layer is one -/
theorem GOk.of {fd : FuncData} (F : FnOk P w K mg base CX k f fd ps sp) : GOk P w K mg base CX k f fd ps sp :=
  { size := F.len, go := fun A outer s H args us vs Q E _ => F.run A outer s H args us vs Q E }
/-- such a def by its body -/
theorem g_of {name qual : Str} {params : Arguments} {body : List Stmt} {scope : Scope} {dV kV doc pm cdv ct oc : Value} {an od : Option Addr} {osl : Array (Option Value)} {N : List Str}
    (lk : K.lookup f = some ⟨oc, od, .func (PySem.W.fnOf name qual params body scope dV kV doc pm an cdv ct), osl⟩) (hcd : PySem.W.codeIn K cdv qual = true) (S : FnScope N ps scope)
    (size : ∀ vs H Q E, sp vs H Q E → vs.length = ps.length)
    (hb : ∀ (A : Around) (outer : List Env) (s : Shared) (H : Hp) (vs : List V) (Q : VK) (E : XK), A.guards = some [] → Room k (A.deeper (envOfC qual scope s.heap.objs.size f cdv)) → sp vs H Q E →
      ∃ t, PSs (cxOf CX P w K mg base N qual scope f cdv A outer s H E) body t ∧ t { nx := fun _ H1 => Q .non H1, rt := Q } (start N vs) H) :
    GOk P w K mg base CX (k + 1) f (PySem.W.fnOf name qual params body scope dV kV doc pm an cdv ct) ps sp := by
  refine { size := size, go := fun A outer s H args us vs Q E g hr e0 bnd rv hsp => ?_ }
  have old : ∀ b o, base.get? b = some o → s.heap.get? b = some o := fun b o e => (e0.bs b o e).1
  have kinds : ∀ y ∈ ps.zip us, scope.names.lookup y.1 = some .local ∨ (scope.names.lookup y.1 = some .cell ∧ ((cellsFrom (s.heap.objs.size + 1) scope.names []).lookup y.1).isSome = true) := by
    intro y hy
    obtain ⟨n, v⟩ := y
    refine (S.par n (List.of_mem_zip hy).1).imp id fun q => ⟨q, ?_⟩
    exact PySem.W.cellsFrom_some _ _ _ (.inl q)
  refine codeAny_call_function hr.depth (e0.mod.kin.keeps old _ _ lk) rfl S.co S.gen rfl (PySem.W.codeRec_of (e0.mod.kin.keeps old) hcd) (bnd _ _ _ _ (wpAny_newFunctionEnv_cells S.kind kinds fun env he s1 x => ?_))
  subst he
  refine ⟨(e0.mod.nolimit.keeps old).keeps x.toInCall.keep, codeAny_func ?_⟩
  obtain ⟨t, ht, hq⟩ := hb A outer s H vs Q E g (hr.deeper _) hsp
  have J : Inv (cxOf CX P w K mg base N qual scope f cdv A outer s H E) [] (start N vs) H s1 := inv_start S hr.hd e0 (size _ _ _ _ hsp) rv x
  refine wpAny_mono (ht.run [] s1 (start N vs) H _ J hq) (fun fl s2 hs => ?_) fun _ _ z => z
  cases fl with
  | ret u => obtain ⟨v, σ1, H1, I1, r1, q1⟩ := hs; exact ⟨v, H1, I1.os, I1.bare, I1.base, I1.hok, r1, q1⟩
  | next => obtain ⟨σ1, H1, I1, q1⟩ := hs; exact ⟨V.non, H1, I1.os, I1.bare, I1.base, I1.hok, rfl, q1⟩
  | brk => obtain ⟨_, _, _, z⟩ := hs; exact z.elim
  | cont => obtain ⟨_, _, _, z⟩ := hs; exact z.elim
end

/-- a def of the text that nothing leaves but by return -/
theorem okG {P : Program} {w : World} {K : PySem.W.Frag} {mg : Str → Option Value} {base : Heap} {x qual : Str} {st : Stmt} {f : Addr} {fd : FuncData} {N ps : List Str} {k : Nat} {sp : Sp} (F : Fun K x qual st f fd) (S : FnScope N ps (defScope st))
    (size : ∀ vs H Q E, sp vs H Q E → vs.length = ps.length)
    (hb : ∀ (cdv : Value) (A : Around) (outer : List Env) (s : Shared) (H : Hp) (vs : List V) (Q : VK) (E : XK), A.guards = some [] → Room k (A.deeper (envOfC qual (defScope st) s.heap.objs.size f cdv)) → sp vs H Q E →
      ∃ t, PSs (cxOf CX0 P w K mg base N qual (defScope st) f cdv A outer s H E).nox (defBody st) t ∧ t { nx := fun _ H1 => Q .non H1, rt := Q } (start N vs) H) : GOk P w K mg base CX0 (k + 1) f fd ps sp := by
  obtain ⟨oc, od, kV, doc, pm, an, cdv, ct, osl, rfl, lk, hcd⟩ := F.ex
  refine g_of lk hcd S size fun A outer s H vs Q E g hr hsp => ?_
  obtain ⟨t, h, q⟩ := hb cdv A outer s H vs Q E g hr hsp
  exact ⟨t, h.nox, q⟩
section
variable {X : Cx} {CX : CXT} {k : Nat} {f : Addr} {fd : FuncData} {ps : List Str} {sp : Sp} {dvs : List V} {ds : List Value} {E : XK} {x : Str} {p pos : Pos} {e : Expr} {es : List Expr} {t : TA}
theorem run_g {pins : List (Addr × Obj)} {σ : L2.St} {H : Hp} {s : Shared} {Q : VK} {us : List Value} {vs : List V} (F : GOk X.prog X.w X.K X.mg X.base CX k f fd ps sp) (g : X.A.guards = some []) (hr : Room k X.A)
    (hb : Binds X.K fd ps ds) (hd : Vals dvs ds) (hx : Passes CX X E) (I : Inv X pins σ H s) (r : Vals vs us) (h : sp (vs ++ dvs) H Q E) : wpAny (model X.prog X.w) X.A (call (.ref f) us) (EP X pins σ Q) X.xe s := by
  have r2 := r.append hd
  have n : (us ++ ds).length = ps.length := r2.length ▸ F.size _ _ _ _ h
  refine wpAny_call (codeAny_mono (F.go X.A X.stack s H ⟨us, []⟩ _ _ Q E g hr I.env0 (hb s us I.kIn n) r2 h) fun res s1 z => ?_)
  match res, z with
  | .error e, z => exact hx pins σ H s e s1 I z
  | .ok (.ret u), z => exact I.after z
  | .ok .next, z => exact z.elim
  | .ok .brk, z => exact z.elim
  | .ok .cont, z => exact z.elim
/-- f(e, ..) of such a def -/
theorem pe_callG (F : GOk X.prog X.w X.K X.mg X.base CX k f fd ps sp) (g : X.A.guards = some []) (hr : Room k X.A) (hg : Gl X x) (hm : X.mg x = some (.ref f)) (hk : PySem.W.keepIn X.K (.ref f) = true)
    (hb : Binds X.K fd ps ds) (hd : Vals dvs ds) (hx : Passes CX X E) (ha : PA X (e :: es) t) (hdb : (x == ("__debug__" : Str)) = false := by decide)
    (he : starEach (e :: es) X.env = (false, eval e X.env) :: starEach es X.env := by rfl) (hpl : (backTo pos (starEach es X.env)).any (·.1) = false := by rfl) : PE X (.Call (.Name x p) (e :: es) [] pos) (tCall sp dvs E t) := by
  constructor
  intro pins s σ H Q I h
  exact wpAny_Call_Name_kw (ld_glob I hg hm (PySem.W.callWith_K (h₀ := X.base) I.ok.mod.kin hk (thn (ha.run pos pins s σ H _ I h) fun us s1 ⟨vs, H1, I1, r, q⟩ => ⟨I1.kIn, run_g F g hr hb hd hx I1 r q⟩) he hpl) hdb)

/-- ~x of an instance of an own class -/
theorem un_own {C : Addr} (F : FnOk X.prog X.w X.K X.mg X.base CX k f fd ps sp) (hr : Room k X.A) (hb : Binds X.K fd ps []) (hx : Passes CX X E)
    (hs : PySem.W.findIn X.K (.ref C) "__invert__" = some (some (.ref f))) (hf : PySem.W.isFn X.K (.ref f) = true) :
    UnR X (unaryOp .Invert) (fun x H Q => ∃ a dx fs, x = .ref a ∧ H a = some (.ins C dx fs) ∧ sp [.ref a] H Q E) := by
  intro pins s σ H x v Q I rx h
  obtain ⟨a, dx, fs, rfl, ha, hq⟩ := h
  obtain rfl : v = Value.ref a := rx
  obtain ⟨mA, O, _⟩ := ins_get I.hok ha
  obtain ⟨od, J, _⟩ := O.look
  obtain ⟨m, hF⟩ := I.fr
  exact PySem.W.ksp_inv hF I.ok.mod.kin J hs hf (run_fn (us := [.ref a]) (vs := [.ref a]) (dvs := []) (ds := []) F hr hb .nil hx I (.cons rfl .nil) hq)
end

/-! ### the end of a law's row for such a promise -/
/-- the script alone is tracked: as a known list, or not at all where it is an object of the module -/
def seen (a : Addr) (ob : Obj) (ns : List Int) (own : Bool) : Hp := fun b => if own = false ∧ b = a then some (.frz ob (.lst (ns.map V.int))) else none
theorem seen_own {a : Addr} {ob : Obj} {ns : List Int} (b : Addr) : seen a ob ns true b = none := if_neg fun z => nomatch z.1
theorem seen_at {a : Addr} {ob : Obj} {ns : List Int} : seen a ob ns false a = some (.frz ob (.lst (ns.map V.int))) := if_pos ⟨rfl, rfl⟩
theorem seen_ne {a b : Addr} {ob : Obj} {ns : List Int} {o : Bool} (h : b ≠ a) : seen a ob ns o b = none := if_neg fun z => h z.2
theorem run_law {P : Program} {w : World} {K : PySem.W.Frag} {mg mb : Str → Option Value} {CX : CXT} {k : Nat} {fa a : Addr} {fd : FuncData} {x : Str} {sp : Sp} {s : Shared} {vs : List Value} {ns : List Int}
    (KX : K.In s.heap) (hns : s.heap.Ns mainGlobals mg) (hb : s.heap.Ns builtinsNs mb) (hbb : ∀ x : Str, x ≠ "__name__" → mb x = bootBuiltins x) (lim : s.heap.NoLimit) (hg : s.gens = #[])
    (ha : s.heap.get? a = some { cls := .type "list", data := .seq vs.toArray }) (hi : IntsAre vs ns) (hl : ns.length ≤ sizeLine) (hr : Room k callerA)
    (F : ∀ base : Heap, K.In base → base.Ns mainGlobals mg → GOk P w K mg base CX k fa fd [x] sp) (bnd : ∀ (s : Shared) (u : Value), BindsTo s fd ⟨[u], []⟩ [(x, u)])
    (hsp : ∀ H : Hp, SqL K H a (ns.map V.int) → sp [.ref a] H (fun v _ => v = .bl true) fun _ _ _ => False) (noX : ∀ H e s1, CX [] H s (fun _ _ _ => False) e s1 → False) :
    codeAny (model P w) callerA (.call (.ref fa) ⟨[.ref a], []⟩) (fun r s1 => r = .ok (.ret (.bool true)) ∧ OldK s.heap s1.heap ∧ s1.os = s.os ∧ AllBare s1.gens) s := by
  have rv := vals_ints hi
  obtain ⟨own, hS, hT, hK⟩ : ∃ own, SqL K (seen a { cls := .type "list", data := .seq vs.toArray } ns own) a (ns.map V.int) ∧ HOk P w (seen a { cls := .type "list", data := .seq vs.toArray } ns own) s.heap ∧
      (∀ b o, K.lookup b = some o → seen a { cls := .type "list", data := .seq vs.toArray } ns own b = none) := by
    cases hk : K.lookup a with
    | some o =>
      have e := (KX a o hk).symm.trans ha
      cases e
      refine ⟨true, .inr ⟨_, vs.toArray, _, hk, rfl, rfl, rfl, ?_, by simpa using rv⟩, fun b u z => ?_, fun b _ _ => seen_own b⟩
      · rw [List.size_toArray, hi.length]; exact hl
      · rw [seen_own] at z; cases z
    | none =>
      refine ⟨false, .inl (.inr ⟨_, seen_at⟩), fun b u z => ?_, fun b o hb => seen_ne fun e => ?_⟩
      · by_cases h : b = a
        · subst h
          rw [seen_at] at z; cases z
          exact ⟨ha, by rw [List.length_map]; exact hl, vs, _, rv, ha⟩
        · rw [seen_ne h] at z; cases z
      · subst e; rw [hk] at hb; cases hb
  generalize hH : seen a { cls := .type "list", data := .seq vs.toArray } ns own = H at hS hT hK
  have only : ∀ b u, H b = some u → b = a ∧ u = .frz { cls := .type "list", data := .seq vs.toArray } (.lst (ns.map V.int)) := fun b u z => by
    subst hH
    by_cases h : b = a
    · subst h
      cases own with
      | true => rw [seen_own] at z; cases z
      | false => rw [seen_at] at z; exact ⟨rfl, (Option.some.inj z).symm⟩
    · rw [seen_ne h] at z; cases z
  have free : ∀ {b : Addr} {o : Obj} {es : Array DictEntry} {ep : Nat}, s.heap.get? b = some o → o.data = .dict es ep → H b = none := fun {b o es ep} e d => by
    cases q : H b with
    | none => rfl
    | some u =>
      obtain ⟨rfl, _⟩ := only b u q
      have e' := e.symm.trans ha
      cases e'
      have d' : Data.seq vs.toArray _ = Data.dict es ep := d
      cases d'
  have ns' : ∀ {b : Addr} {m : Str → Option Value}, s.heap.Ns b m → (hidT s.heap H).Ns b m := fun {b m} n => by
    obtain ⟨o, es, ep, e, d, r⟩ := n
    exact ⟨o, es, ep, hidT_get e (free e d), d, r⟩
  have inK : K.In (hidT s.heap H) := fun b o e => hidT_get (KX b o e) (hK b o e)
  obtain ⟨mc, l1, l2⟩ := lim
  have e0 : Env0 P w K mg (hidT s.heap H) callerA [] s H :=
    { frames := rfl, mod := ⟨inK, ns' hns, ⟨mb, ns' hb, hbb⟩, ⟨mc, ns' l1, l2⟩⟩, bs := fun b o e => of_hidT e, bsz := Nat.le_of_eq (hidT_size _ _), funs := trivial, frf := fun b z => absurd (show b ∈ ([] : List Addr) from z) List.not_mem_nil, hok := hT, bare := .of_eq hg }
  refine codeAny_mono ((F _ inK (ns' hns)).go callerA [] s H ⟨[.ref a], []⟩ [.ref a] [.ref a] _ _ rfl hr e0 (bnd s (.ref a)) (.cons rfl .nil) (hsp H hS)) fun r s1 z => ?_
  match r, z with
  | .error e, z => exact (noX H e s1 z).elim
  | .ok .next, z => exact z.elim
  | .ok .brk, z => exact z.elim
  | .ok .cont, z => exact z.elim
  | .ok (.ret u), z =>
    obtain ⟨v, H1, os, bare, un, hok, r1, q⟩ := z
    subst q
    obtain rfl : u = Value.bool true := r1
    refine ⟨rfl, OldK.of_keep fun b o e => ?_, os, bare⟩
    cases q : H b with
    | none => exact un.keep b o e q (fun z => absurd (show b ∈ ([] : List Addr) from z) List.not_mem_nil) List.not_mem_nil
    | some u =>
      obtain ⟨rfl, rfl⟩ := only b u q
      obtain ⟨e1, _⟩ := hT _ _ q
      obtain ⟨e2, _⟩ := hok _ _ (un.frzs _ _ _ q)
      rw [e] at e1; cases e1
      exact e2
theorem walk_g {l : PySem.W.OpenLaw} {n k : Nat} {q : Program} {loose : List Str} {XP : (Str → Option Value) → Heap → Prop} {YP : World → Heap → Prop} {d : DefRec} {K : Params → PySem.W.Frag} {CX : CXT} {sp : PySem.W.Frag → Sp} {x : Str}
    (hn : l.most = some n) (hn2 : n ≤ sizeLine) (hdf : d.params.defaults = []) (hr : Room k callerA) (hY : ∀ (w : World) (h : Heap), YP w h → (K w.params).In h)
    (F : ∀ (w : World) (mg : Str → Option Value) (fa : Addr) (h : Heap), (K w.params).In h → h.Ns mainGlobals mg → mg d.name = some (.ref fa) → ∃ fd : FuncData, (∀ (s : Shared) (u : Value), BindsTo s fd ⟨[u], []⟩ [(x, u)]) ∧
        ∀ base : Heap, (K w.params).In base → base.Ns mainGlobals mg → GOk l.prog w (K w.params) mg base CX k fa fd [x] (sp (K w.params)))
    (hsp : ∀ (K : PySem.W.Frag) (H : Hp) (a : Addr) (ns : List Int), ns.length ≤ n → SqL K H a (ns.map V.int) → sp K [.ref a] H (fun v _ => v = .bl true) fun _ _ _ => False)
    (noX : ∀ (H : Hp) (s : Shared) (e : Value) (s1 : Shared), CX [] H s (fun _ _ _ => False) e s1 → False) : PySem.W.WalkO q loose XP YP l.row.toRowW d [] (fun f vs => PySem.call f vs) :=
  Att.attach_call hn hdf fun w s₀ s₁ mg mb fa o pm cd doc a vs ns G Y ho hd hcd hmg hobj hints hlen hg => by
    obtain ⟨fd, hb, hF⟩ := F w mg fa _ (hY w _ Y) G.T.g hmg
    exact run_law (hY w _ Y) G.T.g G.T.b G.T.builtins G.T.nolimit hg hobj hints (Nat.le_trans hlen hn2) hr hF hb (fun H hS => hsp _ H a ns hlen hS) fun H e s1 => noX H s₁ e s1
end TT

set_option Elab.async false
set_option linter.all false
set_option maxRecDepth 100000
set_option maxHeartbeats 4000000
/-! Errors of own classes as values: made, kept, asked (isinstance, their fields). -/
namespace TT
open PySem PySem.Spec PyProof.Rows L2
/-- at a stands an error of the class at C whose own dict holds fs -/
def Err (H : Hp) (a C : Addr) (fs : List (Str × V)) : Prop := ∃ d, H a = some (exo a C (some d)) ∧ H d = some (exd d fs)
section
variable {X : Cx}
/-- C(e, ..): the error stays with us -/
def tMkX (C : Addr) (sp : Sp) (dvs : List V) (ta : TA) : TE := fun σ H Q => ta σ H fun vs H1 => vs.length ≤ 1000 ∧ ∀ a, H1 a = none → sp (.ref a :: (vs ++ dvs)) (upd H1 a (exo a C none)) (fun v H2 => v = .non ∧ Q (.ref a) H2) fun _ _ _ => False
theorem pe_mkX {CX : CXT} {x : Str} {C fI : Addr} {k : Nat} {fd : FuncData} {ps : List Str} {sp : Sp} {ds : List Value} {dvs : List V} {e : Expr} {es : List Expr} {ta : TA} {p pos : Pos}
    (T : OexC X.K C) (iC : PySem.W.findIn X.K (.ref C) "__init__" = some (some (.ref fI))) (tI : PySem.W.typeIn X.K (.ref fI) = some (.type "function")) (F1 : FnOk X.prog X.w X.K X.mg X.base CX k fI fd ps sp) (hr : Room (k + 1) X.A)
    (hb : Binds X.K fd ps ds) (hd : Vals dvs ds) (hx : Passes CX X fun _ _ _ => False) (hg : Gl X x) (hm : X.mg x = some (.ref C)) (ha : PA X (e :: es) ta) (hdb : (x == ("__debug__" : Str)) = false := by decide)
    (he : starEach (e :: es) X.env = (false, eval e X.env) :: starEach es X.env := by rfl) (hpl : (backTo pos (starEach es X.env)).any (·.1) = false := by rfl) : PE X (.Call (.Name x p) (e :: es) [] pos) (tMkX C sp dvs ta) := by
  constructor
  intro pins s σ H Q I h
  obtain ⟨_, _, _, _, bm, _, _, _, _, _, _, _, _, _, _, hC, hbm⟩ := T.cls
  refine wpAny_Call_Name_kw (ld_glob I hg hm (PySem.W.callWith_K (h₀ := X.base) I.ok.mod.kin T.kC (thn (ha.run pos pins s σ H _ I h) fun us s1 w => ?_) he hpl) hdb)
  obtain ⟨vs, H1, I1, r1, hz, q1⟩ := w
  refine ⟨I1.kIn, ?_⟩
  obtain ⟨hp, g, dr, tk, os⟩ := s1
  have nn : hp.objs.size ≤ hp.objs.size + 1 := Nat.le_succ _
  have fr : H1 (hp.objs.size + 1) = none := I1.hok.fresh nn
  have q2 := q1 _ fr
  have keep : ∀ b o, hp.get? b = some o → ((hp.push (PySem.W.kdv_tup us)).push (PySem.HandSPX.excO C hp.objs.size)).get? b = some o := fun b o z => Heap.get?_push_of_some _ (Heap.get?_push_of_some _ z)
  have here : ((hp.push (PySem.W.kdv_tup us)).push (PySem.HandSPX.excO C hp.objs.size)).get? (hp.objs.size + 1) = some (PySem.HandSPX.excO C hp.objs.size) := by heap_get
  have I2 := I1.laid (t' := tk) (a := hp.objs.size + 1) (o := exo (hp.objs.size + 1) C none) keep nn (exo_ok here)
  have r2 : Vals (V.ref (hp.objs.size + 1) :: (vs ++ dvs)) (Value.ref (hp.objs.size + 1) :: us ++ ds) := .cons rfl (r1.append hd)
  have n1 : (Value.ref (hp.objs.size + 1) :: us ++ ds).length = ps.length := r2.length ▸ F1.len _ _ _ _ q2
  have n2 : us.length ≤ sizeLine := by
    have sl : sizeLine = 16777216 := sizeLine_eq
    have := Paired.length r1
    omega
  have run := F1.run _ X.stack _ _ ⟨Value.ref (hp.objs.size + 1) :: us, []⟩ _ _ _ (fun _ _ _ => False) (hr.make C us []) (I2.env0.make C us []) (hb _ (Value.ref (hp.objs.size + 1) :: us) I2.kIn n1) r2 q2
  refine wpAny_call (PySem.HandSPX.call_own F.excBase_ValueError (fun Y => PySem.HandSPX.refsVE_contains Y bm hbm) (I1.kIn _ _ hC) (PySem.W.looks_findIn I1.kIn iC) (fun self => PySem.W.bind_fn I1.kIn self tI) n2 (codeAny_mono run fun r s' z => ?_))
  match r, z with
  | .error er, z => exact hx pins σ _ _ er s' I2 z
  | .ok .next, z => exact z.elim
  | .ok .brk, z => exact z.elim
  | .ok .cont, z => exact z.elim
  | .ok (.ret u), z =>
    obtain ⟨v, H2, o2, b2, u2, k2, rv, ev, q3⟩ := z
    subst ev
    have un : Un (frs X.stack) [] H1 H2 hp s'.heap := (Un.laid keep nn fr).trans u2
    exact ⟨rv, .ref (hp.objs.size + 1), H2, I1.call' (ch := []) o2 un k2 b2 (fun b z => absurd z (by simp)), rfl, q3⟩
/-- the object of an error and its dict -/
theorem err_at {pins : List (Addr × Obj)} {σ : L2.St} {H : Hp} {s : Shared} {a C : Addr} {fs : List (Str × V)} (I : Inv X pins σ H s) (h : Err H a C fs) :
    ∃ ox od, PySem.W.InstAt s.heap a ox C (some od) ∧ ∃ mA : Str → Option Value, (∀ name, PySem.W.lookIn name od = some (mA name)) ∧ ∀ f, RelO (fs.lookup f) (mA f) := by
  obtain ⟨d, h1, h2⟩ := h
  obtain ⟨t1, e1⟩ := exo_at I.hok h1
  obtain ⟨mA, hn, hr⟩ := exd_at I.hok h2
  obtain ⟨od, ho, hl⟩ := lookIn_ns hn
  exact ⟨_, od, ⟨e1, rfl, rfl, ho⟩, mA, hl, hr⟩
/-- e.n of an error -/
def tXv (K : PySem.W.Frag) (n : Str) (te : TE) : TE := fun σ H Q => te σ H fun x H1 => ∃ a C fs v, x = .ref a ∧ Err H1 a C fs ∧ XfC K C ∧ PySem.W.findIn K (.ref C) n = some none ∧ fs.lookup n = some v ∧ Q v H1
theorem pe_xv {e : Expr} {te : TE} {pos : Pos} {n : Str} (he : PE X e te) (hb : attributeBase e n X.env (eval e X.env) = eval e X.env := by rfl) : PE X (.Attribute e n pos) (tXv X.K n te) := by
  constructor
  intro pins s σ H Q I h
  refine attr_of hb (thn (he.run pins s σ H _ I h) fun u s1 w => ?_)
  obtain ⟨x, H1, I1, rx, a, C, fs, v, rfl, hE, T, hno, l, q⟩ := w
  obtain rfl : u = Value.ref a := rx
  obtain ⟨ox, od, J, mA, hl, hr⟩ := err_at I1 hE
  obtain ⟨u, hu, ru⟩ := RelO.some_of (v := v) (o := mA n) (l ▸ hr n)
  exact HandSPX.exc_get I1.kIn J T.ga T.gg T.exC (PySem.W.findObj_own T.hdC hno rfl (by rw [hl, hu])) (handed_of ru) ⟨v, H1, I1.tok _, ru, q⟩
/-- x.__class__ of an error with a dict of its own, as isinstance asks it -/
theorem x_class {prog : Program} {w : World} {A : Around} {E : Value → Shared → Prop} {s : Shared} {K : PySem.W.Frag} {x D : Addr} {ox od : Obj} {Q : Option Value → Shared → Prop} (T : ExcC K D) (KX : K.In s.heap) (J : PySem.W.InstAt s.heap x ox D (some od))
    (h : Q (some (.ref D)) { s with toks := s.toks + 1 }) : wpAny (model prog w) A (getAttr? (.ref x) "__class__") Q E s := by
  have found : PySem.W.findObj K D (some od) "__class__" = some (.bind (.builtin "getset_descriptor.__get__") (.builtin "object.__class__")) := by
    obtain ⟨cd, e, _⟩ := PySem.W.any_some T.hd
    exact PySem.W.findObj_data (by rw [e] <;> rfl) T.ha T.hn T.ht
  have no2 : (Value.builtin "BaseException.__getattribute__" == Value.builtin "object.__getattribute__") = false := by decide +kernel
  have no1 : (onTheHeap (.ref D) && Value.builtin "BaseException.__getattribute__" == Value.builtin "object.__getattribute__") = false := by rw [no2] <;> rfl
  obtain ⟨hp, g, d, t, os⟩ := s
  have isB : PySem.W.Looks (model prog w) hp (isInstance (.ref x) (.type "BaseException")) true := (J.type (M := model prog w)).andThen (PySem.W.looks_subIn KX T.hs)
  have tail : ∀ R : Fin → Shared → Prop, ∀ E' : Value → Shared → Prop, R (.done (.ret (.ref D))) ⟨hp, g, d, t + 1, os⟩ → wpAny (model prog w) (Around.in1 A) (Builtin.«object.__getattribute__» ⟨[.ref x, .str "__class__" t], []⟩) R E' ⟨hp, g, d, t + 1, os⟩ := fun R E' hR => by
    unfold Builtin.«object.__getattribute__»
    refine wpAny_bind (wpAny_of_eq (a := (Value.ref x, [Value.str "__class__" t])) (by first | rfl | (simp only [slotArgs]; rfl)) (wpAny_bind (wpAny_pure (wpAny_bind (J.type.at (wpAny_bind ((PySem.W.looks_find KX J found).at ?_)))))))
    refine wpAny_bind (wpAny_holding (wpAny_call (PySem.W.class_get (s := ⟨hp, g, d, t + 1, os⟩) KX J T.hm ?_)))
    exact wpAny_pure hR
  unfold getAttr? getAttrBy? getAttrBy
  refine wpAny_bind (wpAny_mkText (wpAny_bind (wpAny_attempt (wpAny_holding (wpAny_bind (J.type.at (wpAny_bind ((PySem.W.looks_findIn KX T.hg).at ?_))))))))
  dsimp only
  rw [no1, if_neg Bool.false_ne_true]
  unfold getAttrByItsOwn hookBefore callGetattribute boundAndCalled
  refine wpAny_bind ?_
  have oh : onTheHeap (Value.ref D) = true := rfl
  rw [if_pos oh]
  refine (PySem.W.looks_findIn KX T.hk).at (wpAny_bind (wpAny_attempt (wpAny_holding ?_)))
  have nh : (false && onTheHeap (Value.builtin "BaseException.__getattribute__")) = false := rfl
  rw [nh, if_neg Bool.false_ne_true, PySem.F.excAttr_ValueError.ga.bind (.ref x)]
  refine wpAny_bind (wpAny_pure ?_)
  dsimp only
  refine wpAny_call (codeAny_call_builtin PySem.F.excAttr_ValueError.ga.plain PySem.F.entry_bexc_ga ?_)
  refine @PySem.W.check_slot (model prog w) _ _ ⟨hp, g, d, t + 1, os⟩ "BaseException.__getattribute__" "BaseException" "__getattribute__" (.ref x) [.str "__class__" t] [] _ (by decide +kernel) (by decide +kernel) isB (PySem.F.args_bexc_ga (.ref x) (.str "__class__" t)) ?_
  refine tail _ _ ?_
  refine (show wpAny (model prog w) A (handedOut (Value.ref D)) (fun a s' => wpAny (model prog w) A (pure (some a)) Q E s') _ ⟨hp, g, d, t + 1, os⟩ from ?_)
  rw [PySem.W.handedOut_of (v := Value.ref D) rfl]
  exact wpAny_pure (wpAny_pure h)
theorem kit_err {K : PySem.W.Frag} {x D : Addr} {b : Bool} (T : ExcC K D) (self : PySem.W.kitCls K (.ref D) (.ref D) = some b) : PySem.W.KitX K (.ref x) (.ref D) (fun h => ∃ ox od, PySem.W.InstAt h x ox D (some od)) where
  ty := fun _ _ _ ⟨_, _, J⟩ => J.type
  it := fun _ _ KX _ => (PySem.W.kit_cls KX self).2.1
  ne := fun h tp dd its n sl KX e => by
    obtain ⟨cd, hc, _⟩ := PySem.W.any_some T.hd
    cases q : (Value.ref D == Value.ref tp) with
    | false => rfl
    | true =>
      obtain rfl : D = tp := Value.ref.inj (beq_iff_eq.mp q)
      unfold PySem.W.clsIn at hc
      cases k : K.lookup D with
      | none => rw [k] at hc; cases hc
      | some o =>
        have z := (KX _ _ k).symm.trans e
        cases z
        rw [k] at hc
        cases hc
  ca := fun KX ⟨_, _, J⟩ q => x_class T KX J q
/-- isinstance(x, c) of an error -/
def rIsX (K : PySem.W.Frag) : List V → Hp → VK → Prop := fun xs H Q => ∃ (a C : Addr) (fs : List (Str × V)) (c : V) (cv : Value) (b b' : Bool), xs = [.ref a, c] ∧ Err H a C fs ∧ ExcC K C ∧ PySem.W.kitCls K (.ref C) (.ref C) = some b' ∧ ClsV c cv ∧ PySem.W.kitOne K (.ref C) cv = some b ∧ Q (.bl b) H
theorem call_isX {X : Cx} : CallR X (.builtin "isinstance") (rIsX X.K) := by
  intro pins s σ H xs us Q I r h
  obtain ⟨a, C, fs, c, cv, b, b', rfl, hE, T, self, hc, e, q⟩ := h
  obtain ⟨u1, u2, rfl, r1, r2⟩ : ∃ u1 u2, us = [u1, u2] ∧ RelV (.ref a) u1 ∧ RelV c u2 := by
    cases r with
    | cons x1 y1 =>
      cases y1 with
      | cons x2 y2 => cases y2; exact ⟨_, _, rfl, x1, x2⟩
  obtain rfl : u1 = Value.ref a := r1
  obtain rfl : u2 = cv := hc.eq r2
  obtain ⟨ox, od, J, _⟩ := err_at I hE
  exact PySem.W.kia_one (kit_err T self) I.kIn ⟨ox, od, J⟩ e (fun z => nomatch z) fun tk => ⟨.bl b, H, I.tok tk, rfl, q⟩
end
end TT

set_option Elab.async false
set_option linter.all false
set_option maxRecDepth 100000
set_option maxHeartbeats 4000000
/-! == of a thing with itself, repr of what holds small dicts. -/
namespace TT
open PySem PySem.Spec PyProof.Rows L2
section
variable {X : Cx}
/-- the same thing, or the same plain value -/
def D0 : Eqv := fun x y _ => y = x ∧ (flatB x = true ∨ ∃ a, x = .ref a)
theorem D0.mon : Mon D0 := fun _ _ _ _ _ h => h
theorem D0.eqV {K : PySem.W.Frag} {H : Hp} {x : V} (h : flatB x = true ∨ ∃ a, x = .ref a) : EqV K H 1 x x := by
  unfold EqV
  exact h.elim (fun f => .inl ⟨rfl, f⟩) fun ⟨a, e⟩ => .inr (.inl ⟨a, e, e⟩)
theorem D0.eqG : EqG X 1 D0 := by
  intro A pins s σ H x y u v S I rx ry h
  obtain ⟨rfl, h⟩ := h
  have un : A.units + 1 < cLine := by have := S.room.un; omega
  refine eqV_run I 1 A un y y u v (D0.eqV h) rx ry _ _ ⟨rfl, H, I, Ext.rfl'⟩
/-- x is equal to itself, whatever it holds -/
def SelfEq (K : PySem.W.Frag) (H : Hp) (x : V) : Prop := scal x x = true ∨ (∃ n, n ≤ 60 ∧ EqR K H (EqV K H n) x x) ∨ DTup K D0 x x H
def rSame (K : PySem.W.Frag) : R2 := fun x y H Q => y = x ∧ SelfEq K H x ∧ ∀ H', Ext H H' → Q (.bl true) H'
theorem op_same (hu : X.A.units + 64 < cLine) (hr : Room 2 X.A) : OpR X (compareOp .Eq) (rSame X.K) := by
  intro pins s σ H x y v u Q I rx ry h
  obtain ⟨rfl, h, q⟩ := h
  rcases h with h | ⟨n, hn, h⟩ | h
  · exact op_eq pins s σ H y y v u Q I rx ry ⟨h, by rw [decide_eq_true rfl]; exact q H Ext.rfl'⟩
  · exact op_eqV hu pins s σ H y y v u Q I rx ry ⟨n, hn, h, q H Ext.rfl'⟩
  · exact op_eqG (rcG_tup D0.mon D0.eqG) hr pins s σ H y y v u Q I rx ry ⟨h, q⟩
/-! ### repr -/
inductive DpD (K : PySem.W.Frag) (H : Hp) : V → PyData → Prop
  | dp {v : V} {d : PyData} (h : Dp K H v d) (n : d.hasDict = false) : DpD K H v d
  | tt {a b : Addr} (h : H a = some (.tup [.ref b])) (h2 : H b = some (.tup [])) : DpD K H (.ref a) (.tuple [.tuple []])
  | d0 {a : Addr} (h : H a = some (.dK [])) : DpD K H (.ref a) (.dict [])
  | d1 {a : Addr} {k : Str} {i : Int} (h : H a = some (.dK [(.inr k, .int i)])) : DpD K H (.ref a) (.dict [(.str k, .int i)])
theorem dp_tt {K : PySem.W.Frag} {H : Hp} {a b : Addr} (h : H a = some (.tup [.ref b])) (h2 : H b = some (.tup [])) : Dp K H (.ref a) (.tuple [.tuple []]) :=
  .tup (SqT.of h) (.cons (.tup (SqT.of h2) .nil) .nil)
/-- no tracked thing is sys.modules -/
theorem not_sys {pins : List (Addr × Obj)} {σ : L2.St} {H : Hp} {s : Shared} (I : Inv X pins σ H s) {o : Obj} (hs : X.K.lookup sysModules = some o) {l : Addr} {x : HO} (h : H l = some x) : l ≠ sysModules := by
  rintro rfl
  have hb : X.base.get? sysModules = some o := I.ok.mod.kin _ _ hs
  obtain ⟨h0, h1⟩ := I.ok.bs _ _ hb
  have := I.base.free _ _ h0 h1 (I.ok.noex _ _ hb)
  rw [this] at h
  cases h
theorem DpD.reads {pins : List (Addr × Obj)} {σ : L2.St} {H : Hp} {s : Shared} (I : Inv X pins σ H s) {v : V} {d : PyData} {u : Value} (h : DpD X.K H v d) (r : RelV v u) : ∃ as, Reads s.heap u d as ∧ (d.hasDict = true → ¬ sysModules ∈ as) := by
  cases h with
  | dp h n => exact (Dp.reads I d v u h r).imp fun as z => ⟨z, PyData.noDict_hsm n⟩
  | tt h h2 => exact (Dp.reads I _ _ u (dp_tt h h2) r).imp fun as z => ⟨z, PyData.noDict_hsm rfl⟩
  | @d0 a h =>
    obtain rfl : u = Value.ref a := r
    have z := I.hok _ _ h
    unfold ObjOk at z
    obtain ⟨_, ns, vs, kv, o, es, ep, g, ex, da, _, pr, _⟩ := z
    cases kv
    generalize e : es.toList = L at pr
    cases pr
    refine ⟨_, Reads.dict g ex.1 da (as := []) (bs := []) (by rw [e]; exact .nil) (by rw [e]; exact .nil), fun _ m => ?_⟩
    have : sysModules = a := by simpa using m
    rw [← this] at ns
    cases ns
  | @d1 a k i h =>
    obtain rfl : u = Value.ref a := r
    have z := I.hok _ _ h
    unfold ObjOk at z
    obtain ⟨_, ns, vs, kv, o, es, ep, g, ex, da, _, pr, nd⟩ := z
    clear nd
    cases kv with
    | @cons _ q _ _ p1 p2 =>
      cases p2
      obtain ⟨e0, t, e1⟩ : Sum.inr k = q.1 ∧ ∃ t, q.2 = Value.int i t := p1
      generalize hl : es.toList = L at pr
      cases pr with
      | cons c1 c2 c3 =>
        cases c3
        rename_i e
        have c4 : Value.isStrOf k e.key = true := by
          have c5 : keyIs q.1 e.key = true := c1
          rw [← e0] at c5
          exact c5
        obtain ⟨tk, ek⟩ : ∃ tk, e.key = .str k tk := by
          cases hk : e.key <;> rw [hk] at c4 <;> simp [Value.isStrOf] at c4
          exact ⟨_, by rw [c4]⟩
        have ev : e.val = .int i t := c2.trans e1
        refine ⟨_, Reads.dict g ex.1 da (kvs := [(.str k, .int i)]) (as := [] ++ []) (bs := [] ++ []) (by rw [hl]; exact .cons (by show Reads _ e.key (.str k) []; rw [ek]; exact .str _ _) .nil) (by rw [hl]; exact .cons (by show Reads _ e.val (.int i) []; rw [ev]; exact .int _ _) .nil), fun _ m => ?_⟩
        have : sysModules = a := by simpa using m
        rw [← this] at ns
        cases ns
theorem readsAll_rep {h : Heap} {d : PyData} {v : V} (one : ∀ u, RelV v u → ∃ as, Reads h u d as ∧ (d.hasDict = true → ¬ sysModules ∈ as)) :
    ∀ (n : Nat) (its : List Value), Vals (List.replicate n v) its → ∃ as, ReadsAll h its (List.replicate n d) as ∧ (d.hasDict = true → ¬ sysModules ∈ as)
  | 0, its, r => by
    cases r
    exact ⟨[], .nil, fun _ m => by cases m⟩
  | n + 1, its, r => by
    rw [List.replicate_succ] at r
    cases r with
    | cons r1 r2 =>
      obtain ⟨as, h1, h2⟩ := one _ r1
      obtain ⟨bs, h3, h4⟩ := readsAll_rep one n _ r2
      exact ⟨as ++ bs, .cons h1 h3, fun e m => (List.mem_append.mp m).elim (h2 e) (h4 e)⟩
theorem hasDictAll_rep {d : PyData} : ∀ n, PyData.hasDictAll (List.replicate n d) = true → d.hasDict = true
  | 0, h => by simp [PyData.hasDictAll] at h
  | n + 1, h => by
    rw [List.replicate_succ] at h
    simp only [PyData.hasDictAll, Bool.or_eq_true] at h
    exact h.elim id (hasDictAll_rep n)
/-- what repr is asked of here: such a thing, or a list of it many times -/
inductive RpD (K : PySem.W.Frag) (H : Hp) : V → PyData → Prop
  | one {v : V} {d : PyData} (h : DpD K H v d) : RpD K H v d
  | rep {l : Addr} {n : Nat} {v : V} {d : PyData} (hl : H l = some (.lst (List.replicate n v))) (h : DpD K H v d) : RpD K H (.ref l) (.list (List.replicate n d))
theorem RpD.reads {pins : List (Addr × Obj)} {σ : L2.St} {H : Hp} {s : Shared} (I : Inv X pins σ H s) {o : Obj} (hs : X.K.lookup sysModules = some o) {v : V} {d : PyData} {u : Value} (h : RpD X.K H v d) (r : RelV v u) : ∃ as, Reads s.heap u d as ∧ (d.hasDict = true → ¬ sysModules ∈ as) := by
  cases h with
  | one h => exact DpD.reads I h r
  | @rep l n v d hl h =>
    obtain rfl : u = Value.ref l := r
    have z := I.hok _ _ hl
    unfold ObjOk at z
    obtain ⟨_, its, k, vs, g⟩ := z
    obtain ⟨as, h1, h2⟩ := readsAll_rep (fun u r => DpD.reads I h r) n its vs
    refine ⟨l :: as, Reads.list g rfl rfl (by rw [List.toList_toArray]; exact h1), fun e m => ?_⟩
    have e2 : d.hasDict = true := by
      simp only [PyData.hasDict] at e
      exact hasDictAll_rep n e
    rcases List.mem_cons.mp m with m | m
    · exact not_sys I hs hl m.symm
    · exact h2 e2 m
def rReprD (K : PySem.W.Frag) : List V → Hp → VK → Prop := fun xs H Q => ∃ (x : V) (d : PyData), xs = [x] ∧ RpD K H x d ∧ d.showable = true ∧ d.depth ≤ 60 ∧ d.shown.length ≤ sizeLine ∧ Q (.str d.shown) H
theorem call_reprD {o : Obj} (hs : X.K.lookup sysModules = some o) (hg : X.A.guards = some []) (hu : X.A.units + 64 < cLine) : CallR X (.builtin "repr") (rReprD X.K) := by
  intro pins s σ H xs us Q I r h
  obtain ⟨x, d, rfl, hd, sh, hdep, hz, q⟩ := h
  obtain ⟨u, rfl, rx⟩ : ∃ u, us = [u] ∧ RelV x u := by
    cases r with
    | cons a b => cases b; exact ⟨_, rfl, a⟩
  by_cases c : ∃ a, x = .ref a
  · obtain ⟨a, rfl⟩ := c
    obtain rfl : u = Value.ref a := rx
    obtain ⟨as, rd, ns⟩ := RpD.reads (u := Value.ref a) I hs hd rfl
    exact repr_of_reads' rd sh ns hg (by omega) (fun _ _ e => e) (fun h' u tk hk => ⟨.str d.shown, H, I.kept hk, ⟨_, rfl⟩, q⟩) hz
  · cases hd with
    | rep => exact absurd ⟨_, rfl⟩ c
    | one h =>
      cases h with
      | dp h n => exact call_repr hg hu pins s σ H _ _ Q I (.cons rx .nil) ⟨x, d, rfl, h, sh, n, hdep, hz, q⟩
      | tt => exact absurd ⟨_, rfl⟩ c
      | d0 => exact absurd ⟨_, rfl⟩ c
      | d1 => exact absurd ⟨_, rfl⟩ c
end
end TT

set_option Elab.async false
set_option linter.all false
set_option maxRecDepth 100000
set_option maxHeartbeats 4000000
/-! repr of a list whose own address may be any (only what it holds must not be sys.modules) -/
namespace TT
open PySem PySem.Spec PyProof.Rows L2
theorem repr_lst {prog : Program} {w : World} {h₀ : Heap} {a : Addr} {o : Obj} {vs : Array Value} {n : Nat} {xs : List PyData} {as : List Addr} {A : Around} {E : Value → Shared → Prop} {s : Shared} {Q : Value → Shared → Prop}
    (at_a : h₀.get? a = some o) (is_l : o.cls = .type "list") (dat : o.data = .seq vs n) (its : ReadsAll h₀ vs.toList xs as)
    (sh : PyData.showableAll xs = true) (out : PyData.hasDictAll xs = true → ¬ sysModules ∈ as) (gd : A.guards = some []) (un : A.units + ((PyData.list xs).depth + 1) < cLine)
    (low : ∀ b u, h₀.get? b = some u → s.heap.get? b = some u)
    (k : ∀ h' u tk, (∀ b o, s.heap.get? b = some o → h'.get? b = some o) → Q (.str (PyData.list xs).shown u) { s with heap := h', toks := tk })
    (len : (PyData.list xs).shown.length ≤ sizeLine) : wpAny (model prog w) A (call (.builtin "repr") [.ref a]) Q E s := by
  have short : (listText (PyData.shownAll xs)).length ≤ sizeLine := by
    have := len
    rwa [PyData.shown] at this
  obtain ⟨bs, below, each⟩ := ReprAllK.of_readsAll (prog := prog) (w := w) its sh out fun t ht => Nat.le_trans (listText_mem_le ht) short
  have apart : a ∉ bs := by
    refine not_mem_of_deeper (Reads.list at_a is_l dat its) ?_ below
    rw [PyData.depth]
    omega
  have dep : A.in1.units + (PyData.list xs).depth < cLine := by
    show A.units + 1 + _ < cLine
    omega
  refine call_repr_slot (by omega) (show s.TypeIs (.ref a) "list" from ⟨o, low _ _ at_a, is_l⟩) F.slot_list_repr.toG ?_
  rw [PyData.depth] at dep
  have k' := k
  simp only [PyData.shown] at k'
  obtain ⟨l⟩ := vs
  cases l with
  | nil =>
    have none' : ReadsAll h₀ [] xs as := its
    cases none'
    simp only [PyData.shownAll, listText_nil] at k'
    exact call_list_repr_empty ⟨o, low _ _ at_a, is_l⟩ (low _ _ at_a) dat ⟨_, _, rfl, k' s.heap _ _ fun _ _ e => e⟩
  | cons x l =>
    have el := each.length_eq
    exact call_list_reprK at_a is_l dat apart (by simpa using el) (fun i y e => each.item i y (by simpa using e)) gd (fun b _ => Clear.nil b) dep low (fun h' u tk hk => ⟨_, _, rfl, k' h' u tk hk⟩) short
section
variable {X : Cx}
theorem call_reprS (hg : X.A.guards = some []) (hu : X.A.units + 64 < cLine) : CallR X (.builtin "repr") (rReprD X.K) := by
  intro pins s σ H xs us Q I r h
  obtain ⟨x, d, rfl, hd, sh, hdep, hz, q⟩ := h
  obtain ⟨u, rfl, rx⟩ : ∃ u, us = [u] ∧ RelV x u := by
    cases r with
    | cons a b => cases b; exact ⟨_, rfl, a⟩
  have fin : ∀ h' u tk, (∀ b o, s.heap.get? b = some o → h'.get? b = some o) → EP X pins σ Q (.str d.shown u) { s with heap := h', toks := tk } := fun h' u tk hk => ⟨.str d.shown, H, I.kept hk, ⟨_, rfl⟩, q⟩
  cases hd with
  | @rep l n v d hl h =>
    obtain rfl : u = Value.ref l := rx
    have z := I.hok _ _ hl
    unfold ObjOk at z
    obtain ⟨_, its, k, vs, g⟩ := z
    obtain ⟨as, h1, h2⟩ := readsAll_rep (fun u r => DpD.reads I h r) n its vs
    have sh' : PyData.showableAll (List.replicate n d) = true := by
      rwa [PyData.showable] at sh
    exact repr_lst g rfl rfl (by rw [List.toList_toArray]; exact h1) sh' (fun e => h2 (hasDictAll_rep n e)) hg (by omega) (fun _ _ e => e) fin hz
  | one h =>
    by_cases c : ∃ a, x = .ref a
    · obtain ⟨a, rfl⟩ := c
      obtain rfl : u = Value.ref a := rx
      obtain ⟨as, rd, ns⟩ := DpD.reads (u := Value.ref a) I h rfl
      exact repr_of_reads' rd sh ns hg (by omega) (fun _ _ e => e) fin hz
    · cases h with
      | dp h n => exact call_repr hg hu pins s σ H _ _ Q I (.cons rx .nil) ⟨x, d, rfl, h, sh, n, hdep, hz, q⟩
      | tt => exact absurd ⟨_, rfl⟩ c
      | d0 => exact absurd ⟨_, rfl⟩ c
      | d1 => exact absurd ⟨_, rfl⟩ c
end
end TT

set_option Elab.async false
set_option linter.all false
set_option maxRecDepth 100000
set_option maxHeartbeats 4000000
/-! A lambda handed to a def; an error that was caught, kept behind its suite. -/
namespace TT
open PySem PySem.Spec PyProof.Rows L2
/-- at e: an error that was caught, of the class cls, its dict d -/
def exk (e : Addr) (cls : Value) (d : Option Addr) : HO := .ext fun h => ∃ (o : Obj) (vs : Array Value), h.get? e = some o ∧ Zc cls d o ∧ o.data = .fields vs
theorem exk_ok {P : Program} {w : World} {H : Hp} {h : Heap} {e : Addr} {cls : Value} {d : Option Addr} {o : Obj} {vs : Array Value} (he : h.get? e = some o) (hz : Zc cls d o) (hd : o.data = .fields vs) : ObjOk P w H h e (exk e cls d) :=
  ⟨⟨o, vs, he, hz, hd⟩, ⟨_, he⟩, fun h1 h2 ⟨o1, vs1, a, b, c⟩ k => ⟨o1, vs1, k _ a, b, c⟩⟩
theorem exk_at {P : Program} {w : World} {H : Hp} {h : Heap} {e : Addr} {cls : Value} {d : Option Addr} (hok : HOk P w H h) (he : H e = some (exk e cls d)) : ∃ (o : Obj) (vs : Array Value), h.get? e = some o ∧ Zc cls d o ∧ o.data = .fields vs := by
  have x : ObjOk P w H h e (.ext fun h => ∃ (o : Obj) (vs : Array Value), h.get? e = some o ∧ Zc cls d o ∧ o.data = .fields vs) := hok e _ he
  exact x.1
section
variable {X : Cx} {pins : List (Addr × Obj)} {σ : L2.St} {H : Hp} {s : Shared} {a : Addr} {cls : Value} {d : Option Addr} {oe : Obj} {vs : Array Value}
/-- a caught error is tracked -/
theorem Inv.track (I : Inv X pins σ H s) (ha : s.heap.get? a = some oe) (hz : Zc cls d oe) (hd : oe.data = .fields vs) (na : H a = none) (nL : a ≠ X.env.locals) (n0 : X.s_0.heap.get? a = none) (np : ∀ p ∈ X.pn ++ pins, p.1 ≠ a) :
    Inv X pins σ (L2.upd H a (exk a cls d)) s := by
  have sm : ∀ {b : Addr} {u : HO}, H b = some u → b ≠ a := fun {b u} e => ne_of_none e na
  refine ⟨I.ok, I.os, I.bare, ⟨I.base.keep, I.base.slot, fun b o e n hx => ?_, I.base.there, fun b xs e => ?_, fun b o u e => ?_, fun b ps e => ?_⟩, I.loc, I.cell, ?_, fun x c e => ?_, fun p hp => ?_, fun b u e => ?_, I.len⟩
  · have nb : b ≠ a := fun z => by rw [z, n0] at e; cases e
    rw [upd_ne nb]
    exact I.base.free b o e n hx
  · have q := I.base.tups b xs e
    rw [upd_ne (sm q)]
    exact q
  · have q := I.base.frzs b o u e
    rw [upd_ne (sm q)]
    exact q
  · obtain ⟨more, q⟩ := I.base.tbls b ps e
    exact ⟨more, by rw [upd_ne (sm q)]; exact q⟩
  · rw [upd_ne nL.symm]
    exact I.free
  · have nc : c ≠ a := fun z => by
      obtain ⟨v, o, ho, hc⟩ := I.cell x c e
      rw [z, ha] at ho
      cases ho
      rw [hd] at hc
      cases hc
    rw [upd_ne nc]
    exact I.freeC x c e
  · obtain ⟨e, n, r⟩ := I.pin p hp
    exact ⟨e, by rw [upd_ne (np p hp)]; exact n, r⟩
  · by_cases hb : b = a
    · subst hb
      rw [upd_same] at e
      cases e
      exact exk_ok ha hz hd
    · rw [upd_ne hb] at e
      exact (I.hok b u e).stay (fun _ _ _ q => q) (fun c q => by rw [upd_ne (sm q)]; exact q) fun c xs q => by rw [upd_ne (sm q)]; exact q
end
/-- what 'except x as n' wishes of the body's errors, each caught and kept behind the suite -/
def wKept (K : PySem.W.Frag) (c : Value) (i : Nat) (ts : Addr → Value → Option Addr → TS) (nx : L2.St → Hp → Prop) : WX := fun cls d σ H =>
  PySem.W.exmOne K cls c = some true ∧ ∀ a, H a = none → ts a cls d ⟨fun σ' H' => H' a = none → nx (σ'.set i none) (L2.upd H' a (exk a cls d)), fun _ _ => False, fun _ _ => False, fun _ _ => False⟩ (σ.set i (some (.ref a))) H
section
variable {X : Cx} {x n : Str} {c : Value} {i : Nat} {body suite : List Stmt} {b₀ : Stmt} {np pos pos' : Pos} {tb : WX → TS} {ts : Addr → Value → Option Addr → TS}
/-- try: body / except x as n: suite, where each error that the body lets out is an x -/
theorem ps_try_kept (hs : X.stack = X.env :: X.outer) (hf : X.env.frame = some X.env.locals) (hex : X.ex = []) (hN : X.N.Nodup) (hi : X.N[i]? = some n) (hln : X.env.kindOf n = some .local) (hc : Names X x c)
    (hb : ∀ (W : WX) (pn : List (Addr × Obj)) (xe : Value → Shared → Prop), Takes (X.tr pn xe) W → PassesOwn (model X.prog X.w) X.A X.env xe → PSs (X.tr pn xe) body (tb W))
    (hsu : ∀ (a : Addr) (oe : Obj) (cls : Value) (d : Option Addr) (pn : List (Addr × Obj)), Zc cls d oe → (∃ vs, oe.data = .fields vs) → PSs (X.suite a ((a, oe) :: pn)) (b₀ :: suite) (ts a cls d)) :
    PS X (.Try body [.ExceptHandler (some (.Name x np)) (some n) (b₀ :: suite) pos'] [] [] pos) (fun D σ H => tb (wKept X.K c i ts D.nx) ⟨D.nx, fun _ _ => False, fun _ _ => False, fun _ _ => False⟩ σ H) := by
  constructor
  intro pins s σ H D I h
  have ok := I.ok
  -- what is done with an error of the body
  let R : Value → Shared → Prop := fun e s₁ => wpAny (model X.prog X.w) X.A (noteFrame e X.env) (fun _ s₂ => wpAny (model X.prog X.w) X.A (setFlight e none) (fun _ s₃ =>
    wpAny (model X.prog X.w) X.A (handleBy e X.env [.ExceptHandler (some (.Name x np)) (some n) (b₀ :: suite) pos']) (SP X pins D) X.xe s₃) X.xe s₂) X.xe s₁
  have caught : Takes (X.tr (X.pn ++ pins) R) (wKept X.K c i ts D.nx) := by
    rintro u s' ⟨a, B, t0, pins', σ1, H1, cls, d, rfl, J0, ground, up, sky, na, os, ag, ex, told⟩
    have J : Inv X pins σ1 H1 t0 := J0.ofTry ok
    have frames : X.A.frames = some (X.env :: X.outer) := ok.frames.trans (congrArg some hs)
    have sky2 : Sky B (X.env :: X.outer) a (Zc cls d) X.env.locals s'.heap := hs ▸ sky
    have none_of : ∀ {h1 : Heap}, HandSPX.FlyingZ B (X.env :: X.outer) a (Zc cls d) h1 → a ∉ frs (X.env :: X.outer) := fun fl hm => by
      obtain ⟨o, vs, e1, _, e2⟩ := fl.there
      obtain ⟨_, o2, e3, e4⟩ := fl.2.2.1.mem hm
      cases e1.symm.trans e3
      exact e4 _ e2
    refine Sky.land Zc.steady frames hf sky2 fun g1 fl1 up1 => ?_
    have off := none_of fl1
    have nL : a ≠ X.env.locals := fun z => off (List.mem_filterMap.mpr ⟨_, List.mem_cons_self, hf.trans (congrArg some z.symm)⟩)
    have nF : a ∉ X.fs := fun hm => off (List.mem_filterMap.mpr ((List.mem_filterMap.mp hm).imp fun _ z => ⟨List.mem_cons_of_mem _ z.1, z.2⟩))
    have gone : t0.heap.get? a = none := by
      cases q : t0.heap.get? a with
      | none => rfl
      | some o => cases fl1.2.1.symm.trans (ground a o q (hs ▸ off))
    have older : X.s_0.heap.get? a = none := by
      cases q : X.s_0.heap.get? a with
      | none => rfl
      | some o =>
        obtain ⟨o2, z⟩ := J.base.there a o q (hex ▸ List.not_mem_nil)
        cases gone.symm.trans z
    have npin : ∀ p ∈ X.pn ++ pins, p.1 ≠ a := fun p hp z => by cases gone.symm.trans (z ▸ (J.pin p hp).1)
    obtain ⟨o1, vs1, e1, z1, f1⟩ := fl1.there
    have J1 : Inv X pins σ1 H1 { s' with heap := g1 } := J.landed ground fl1.1 (up.trans up1) os ag
    refine wpAny_handleBy_cons (codeAny_handlers_test ?_) (fun q => nomatch q)
    have matches_ := PySem.W.exm_one (M := model X.prog X.w) J1.kIn (fun A Q E s k q => wpAny_typeOf_ref (k _ _ e1) (z1.1 ▸ q)) ex
    have S1 := J1.suite e1 f1 na nL nF
    have named : ∀ {Q : Value → Shared → Prop} {E : Value → Shared → Prop}, Q c { s' with heap := g1 } → wpAny (model X.prog X.w) (X.A.mark (some (.ref a))) (eval (.Name x np) X.env) Q E { s' with heap := g1 } := fun {Q E} q => by
      obtain ⟨h1, h2, h3 | ⟨h3, h4, h5⟩⟩ := hc
      · exact ld_glob (X := X.suite a ((a, o1) :: (X.pn ++ pins))) S1 h1 h3 q h2
      · exact ld_blt (X := X.suite a ((a, o1) :: (X.pn ++ pins))) S1 h1 h3 h4 q h5 h2
    refine named (matches_.here (codeAny_handlers_suite_as (HandSPX.lands_againZ fl1 fun g2 fl2 up2 => ?_)))
    obtain ⟨o2, vs2, e2, z2, f2⟩ := fl2.there
    have J2 : Inv X pins σ1 H1 { s' with heap := g2 } := J.landed ground fl2.1 ((up.trans up1).trans up2) os ag
    refine store_ok (X := X.suite a ((a, o2) :: (X.pn ++ pins))) (v := .ref a) (J2.suite e2 f2 na nL nF) hN hi (.inl hln) rfl (fun s5 S5 => ?_) (.inr hln)
    refine wpAny_mono ((hsu a o2 cls d (X.pn ++ pins) z2 ⟨_, f2⟩).run [] s5 _ H1 _ S5 (told a na)) (fun f s6 hsp => ?_) (fun _ _ z => z.elim)
    match f, hsp with
    | .next, ⟨σ6, H6, S6, q6⟩ =>
      obtain ⟨e6, n6, _⟩ := S6.pin (a, o2) (List.mem_append_left _ List.mem_cons_self)
      exact gone_ok (Inv.track (S6.unsuite ok) e6 z2 f2 n6 nL older npin) hN hi hln fun s7 J7 => ⟨_, _, J7, q6 n6⟩
    | .brk, ⟨_, _, _, z⟩ => exact z.elim
    | .cont, ⟨_, _, _, z⟩ => exact z.elim
    | .ret u, ⟨_, _, _, _, _, z⟩ => exact z.elim
  refine wpAny_Try_except (wpAny_mono ((hb _ (X.pn ++ pins) R caught PassesOwn.looking).run [] s σ H _ (I.toTry _) h) (fun f s1 hsp => ?_) fun _ _ z => z)
  match f, hsp with
  | .next, ⟨σ2, H2, J2, q2⟩ => exact wpAny_execs_nil ⟨σ2, H2, J2.ofTry ok, q2⟩
  | .brk, ⟨_, _, _, z⟩ => exact z.elim
  | .cont, ⟨_, _, _, z⟩ => exact z.elim
  | .ret u, ⟨_, _, _, _, _, z⟩ => exact z.elim
end
/-! ### a callable without parameters, as a value -/
theorem Un.then {fs fs' : List Addr} {H H1 H2 : Hp} {h h1 h2 : Heap} (a : Un fs [] H H1 h h1) (b : Un fs' [] H1 H2 h1 h2) (h1' : ∀ c ∈ fs', c ∈ fs ∨ h.get? c = none) (h2' : ∀ c ∈ fs, c ∈ fs') : Un fs [] H H2 h h2 where
  keep := fun c ob q n hc hx => b.keep c ob (a.keep c ob q n hc hx) (a.free c ob q n hx) (fun z => (h1' c z).elim hc fun z => by rw [q] at z; cases z) hx
  slot := fun c ob q n hc hx => by
    obtain ⟨sl, e1⟩ := a.slot c ob q n hc hx
    obtain ⟨sl', e2⟩ := b.slot c _ e1 (a.free c ob q n hx) (h2' c hc) hx
    exact ⟨sl', e2⟩
  free := fun c ob q n hx => by
    obtain ⟨o', e1⟩ := a.there c ob q hx
    exact b.free c o' e1 (a.free c ob q n hx) hx
  there := fun c ob q hx => by
    obtain ⟨o', e1⟩ := a.there c ob q hx
    exact b.there c o' e1 hx
  tups := fun c xs q => b.tups c xs (a.tups c xs q)
  frzs := fun c ob xs q => b.frzs c ob xs (a.frzs c ob xs q)
  tbls := fun c ps q => by
    obtain ⟨m1, e1⟩ := a.tbls c ps q
    obtain ⟨m2, e2⟩ := b.tbls c _ e1
    exact ⟨m1 ++ m2, by rw [e2, Array.append_assoc]⟩
end TT

set_option Elab.async false
set_option linter.all false
set_option maxRecDepth 100000
set_option maxHeartbeats 4000000
/-! A callable without parameters as a value: what it does while it is handed on, lambdas that are such, defs that take one. -/
namespace TT
open PySem PySem.Spec PyProof.Rows L2 LamX
theorem un_then {fs fs' : List Addr} {H H1 H2 : Hp} {h h1 h2 : Heap} (a : Un fs [] H H1 h h1) (b : Un fs' [] H1 H2 h1 h2) (new : ∀ c ∈ fs', c ∈ fs ∨ h.get? c = none) (sub : ∀ c ∈ fs, c ∈ fs') : Un fs [] H H2 h h2 := by
  have up : Un fs' [] H H1 h h1 := a.mono sub fun _ z => z
  have all := up.trans b
  refine ⟨fun c o e n hc hx => ?_, fun c o e n hc hx => all.any e n hx, all.free, all.there, all.tups, all.frzs, all.tbls⟩
  refine b.keep c o (a.keep c o e n hc hx) (a.free c o e n hx) (fun z => ?_) hx
  rcases new c z with q | q
  · exact hc q
  · rw [q] at e; cases e
/-- f() runs so, as long as what stands in (s, H) but the frames fs stays -/
structure Runs (P : Program) (w : World) (K : PySem.W.Frag) (mg : Str → Option Value) (base : Heap) (fs : List Addr) (k : Nat) (f : Addr) (tl : XK → Hp → VK → Prop) (s : Shared) (H : Hp) : Prop where
  obj : ∃ (oc : Value) (od : Option Addr) (fd : FuncData) (sl : Array (Option Value)), s.heap.get? f = some ⟨oc, od, .func fd, sl⟩
  fn : H f = none
  fr : f ∉ fs
  run : ∀ (A : Around) (outer : List Env) (s1 : Shared) (HZ : Hp) (Q : VK) (E : XK), Room (k + 1) A → Env0 P w K mg base A outer s1 HZ → Un fs [] H HZ s.heap s1.heap → tl E HZ Q →
    codeAny (model P w) A (.call (.ref f) ⟨[], []⟩) (CR (L2.CX P w) outer P w HZ s1 Q E) s1
section
variable {P : Program} {w : World} {K : PySem.W.Frag} {mg : Str → Option Value} {base : Heap} {k j : Nat} {f : Addr} {tl : XK → Hp → VK → Prop}
theorem Runs.step {fs fs' : List Addr} {s s1 : Shared} {H H1 : Hp} (R : Runs P w K mg base fs k f tl s H) (u : Un fs [] H H1 s.heap s1.heap) (new : ∀ c ∈ fs', c ∈ fs ∨ s.heap.get? c = none) (sub : ∀ c ∈ fs, c ∈ fs') : Runs P w K mg base fs' k f tl s1 H1 := by
  obtain ⟨oc, od, fd, sl, e⟩ := R.obj
  refine ⟨⟨oc, od, fd, sl, u.keep f _ e R.fn R.fr List.not_mem_nil⟩, u.free f _ e R.fn List.not_mem_nil, fun z => ?_, fun A outer s2 HZ Q E hr e0 u2 t => R.run A outer s2 HZ Q E hr e0 (un_then u u2 new sub) t⟩
  rcases new f z with q | q
  · exact R.fr q
  · rw [q] at e; cases e
/-- within a def that got it: at any state of the def -/
theorem Runs.now {X : Cx} {pins : List (Addr × Obj)} {σ : L2.St} {H : Hp} {s : Shared} (R : Runs X.prog X.w X.K X.mg X.base X.fs k f tl X.s_0 X.H_0) (hex : X.ex = []) (I : Inv X pins σ H s) : Runs X.prog X.w X.K X.mg X.base (frs X.stack) k f tl s H := by
  have u : Un X.fs [] X.H_0 H X.s_0.heap s.heap := hex ▸ I.base
  refine R.step u (fun c hc => ?_) fun c hc => ?_
  · rcases List.mem_cons.mp (I.stkSub c hc) with z | z
    · exact .inr (Heap.get?_none_of_le (z ▸ I.ok.above))
    · exact .inl z
  · rcases I.ok.stk with z | ⟨z, hf⟩
    · rw [z]; exact hc
    · rw [z]
      unfold frs
      rw [List.filterMap_cons, hf]
      exact List.mem_cons_of_mem _ hc
end
/-- a def whose first argument is such a callable -/
structure LOk (P : Program) (w : World) (K : PySem.W.Frag) (mg : Str → Option Value) (base : Heap) (k j : Nat) (g : Addr) (fd : FuncData) (ps : List Str) (sp : (XK → Hp → VK → Prop) → List V → Hp → VK → Prop) : Prop where
  len : ∀ tl vs H Q, sp tl vs H Q → vs.length + 1 = ps.length
  run : ∀ (A : Around) (outer : List Env) (s : Shared) (H : Hp) (args : Args) (us : List Value) (vs : List V) (Q : VK) (f : Addr) (tl : XK → Hp → VK → Prop), A.guards = some [] → Room k A → Env0 P w K mg base A outer s H →
    BindsTo s fd args (ps.zip (.ref f :: us)) → Vals vs us → Runs P w K mg base (frs outer) j f tl s H → sp tl vs H Q → codeAny (model P w) A (.call (.ref g) args) (CR CX0 outer P w H s Q fun _ _ _ => False) s
section
variable {X : Cx} {k j i : Nat} {f g : Addr} {fd : FuncData} {ps : List Str} {sp : (XK → Hp → VK → Prop) → List V → Hp → VK → Prop} {tl : XK → Hp → VK → Prop} {x a : Str} {p p1 p2 pos : Pos} {e : Expr} {es : List Expr} {ta : TA}
theorem run_L {pins : List (Addr × Obj)} {σ : L2.St} {H : Hp} {s : Shared} {Q : VK} {us : List Value} {vs : List V} (L : LOk X.prog X.w X.K X.mg X.base k j g fd ps sp) (gd : X.A.guards = some []) (hr : Room k X.A) (hb : Binds X.K fd ps [])
    (I : Inv X pins σ H s) (R : Runs X.prog X.w X.K X.mg X.base (frs X.stack) j f tl s H) (r : Vals vs us) (h : sp tl vs H Q) : wpAny (model X.prog X.w) X.A (call (.ref g) (.ref f :: us)) (EP X pins σ Q) X.xe s := by
  have n : (.ref f :: us : List Value).length = ps.length := by
    rw [List.length_cons, ← r.length]
    exact L.len _ _ _ _ h
  have b := hb s (.ref f :: us) I.kIn (by rw [List.append_nil]; exact n)
  rw [List.append_nil] at b
  refine wpAny_call (codeAny_mono (L.run X.A X.stack s H ⟨.ref f :: us, []⟩ us vs Q f tl gd hr I.env0 b r R h) fun res s1 z => ?_)
  match res, z with
  | .error _, z => exact z.elim
  | .ok (.ret u), z => exact I.after z
  | .ok .next, z => exact z.elim
  | .ok .brk, z => exact z.elim
  | .ok .cont, z => exact z.elim
/-- g(x, ..) in a def that got x -/
theorem pe_handon (R : Runs X.prog X.w X.K X.mg X.base X.fs j f tl X.s_0 X.H_0) (hex : X.ex = []) (L : LOk X.prog X.w X.K X.mg X.base k j g fd ps sp) (gd : X.A.guards = some []) (hr : Room k X.A) (hb : Binds X.K fd ps [])
    (hg : Gl X x) (hm : X.mg x = some (.ref g)) (hk : PySem.W.keepIn X.K (.ref g) = true) (ha : PA X (e :: es) ta) (hdb : (x == ("__debug__" : Str)) = false := by decide)
    (he : starEach (e :: es) X.env = (false, eval e X.env) :: starEach es X.env := by rfl) (hpl : (backTo pos (starEach es X.env)).any (·.1) = false := by rfl) :
    PE X (.Call (.Name x p) (e :: es) [] pos) (fun σ H Q => ta σ H fun vs H1 => ∃ ws, vs = .ref f :: ws ∧ sp tl ws H1 Q) := by
  constructor
  intro pins s σ H Q I h
  refine wpAny_Call_Name_kw (ld_glob I hg hm (PySem.W.callWith_K (h₀ := X.base) I.ok.mod.kin hk (thn (ha.run pos pins s σ H _ I h) fun us s1 ⟨vs, H1, I1, r, ws, ev, q⟩ => ⟨I1.kIn, ?_⟩) he hpl) hdb)
  subst ev
  cases r with
  | @cons _ u _ ur r1 r2 =>
    obtain rfl : u = Value.ref f := r1
    exact run_L L gd hr hb I1 (R.now hex I1) r2 q
/-- x() in a def that got x -/
theorem pe_look {E : XK} (R : Runs X.prog X.w X.K X.mg X.base X.fs k f tl X.s_0 X.H_0) (hex : X.ex = []) (hx : Passes (L2.CX X.prog X.w) X E) (hr : Room (k + 1) X.A) (hN : X.N[i]? = some a) (hv : Vis X.env.scope a)
    (hd : (a == ("__debug__" : Str)) = false := by decide) (hcd : (a == ("__classdict__" : Str)) = false := by decide) :
    PE X (.Call (.Name a p1) [] [] p2) (fun σ H Q => σ[i]? = some (some (.ref f)) ∧ tl E H Q) := by
  constructor
  intro pins s σ H Q I ⟨hs, t⟩
  refine wpAny_Call_Name_kw (thn ((pe_var (pos := p1) (i := i) hN hv hd hcd).run pins s σ H (fun v H1 => v = .ref f ∧ H1 = H) I ⟨_, hs, rfl, rfl⟩) fun u s1 ⟨v, H1, I1, r1, ev, eH⟩ => ?_)
  subst ev eH
  obtain rfl : u = Value.ref f := r1
  have R1 := R.now hex I1
  obtain ⟨oc, od, fd, sl, ob⟩ := R1.obj
  refine PySem.W.callWith_F0 (first := []) ⟨oc, od, fd, sl, ob⟩ (wpAny_call (codeAny_mono (R1.run X.A X.stack s1 _ Q E hr I1.env0 Un.refl t) fun res s2 z => ?_))
  match res, z with
  | .error e, z => exact hx pins σ _ s1 e s2 I1 z
  | .ok (.ret u), z => exact I1.after z
  | .ok .next, z => exact z.elim
  | .ok .brk, z => exact z.elim
  | .ok .cont, z => exact z.elim
/-- g(lambda: body, ..): T the tables of code objects -/
theorem pe_lam {T : List (Addr × Str)} {c PT : Addr} {params : Arguments} {body : Expr} {scope : Scope} {t : XK → TE} {lpos : Pos} (L : LOk X.prog X.w X.K X.mg X.base j k g fd ps sp) (gd : X.A.guards = some []) (hr : Room j X.A) (hb : Binds X.K fd ps [])
    (hg : Gl X x) (hm : X.mg x = some (.ref g)) (hk : PySem.W.keepIn X.K (.ref g) = true) (ha : PA X es ta)
    (TB : TabB X.base X.mg c PT) (hcode : X.env.code = .ref c) (hmT : (PT, X.env.qual ++ "<lambda>") ∈ T) (hu : ∀ p ∈ T, p.1 = PT → p.2 = X.env.qual ++ "<lambda>") (S : LamS X.env.scope scope) (hdef : defaultsOf params X.env = ([], []))
    (hbind : ∀ (q : Str) (cl : List (Str × Addr)) (pm cv ctv : Value), bindArgs (PySem.W.kla_fn "<lambda>" q params body scope cl pm cv ctv) ⟨[], []⟩ = pure [])
    (hbody : ∀ (A : Around) (outer : List Env) (s : Shared) (H : Hp) (E : XK) (f c' : Addr), Room k (A.deeper (lamEnv X scope s.heap.objs.size f c')) → PE (lamCx X A outer s H E scope f c') body (t E))
    (hdb : (x == ("__debug__" : Str)) = false := by decide)
    (he : starEach (.Lambda params body scope lpos :: es) X.env = (false, eval (.Lambda params body scope lpos) X.env) :: starEach es X.env := by rfl) (hpl : (backTo pos (starEach es X.env)).any (·.1) = false := by rfl) :
    PE X (.Call (.Name x p) (.Lambda params body scope lpos :: es) [] pos)
      (fun σ H Q => Tabs T H ∧ ∀ H1 c', ExtN H H1 → Tabs T H1 → H1 c' = some (CodeO c' (X.env.qual ++ "<lambda>")) → ta σ H1 fun ws H2 => sp (fun E H' Q' => H' c' = some (CodeO c' (X.env.qual ++ "<lambda>")) ∧ t E σ H' Q') ws H2 Q) := by
  constructor
  intro pins s σ H Q I ⟨hT, h⟩
  refine wpAny_Call_Name_kw (ld_glob I hg hm ?_ hdb)
  refine PySem.W.callWith_K (h₀ := X.base) I.ok.mod.kin hk ?_ he hpl
  rw [he]
  refine Calls.spliced_cons (lam_make2 I TB hcode hmT hu hT hdef (S.has I.ok) fun f c' pm ctv H1 s1 I1 eN T1 hf hfn hfr hco => ?_)
  have fL : f ≠ X.env.locals := fun z => by
    obtain ⟨m, ⟨o, es, ep, e1, e2, _⟩, _⟩ := I1.loc
    rw [← z, hf] at e1
    cases e1
    cases e2
  have fF : f ∉ X.fs := fun z => hfr (by
    rcases I1.ok.stk with q | ⟨q, hf2⟩
    · rw [q]; exact z
    · rw [q]; unfold frs; rw [List.filterMap_cons, hf2]; exact List.mem_cons_of_mem _ z)
  generalize hob : PySem.W.kla_obj "<lambda>" (X.env.qual ++ "<lambda>") params body scope (cloFrom X.env.cells scope.names []) pm c' ctv = ob at hf
  have I1p : Inv X ((f, ob) :: pins) σ H1 s1 := I1.pins_of fun q hq => by
    rcases List.mem_cons.mp hq with z | z
    · subst z
      exact ⟨hf, hfn, fL, fF, fun v z => by rw [← hob] at z; cases z⟩
    · exact I1.pin q (List.mem_append_right _ z)
  refine thn (ha.run pos ((f, ob) :: pins) s1 σ H1 _ I1p (h H1 c' eN T1 hco)) fun us s2 ⟨ws, H2, I2p, r, q⟩ => ⟨I2p.kIn, ?_⟩
  have I2 : Inv X pins σ H2 s2 := I2p.pins_of fun q hq => I2p.pin q (List.mem_append_right _ (List.mem_cons_of_mem _ hq))
  obtain ⟨e2, n2, _⟩ := I2p.pin (f, ob) (List.mem_append_right _ List.mem_cons_self)
  refine run_L (f := f) (tl := fun E H' Q' => H' c' = some (CodeO c' (X.env.qual ++ "<lambda>")) ∧ t E σ H' Q') L gd hr hb I2 ⟨⟨_, _, _, _, by rw [← hob] at e2; exact e2⟩, n2, hfr, fun A outer s3 HZ Q' E hrA e0 un ⟨hc', ht⟩ => ?_⟩ r q
  have e3 := un.keep f _ e2 n2 hfr List.not_mem_nil
  rw [← hob] at e3
  obtain ⟨⟨oc, vs, tk, hoc, hdc, hvc⟩, _, _⟩ := e0.hok c' _ hc'
  refine PySem.W.kla_callFunE hrA.depth e3 rfl S.co S.gen rfl ⟨c', oc, vs, tk, rfl, hoc, hdc, hvc⟩ ?_
  rw [hbind]
  have lim : s3.heap.NoLimit := e0.mod.nolimit.keeps fun b o z => (e0.bs b o z).1
  refine wpAny_pure (wpAny_newFunctionEnv (fun y hy => (S.own y hy).2) (fun y hy => absurd hy List.not_mem_nil) (fun h₁ hns hsb => ⟨lim.fresh _ hsb, ?_⟩) S.kind)
  show codeAny _ _ (.expr body (lamEnv X scope s3.heap.objs.size f c')) _ _
  have kp : ∀ b o, s3.heap.get? b = some o → h₁.get? b = some o := fun b o z => hsb.extBut b o (Nat.ne_of_lt (Heap.lt_size z)) (Heap.get?_push_of_some _ z)
  have J := lam_start2 (f := f) (c' := c') (E := E) (tk := s3.toks + ([] : List (Str × Value)).length) I2 S e0 hrA.hd un hns kp
  refine PySem.W.kla_codeExpr (wpAny_mono ((hbody A outer s3 HZ E f c' (hrA.deeper _)).run [] _ σ HZ Q' J ht) (fun v s' ⟨w', H', J', rv, q'⟩ => ⟨w', H', J'.os, J'.bare, J'.base, J'.hok, rv, q'⟩) fun _ _ z => z)
end
/-- a def of the text whose first argument is such a callable -/
theorem okL {P : Program} {w : World} {K : PySem.W.Frag} {mg : Str → Option Value} {base : Heap} {x qual : Str} {st : Stmt} {g : Addr} {fd : FuncData} {N ps : List Str} {k j : Nat} {sp : (XK → Hp → VK → Prop) → List V → Hp → VK → Prop} (F : Fun K x qual st g fd) (S : FnScope N ps (defScope st))
    (len : ∀ tl vs H Q, sp tl vs H Q → vs.length + 1 = ps.length)
    (hb : ∀ (cdv : Value) (A : Around) (outer : List Env) (s : Shared) (H : Hp) (vs : List V) (Q : VK) (f : Addr) (tl : XK → Hp → VK → Prop), A.guards = some [] → Room k (A.deeper (envOfC qual (defScope st) s.heap.objs.size g cdv)) → Runs P w K mg base (frs outer) j f tl s H → sp tl vs H Q →
      ∃ t, PSs (cxOf CX0 P w K mg base N qual (defScope st) g cdv A outer s H fun _ _ _ => False).nox (defBody st) t ∧ t { nx := fun _ H1 => Q .non H1, rt := Q } (start N (.ref f :: vs)) H) : LOk P w K mg base (k + 1) j g fd ps sp := by
  obtain ⟨oc, od, kV, doc, pm, an, cdv, ct, osl, rfl, lk, hcd⟩ := F.ex
  refine ⟨len, fun A outer s H args us vs Q f tl gd hr e0 bnd r R h => ?_⟩
  refine run_ofS (vs := .ref f :: vs) lk hcd S hr e0 bnd (.cons rfl r) (len _ _ _ _ h) fun hr' => ?_
  obtain ⟨t, ht, hq⟩ := hb cdv A outer s H vs Q f tl gd hr' R h
  exact ⟨t, ht.nox, hq⟩
/-- x() in a try's body: what it lets out is told at the slots as they stand -/
def tLook (f : Addr) (i : Nat) (tl : XK → Hp → VK → Prop) (W : WX) : TE := fun σ H Q => ∃ (E : XK) (Q0 : VK), (∀ cls d H', E cls d H' → W cls d σ H') ∧ (∀ v H', Q0 v H' → Q v H') ∧ σ[i]? = some (some (.ref f)) ∧ tl E H Q0
theorem pe_lookS {X : Cx} {k i : Nat} {f : Addr} {tl : XK → Hp → VK → Prop} {a : Str} {p1 p2 : Pos} {W : WX} (tk : Takes X W) (R : Runs X.prog X.w X.K X.mg X.base X.fs k f tl X.s_0 X.H_0) (hex : X.ex = []) (hr : Room (k + 1) X.A) (hN : X.N[i]? = some a) (hv : Vis X.env.scope a)
    (hd : (a == ("__debug__" : Str)) = false := by decide) (hcd : (a == ("__classdict__" : Str)) = false := by decide) : PE X (.Call (.Name a p1) [] [] p2) (tLook f i tl W) := by
  constructor
  intro pins s σ H Q I ⟨E, Q0, hW, hQ, hs, t⟩
  refine wpAny_Call_Name_kw (thn ((pe_var (pos := p1) (i := i) hN hv hd hcd).run pins s σ H (fun v H1 => v = .ref f ∧ H1 = H) I ⟨_, hs, rfl, rfl⟩) fun u s1 ⟨v, H1, I1, r1, ev, eH⟩ => ?_)
  subst ev eH
  obtain rfl : u = Value.ref f := r1
  have R1 := R.now hex I1
  obtain ⟨oc, od, fd, sl, ob⟩ := R1.obj
  refine PySem.W.callWith_F0 (first := []) ⟨oc, od, fd, sl, ob⟩ (wpAny_call (codeAny_mono (R1.run X.A X.stack s1 _ Q0 E hr I1.env0 Un.refl t) fun res s2 z => ?_))
  match res, z with
  | .error e, z => exact tk e s2 (XE.of_call I1 hW z)
  | .ok (.ret u), z =>
    obtain ⟨v, H2, I2, rv, q⟩ := I1.after z
    exact ⟨v, H2, I2, rv, hQ _ _ q⟩
  | .ok .next, z => exact z.elim
  | .ok .brk, z => exact z.elim
  | .ok .cont, z => exact z.elim
/-! ### errors that were caught -/
/-- at a stands a caught error of the class at C whose own dict holds fs -/
def Met (H : Hp) (a C : Addr) (fs : List (Str × V)) : Prop := ∃ d, H a = some (exk a (.ref C) (some d)) ∧ H d = some (.xd fs)
theorem Met.same {H H' : Hp} {a C : Addr} {fs : List (Str × V)} (s : Same H H') (h : Met H a C fs) : Met H' a C fs := h.imp fun _ z => ⟨s _ _ z.1, s _ _ z.2⟩
section
variable {X : Cx} {pins : List (Addr × Obj)} {σ : L2.St} {H : Hp} {s : Shared} {a C : Addr} {fs : List (Str × V)}
theorem met_at (I : Inv X pins σ H s) (h : Met H a C fs) : ∃ ox od, PySem.W.InstAt s.heap a ox C (some od) ∧ ∃ mA : Str → Option Value, (∀ name, PySem.W.lookIn name od = some (mA name)) ∧ ∀ f, RelO (fs.lookup f) (mA f) := by
  obtain ⟨d, h1, h2⟩ := h
  obtain ⟨o, vs, e1, z1, f1⟩ := exk_at I.hok h1
  obtain ⟨mA, hn, hr⟩ : ∃ mA, s.heap.Ns1 d mA ∧ ∀ f, RelO (fs.lookup f) (mA f) := I.hok d _ h2
  obtain ⟨od, ho, hl⟩ := lookIn_ns hn
  exact ⟨o, od, ⟨e1, z1.1, by unfold PySem.W.notCls; rw [f1] <;> rfl, by rw [z1.2]; exact ho⟩, mA, hl, hr⟩
/-- e.n of a caught error -/
def tMv (K : PySem.W.Frag) (n : Str) (te : TE) : TE := fun σ H Q => te σ H fun x H1 => ∃ a C fs v, x = .ref a ∧ Met H1 a C fs ∧ XfC K C ∧ PySem.W.findIn K (.ref C) n = some none ∧ fs.lookup n = some v ∧ Q v H1
theorem pe_mv {e : Expr} {te : TE} {pos : Pos} {n : Str} (he : PE X e te) (hb : attributeBase e n X.env (eval e X.env) = eval e X.env := by rfl) : PE X (.Attribute e n pos) (tMv X.K n te) := by
  constructor
  intro pins s σ H Q I h
  refine attr_of hb (thn (he.run pins s σ H _ I h) fun u s1 ⟨x, H1, I1, rx, a, C, fs, v, ex, hE, T, hno, l, q⟩ => ?_)
  subst ex
  obtain rfl : u = Value.ref a := rx
  obtain ⟨ox, od, J, mA, hl, hr⟩ := met_at I1 hE
  obtain ⟨u, hu, ru⟩ := RelO.some_of (v := v) (o := mA n) (l ▸ hr n)
  exact HandSPX.exc_get I1.kIn J T.ga T.gg T.exC (PySem.W.findObj_own T.hdC hno rfl (by rw [hl, hu])) (handed_of ru) ⟨v, H1, I1.tok _, ru, q⟩
/-- isinstance(x, c) of a caught error -/
def rIsM (K : PySem.W.Frag) : List V → Hp → VK → Prop := fun xs H Q => ∃ (a C : Addr) (fs : List (Str × V)) (c : V) (cv : Value) (b b' : Bool), xs = [.ref a, c] ∧ Met H a C fs ∧ ExcC K C ∧ PySem.W.kitCls K (.ref C) (.ref C) = some b' ∧ ClsV c cv ∧ PySem.W.kitOne K (.ref C) cv = some b ∧ Q (.bl b) H
theorem call_isM {X : Cx} : CallR X (.builtin "isinstance") (rIsM X.K) := by
  intro pins s σ H xs us Q I r h
  obtain ⟨a, C, fs, c, cv, b, b', rfl, hE, T, self, hc, e, q⟩ := h
  match us, r with
  | [u1, u2], .cons r1 (.cons r2 .nil) =>
    obtain rfl : u1 = Value.ref a := r1
    obtain rfl : u2 = cv := hc.eq r2
    obtain ⟨ox, od, J, _⟩ := met_at I hE
    exact PySem.W.kia_one (kit_err T self) I.kIn ⟨ox, od, J⟩ e (fun z => nomatch z) fun tk => ⟨.bl b, H, I.tok tk, rfl, q⟩
end
end TT

set_option Elab.async false
set_option linter.all false
set_option maxRecDepth 100000
set_option maxHeartbeats 4000000
/-! What the laws of our program share: defs that make lambdas, the errors' classes, the end of a law whose defs make lambdas. -/
namespace TT
open PySem PySem.Spec PyProof.Rows L2 LamX
/-! ### defs that make lambdas: their code object is known -/
structure FunC (K : PySem.W.Frag) (x qual : Str) (st : Stmt) (f : Addr) (fd : FuncData) (c : Addr) : Prop where
  ex : ∃ (oc : Value) (od : Option Addr) (kV doc pm : Value) (an : Option Addr) (ct : Value) (osl : Array (Option Value)),
    fd = PySem.W.fnOf x qual (defArgs st) (defBody st) (defScope st) .none kV doc pm an (.ref c) ct ∧ K.lookup f = some ⟨oc, od, .func fd, osl⟩ ∧ PySem.W.codeIn K (.ref c) qual = true
  kp : PySem.W.keepIn K (.ref f) = true
section
variable {P : Program} {w : World} {K : PySem.W.Frag} {mg : Str → Option Value} {base : Heap} {x qual : Str} {st : Stmt} {f c : Addr} {fd : FuncData} {N ps : List Str} {k : Nat} {sp : Sp}
theorem FunC.fn (F : FunC K x qual st f fd c) : Fun K x qual st f fd := by
  obtain ⟨oc, od, kV, doc, pm, an, ct, osl, e, l, h⟩ := F.ex
  exact ⟨⟨oc, od, kV, doc, pm, an, .ref c, ct, osl, e, l, h⟩, F.kp⟩
theorem okGC (F : FunC K x qual st f fd c) (S : FnScope N ps (defScope st)) (size : ∀ vs H Q E, sp vs H Q E → vs.length = ps.length)
    (hb : ∀ (A : Around) (outer : List Env) (s : Shared) (H : Hp) (vs : List V) (Q : VK) (E : XK), A.guards = some [] → Room k (A.deeper (envOfC qual (defScope st) s.heap.objs.size f (.ref c))) → sp vs H Q E →
      ∃ t, PSs (cxOf CX0 P w K mg base N qual (defScope st) f (.ref c) A outer s H E).nox (defBody st) t ∧ t { nx := fun _ H1 => Q .non H1, rt := Q } (start N vs) H) : GOk P w K mg base CX0 (k + 1) f fd ps sp := by
  obtain ⟨oc, od, kV, doc, pm, an, ct, osl, rfl, lk, hcd⟩ := F.ex
  refine g_of lk hcd S size fun A outer s H vs Q E g hr hsp => ?_
  obtain ⟨t, h, q⟩ := hb A outer s H vs Q E g hr hsp
  exact ⟨t, h.nox, q⟩
end
/-- a def that lets errors out, called where it lets none out -/
theorem passF {P : Program} {w : World} {X : Cx} : Passes (L2.CX P w) X E0 := fun _ _ _ _ _ _ _ h => by
  obtain ⟨_, _, _, _, _, _, _, _, _, _, _, _, z⟩ := h
  exact z.elim
/-- o(..), o an instance of the class at C -/
def tCallI (C : Addr) (sp : Sp) (E : XK) (tf : TE) (t : TA) : TE := fun σ H Q => tf σ H fun y H1 => ∃ a, y = V.ref a ∧ t σ H1 fun vs H2 => (∃ dx fs, H2 a = some (.ins C dx fs)) ∧ sp (V.ref a :: vs) H2 Q E
theorem pe_callI {X : Cx} {CX : CXT} {k : Nat} {g C : Addr} {sp : Sp} {E : XK} {fe e : Expr} {es : List Expr} {tf : TE} {t : TA} {pos : Pos} (hf : PE X fe tf) (c : StX.CallO X.K C g) (F : FnR X.prog X.w X.K X.mg X.base CX k g sp) (hr : Room k X.A) (hx : Passes CX X E) (ha : PA X (e :: es) t)
    (ht : eval (.Call fe (e :: es) [] pos) X.env = (do callWith pos (← eval fe X.env) [] (backTo pos (starEach (e :: es) X.env)) (backToKw pos (keywordEach [] X.env))) := by rfl)
    (he : starEach (e :: es) X.env = (false, eval e X.env) :: starEach es X.env := by rfl) (hpl : (backTo pos (starEach es X.env)).any (·.1) = false := by rfl) : PE X (.Call fe (e :: es) [] pos) (tCallI C sp E tf t) := by
  constructor
  intro pins s σ H Q I h
  refine Call_ (thn (hf.run pins s σ H _ I h) fun u s1 z => ?_) ht
  obtain ⟨_, H1, I1, ru, a, rfl, q⟩ := z
  obtain rfl : u = .ref a := ru
  refine StX.callO_with (thn (ha.run pos pins s1 σ H1 _ I1 q) fun us s2 z => ?_) he hpl
  obtain ⟨vs, H2, I2, rv, inst, q2⟩ := z
  have at2 : StX.InsC X H2 a C := .inr inst
  obtain ⟨ox, od, J, plain⟩ := StX.insC_at I2 at2
  exact ⟨⟨C, ox, od, J, plain⟩, StX.run_callO c F hr hx I2 at2 rv q2⟩
/-- what a lambda in the def q is called -/
def lamN (q : Str) : Str := (q ++ ".<locals>.") ++ "<lambda>"
/-! ### the errors' classes -/
/-- the chain of each error's class behind itself -/
def chain (cE C : Addr) : List Value := (if C = cE then [] else [.ref cE]) ++ [.type "ValueError", .type "Exception", .type "BaseException", .type "object"]
structure ExcT (K : PySem.W.Frag) (cE fI C : Addr) : Prop where
  ox : OexC K C
  xf : XfC K C
  ec : ExcC K C
  ini : PySem.W.findIn K (.ref C) "__init__" = some (some (.ref fI))
  nv : PySem.W.findIn K (.ref C) "value" = some none
  sub : ∀ b, PySem.W.subIn K (.ref C) b = some ((Value.ref C :: chain cE C).contains b)
  is : ((PySem.W.clsIn K C).isSome && PySem.W.typeIn K (.ref C) == some (.type "type")) = true
section
variable {K : PySem.W.Frag} {cE fI C D : Addr}
theorem ExcT.kit (a : ExcT K cE fI C) (b : ExcT K cE fI D) (h : C ≠ D) : PySem.W.kitOne K (.ref C) (.ref D) = some (decide (D = cE)) := by
  have n1 : (Value.ref C == Value.ref D) = false := by simpa using h
  unfold PySem.W.kitOne
  rw [n1, if_neg Bool.false_ne_true]
  unfold PySem.W.kitCls
  dsimp only
  rw [if_pos b.is, a.sub]
  congr 1
  unfold chain
  have n2 : ¬ D = C := fun e => h e.symm
  by_cases c : C = cE
  · subst c
    rw [if_pos rfl, decide_eq_false n2]
    simp [n2]
  · rw [if_neg c]
    by_cases e : D = cE
    · subst e
      simp
    · rw [decide_eq_false e]
      simp [e, n2]
theorem ExcT.self (a : ExcT K cE fI C) : PySem.W.kitOne K (.ref C) (.ref C) = some true := by
  unfold PySem.W.kitOne
  rw [if_pos (beq_iff_eq.mpr rfl)]
theorem ExcT.selfC (a : ExcT K cE fI C) : PySem.W.kitCls K (.ref C) (.ref C) = some true := by
  unfold PySem.W.kitCls
  dsimp only
  rw [if_pos a.is, a.sub]
  congr 1
  simp
/-- it is caught as a TuneError -/
theorem ExcT.exm (a : ExcT K cE fI C) (b : ExcT K cE fI cE) : PySem.W.exmOne K (.ref C) (.ref cE) = some true := by
  refine PySem.W.exm_ref b.ox.exC b.xf.hdC b.ox.tyC ?_
  rw [a.sub]
  congr 1
  unfold chain
  by_cases c : C = cE
  · subst c; simp
  · rw [if_neg c]; simp
structure ExcF (K : PySem.W.Frag) (cE fI C : Addr) : Prop where
  cls : ∃ nm q N bs sn sub ab col dd k0 k1 k2 k3 k5, K.lookup C = some (excClassObj nm q C N bs (chain cE C) true sn sub ab col dd k0 k1 k2 k3 k5 "ValueError.__new__")
  sa : PySem.W.findIn K (.ref C) "__setattr__" = some (some (.builtin "object.__setattr__"))
  tyC : PySem.W.typeIn K (.ref C) = some (.type "type")
  kC : PySem.W.keepIn K (.ref C) = true
  ga : PySem.W.findIn K (.ref C) "__getattribute__" = some (some (.builtin "BaseException.__getattribute__"))
  gg : PySem.W.findIn K (.ref C) "__getattr__" = some none
  ha : PySem.W.findIn K (.ref C) "__class__" = some (some (.builtin "object.__class__"))
  ini : PySem.W.findIn K (.ref C) "__init__" = some (some (.ref fI))
  nv : PySem.W.findIn K (.ref C) "value" = some none
theorem excF_mk {nm q : Str} {N : Addr} {bs bm : List Value} {sn : List Str} {sub : List Value} {ab : Bool} {col : Option Bool} {dd : Option Addr} {k0 k1 k2 k3 k5 : Option Value}
    (xL : K.lookup C = some (excClassObj nm q C N bs bm true sn sub ab col dd k0 k1 k2 k3 k5 "ValueError.__new__")) (hb : bm = chain cE C)
    (sa : PySem.W.findIn K (.ref C) "__setattr__" = some (some (.builtin "object.__setattr__"))) (tyC : PySem.W.typeIn K (.ref C) = some (.type "type")) (kC : PySem.W.keepIn K (.ref C) = true)
    (ga : PySem.W.findIn K (.ref C) "__getattribute__" = some (some (.builtin "BaseException.__getattribute__"))) (gg : PySem.W.findIn K (.ref C) "__getattr__" = some none)
    (ha : PySem.W.findIn K (.ref C) "__class__" = some (some (.builtin "object.__class__"))) (ini : PySem.W.findIn K (.ref C) "__init__" = some (some (.ref fI))) (nv : PySem.W.findIn K (.ref C) "value" = some none) : ExcF K cE fI C :=
  ⟨⟨nm, q, N, bs, sn, sub, ab, col, dd, k0, k1, k2, k3, k5, hb ▸ xL⟩, sa, tyC, kC, ga, gg, ha, ini, nv⟩
theorem chain_has (cE C : Addr) (b : Value) (h : b ∈ ([.type "ValueError", .type "Exception", .type "BaseException", .type "object"] : List Value)) : (Value.ref C :: chain cE C).contains b = true := by
  rw [List.contains_iff_mem]
  exact List.mem_cons_of_mem _ (List.mem_append_right _ h)
theorem ExcF.all (a : ExcF K cE fI C) (zget : PySem.W.specialIn K (.builtin "object.__class__") "__get__" = some (some (.builtin "getset_descriptor.__get__"))) (ztk : PySem.W.takesIn K (.builtin "object.__class__") = some true) : ExcT K cE fI C := by
  obtain ⟨nm, q, N, bs, sn, sb, ab, col, dd, k0, k1, k2, k3, k5, xL⟩ := a.cls
  have cl : PySem.W.clsIn K C = some { name := nm, bases := bs, mro := Value.ref C :: chain cE C, ns := N, qualname := q, hasDict := true, slotNames := sn, subclasses := sb, abstract := ab, collection := col } := by
    unfold PySem.W.clsIn
    rw [xL]
  have sub : ∀ b, PySem.W.subIn K (.ref C) b = some ((Value.ref C :: chain cE C).contains b) := fun b => by
    unfold PySem.W.subIn
    dsimp only
    unfold PySem.W.mroIn
    rw [cl]
    rfl
  have hd : PySem.W.hasDictIn K C = true := by
    unfold PySem.W.hasDictIn
    rw [cl]
    rfl
  have be : PySem.W.subIn K (.ref C) (.type "BaseException") = some true := by rw [sub, chain_has cE C _ (by simp)]
  have ob : PySem.W.subIn K (.ref C) (.type "object") = some true := by rw [sub, chain_has cE C _ (by simp)]
  exact {
    ox := ⟨⟨nm, q, N, bs, _, sn, sb, ab, col, dd, k0, k1, k2, k3, k5, xL, by
      unfold chain
      by_cases c : C = cE
      · rw [if_pos c]
        decide +kernel
      · rw [if_neg c]
        rfl⟩, a.sa, be, a.tyC, a.kC⟩
    xf := ⟨a.ga, a.gg, be, hd⟩
    ec := ⟨a.ga, a.gg, be, hd, a.ha, zget, ztk, ob⟩
    ini := a.ini
    nv := a.nv
    sub := sub
    is := by rw [cl, a.tyC] <;> rfl }
end
theorem nd_at {l : List Addr} (h : l.Nodup) {i j : Nat} (hi : i < l.length) (hj : j < l.length) (e : l.getD i 0 = l.getD j 0) : i = j := by
  rw [List.getD_eq_getElem?_getD, List.getD_eq_getElem?_getD, List.getElem?_eq_getElem hi, List.getElem?_eq_getElem hj] at e
  have pw := List.pairwise_iff_getElem.mp h
  have e' : l[i] = l[j] := e
  rcases Nat.lt_trichotomy i j with c | c | c
  · exact absurd e' (pw i j hi hj c)
  · exact c
  · exact absurd e'.symm (pw j i hj hi c)
/-! ### heaps in which tables may have grown -/
theorem ExtN.same {H H' : Hp} (s : Same H H') : ExtN H H' := fun b o e _ => s b o e
theorem ExtN.seq {K : PySem.W.Frag} {H H' : Hp} {a : Addr} {xs : List V} (e : ExtN H H') (h : SqL K H a xs) : SqL K H' a xs := by
  rcases h with (h | ⟨o, h⟩) | h
  · exact .inl (.inl (e _ _ h fun ps z => by cases z))
  · exact .inl (.inr ⟨o, e _ _ h fun ps z => by cases z⟩)
  · exact .inr h
/-! ### the end of a law's row whose defs make lambdas -/
/-- the script and the empty tables are tracked -/
def seenT (a : Addr) (ob : Obj) (ns : List Int) (own : Bool) (ts : List Addr) : Hp := fun b => if own = false ∧ b = a then some (.frz ob (.lst (ns.map V.int))) else if b ∈ ts then some (.tbl #[]) else none
/-- .. or: each tracked thing is the script or a table -/
theorem seenT_is {a b : Addr} {ob : Obj} {ns : List Int} {own : Bool} {ts : List Addr} {u : HO} (h : seenT a ob ns own ts b = some u) : (own = false ∧ b = a ∧ u = .frz ob (.lst (ns.map V.int))) ∨ (b ∈ ts ∧ u = .tbl #[]) := by
  unfold seenT at h
  split at h
  · rename_i c
    cases h
    exact .inl ⟨c.1, c.2, rfl⟩
  · split at h
    · rename_i c
      cases h
      exact .inr ⟨c, rfl⟩
    · cases h
abbrev tab0 : Obj := { cls := .none, data := .fields #[] }
theorem run_lawT {P : Program} {w : World} {K : PySem.W.Frag} {mg mb : Str → Option Value} {k : Nat} {fa a : Addr} {fd : FuncData} {x : Str} {sp : Sp} {s : Shared} {vs : List Value} {ns : List Int} {cs : List (Addr × Addr)}
    (KX : K.In s.heap) (hns : s.heap.Ns mainGlobals mg) (hb : s.heap.Ns builtinsNs mb) (hbb : ∀ x : Str, x ≠ "__name__" → mb x = bootBuiltins x) (lim : s.heap.NoLimit) (hg : s.gens = #[])
    (bmain : ∃ (bm : Addr) (ob : Obj), mg "__builtins__" = some (.ref bm) ∧ bm ≠ builtinsNs ∧ s.heap.get? bm = some ob ∧ ob.cls = .type "module" ∧ ob.dict = some builtinsNs ∧ ob.data = .plain)
    (tabs : ∀ p ∈ cs, s.heap.get? p.2 = some tab0) (codes : ∀ p ∈ cs, PySem.W.CodeHd s.heap p.1 p.2) (noT : PySem.W.noTabs K = true)
    (ha : s.heap.get? a = some { cls := .type "list", data := .seq vs.toArray }) (hi : IntsAre vs ns) (hl : ns.length ≤ sizeLine) (hr : Room k callerA)
    (F : ∀ base : Heap, K.In base → base.Ns mainGlobals mg → (∀ p ∈ cs, TabB base mg p.1 p.2) → GOk P w K mg base CX0 k fa fd [x] sp) (bnd : ∀ (s : Shared) (u : Value), BindsTo s fd ⟨[u], []⟩ [(x, u)])
    (hsp : ∀ H : Hp, (∀ p ∈ cs, H p.2 = some (.tbl #[])) → SqL K H a (ns.map V.int) → sp [.ref a] H (fun v _ => v = .bl true) fun _ _ _ => False) :
    codeAny (model P w) callerA (.call (.ref fa) ⟨[.ref a], []⟩) (fun r s1 => r = .ok (.ret (.bool true)) ∧ OldK s.heap s1.heap ∧ s1.os = s.os ∧ AllBare s1.gens) s := by
  have rv := vals_ints hi
  let ob : Obj := { cls := .type "list", data := .seq vs.toArray }
  have aT : a ∉ cs.map (·.2) := fun z => by
    obtain ⟨p, hp, e⟩ := List.mem_map.mp z
    have := (tabs p hp).symm.trans (e ▸ ha)
    cases this
  have ofT : ∀ b ∈ cs.map (·.2), s.heap.get? b = some tab0 := fun b hb => by
    obtain ⟨p, hp, rfl⟩ := List.mem_map.mp hb
    exact tabs p hp
  have KT : ∀ b ∈ cs.map (·.2), K.lookup b = none := fun b hb => by
    cases q : K.lookup b with
    | none => rfl
    | some o =>
      have e := (KX b o q).symm.trans (ofT b hb)
      cases e
      exact absurd (List.all_eq_true.mp noT _ (PySem.W.mem_of_lookupK q)) Bool.false_ne_true
  obtain ⟨own, hown⟩ : ∃ own : Bool, own = (K.lookup a).isSome := ⟨_, rfl⟩
  generalize hH : seenT a ob ns own (cs.map (·.2)) = H
  have is : ∀ b u, H b = some u → (own = false ∧ b = a ∧ u = .frz ob (.lst (ns.map V.int))) ∨ (b ∈ cs.map (·.2) ∧ u = .tbl #[]) := fun b u e => seenT_is (hH ▸ e)
  have atT : ∀ b ∈ cs.map (·.2), H b = some (.tbl #[]) := fun b m => by
    rw [← hH]
    unfold seenT
    rw [if_neg (fun z : own = false ∧ b = a => aT (z.2 ▸ m)), if_pos m]
  have hS : SqL K H a (ns.map V.int) := by
    cases q : K.lookup a with
    | some o =>
      have e := (KX a o q).symm.trans ha
      cases e
      exact .inr ⟨_, vs.toArray, _, q, rfl, rfl, rfl, by rw [List.size_toArray, hi.length]; exact hl, by simpa using rv⟩
    | none =>
      rw [q] at hown
      refine .inl (.inr ⟨ob, ?_⟩)
      rw [← hH]
      unfold seenT
      rw [if_pos ⟨hown, rfl⟩]
  have hok : HOk P w H s.heap := fun b u e => by
    rcases is b u e with ⟨_, rfl, rfl⟩ | ⟨m, rfl⟩
    · exact ⟨ha, by rw [List.length_map]; exact hl, vs, _, rv, ha⟩
    · exact ofT b m
  -- what is neither a list nor an empty record is not tracked
  have free : ∀ {b : Addr} {o : Obj}, s.heap.get? b = some o → (∀ xs n, o.data ≠ .seq xs n) → o.data ≠ .fields #[] → H b = none := fun {b o} e d1 d2 => by
    cases q : H b with
    | none => rfl
    | some u =>
      rcases is b u q with ⟨_, rfl, _⟩ | ⟨m, _⟩
      · cases e.symm.trans ha
        exact absurd rfl (d1 _ _)
      · cases e.symm.trans (ofT b m)
        exact absurd rfl d2
  have nsB : ∀ {b : Addr} {m : Str → Option Value}, s.heap.Ns b m → (hidT s.heap H).Ns b m := fun {b m} ⟨o, es, ep, e, d, r⟩ =>
    ⟨o, es, ep, hidT_get e (free e (fun _ _ z => by rw [d] at z; cases z) fun z => by rw [d] at z; cases z), d, r⟩
  have inK : K.In (hidT s.heap H) := fun b o e => hidT_get (KX b o e) (by
    cases q : H b with
    | none => rfl
    | some u =>
      rcases is b u q with ⟨z, rfl, _⟩ | ⟨m, _⟩
      · rw [e] at hown
        rw [hown] at z
        cases z
      · rw [KT b m] at e
        cases e)
  have TB : ∀ p ∈ cs, TabB (hidT s.heap H) mg p.1 p.2 := fun p hp => by
    obtain ⟨o, us, file, tf, flags, tg, inF, text, tt, e1, c1, c2, c3, rest⟩ := codes p hp
    obtain ⟨bm, om, b1, b2, b3, b4, b5, b6⟩ := bmain
    obtain ⟨og, eg, pg, g1, g2, _⟩ := id hns
    have pm : bm ≠ p.2 := fun z => by
      have := b3.symm.trans (z ▸ tabs p hp)
      cases this
      cases b6
    have gm : bm ≠ mainGlobals := fun z => by
      rw [z] at b3
      cases b3.symm.trans g1
      cases b6.symm.trans g2
    refine ⟨⟨o, us, file, tf, flags, tg, inF, text, tt, hidT_get e1 (free e1 (fun _ _ z => by rw [c2] at z; cases z) fun z => ?_), c1, c2, c3, rest⟩, ⟨bm, om, b1, b2, gm, pm, hidT_get b3 (free b3 (fun _ _ z => by rw [b6] at z; cases z) fun z => by rw [b6] at z; cases z), b4, b5, b6⟩, fun z => ?_⟩
    · rw [c2] at z
      cases z
      simp at c3
    · have := g1.symm.trans (z ▸ tabs p hp)
      cases this
      cases g2
  obtain ⟨mc, l1, l2⟩ := lim
  have e0 : Env0 P w K mg (hidT s.heap H) callerA [] s H :=
    { frames := rfl, mod := ⟨inK, nsB hns, ⟨mb, nsB hb, hbb⟩, ⟨mc, nsB l1, l2⟩⟩, bs := fun b o e => of_hidT e, bsz := Nat.le_of_eq (hidT_size _ _), funs := trivial, frf := fun b z => absurd (show b ∈ ([] : List Addr) from z) List.not_mem_nil, hok := hok, bare := .of_eq hg }
  refine codeAny_mono ((F _ inK (nsB hns) TB).go callerA [] s H ⟨[.ref a], []⟩ [.ref a] [.ref a] _ _ rfl hr e0 (bnd s (.ref a)) (.cons rfl .nil) (hsp H (fun p hp => atT _ (List.mem_map.mpr ⟨p, hp, rfl⟩)) hS)) fun r s1 z => ?_
  match r, z with
  | .error e, z => exact z.elim
  | .ok .next, z => exact z.elim
  | .ok .brk, z => exact z.elim
  | .ok .cont, z => exact z.elim
  | .ok (.ret u), z =>
    obtain ⟨v, H1, os, bare, un, hok1, r1, q⟩ := z
    subst q
    obtain rfl : u = Value.bool true := r1
    have stay : ∀ b o, b ∉ cs.map (·.2) → s.heap.get? b = some o → s1.heap.get? b = some o := fun b o nb e => by
      cases q : H b with
      | none => exact un.keep b o e q (fun z => absurd (show b ∈ ([] : List Addr) from z) List.not_mem_nil) List.not_mem_nil
      | some u =>
        rcases is b u q with ⟨_, rfl, rfl⟩ | ⟨m, _⟩
        · obtain ⟨e1, _⟩ := hok _ _ q
          obtain ⟨e2, _⟩ := hok1 _ _ (un.frzs _ _ _ q)
          cases e.symm.trans e1
          exact e2
        · exact absurd m nb
    have grown : ∀ p ∈ cs, ∃ more : Array Value, s1.heap.get? p.2 = some { cls := .none, data := .fields more } := fun p hp => by
      obtain ⟨more, q⟩ := un.tbls p.2 #[] (atT _ (List.mem_map.mpr ⟨p, hp, rfl⟩))
      exact ⟨_, hok1 p.2 _ q⟩
    refine ⟨rfl, ⟨fun b o e => ?_, fun b o e => ?_⟩, os, bare⟩
    · by_cases m : b ∈ cs.map (·.2)
      · obtain ⟨p, hp, rfl⟩ := List.mem_map.mp m
        obtain ⟨more, q⟩ := grown p hp
        cases e.symm.trans (tabs p hp)
        exact .inr (.inl ⟨((codes p hp).tab (tabs p hp)).isCodeTable, rfl, #[], more, rfl, by rw [Array.empty_append]; exact q⟩)
      · exact .inl (stay b o m e)
    · by_cases m : b ∈ cs.map (·.2)
      · obtain ⟨p, hp, rfl⟩ := List.mem_map.mp m
        obtain ⟨more, q⟩ := grown p hp
        exact ⟨_, q⟩
      · exact ⟨o, stay b o m e⟩
/-- the def's code object and its table, by the top -/
theorem tab_at {p : Program} {h : Heap} {K : PySem.W.Frag} {mg : Str → Option Value} {x : Str} {f : Addr} {oc : Value} {od : Option Addr} {fd : FuncData} {sl : Array (Option Value)}
    (tab : ∀ d ∈ recsOf p, ∃ a o fd c P, mg d.name = some (.ref a) ∧ h.get? a = some o ∧ o.data = .func fd ∧ fd.code = .ref c ∧ h.IsCode c P #[] ∧ h.TableAt c P #[]) (X : K.In h) (hx : ((recsOf p).any fun d => d.name == x) = true) (hm : mg x = some (.ref f))
    (lk : K.lookup f = some ⟨oc, od, .func fd, sl⟩) : ∃ c P, fd.code = .ref c ∧ PySem.W.CodeHd h c P ∧ h.get? P = some tab0 := by
  obtain ⟨d, hd, e⟩ := List.any_eq_true.mp hx
  obtain rfl : d.name = x := beq_iff_eq.mp e
  obtain ⟨a, o, fd2, c, P, h1, h2, h3, h4, h5, h6⟩ := tab d hd
  cases hm.symm.trans h1
  cases h2.symm.trans (X _ _ lk)
  cases h3
  exact ⟨c, P, h4, PySem.W.CodeHd.of h5 h6, h6.2⟩
theorem walk_gT {l : PySem.W.OpenLaw} {n k : Nat} {q : Program} {loose : List Str} {XP : (Str → Option Value) → Heap → Prop} {YP : World → Heap → Prop} {d : DefRec} {K : Params → PySem.W.Frag} {x : Str}
    (hn : l.most = some n) (hn2 : n ≤ sizeLine) (hdf : d.params.defaults = []) (hr : Room k callerA) (hY : ∀ (w : World) (h : Heap), YP w h → (K w.params).In h) (noT : ∀ w : World, PySem.W.noTabs (K w.params) = true)
    (F : ∀ (w : World) (mg : Str → Option Value) (fa : Addr) (h : Heap), (K w.params).In h → h.Ns mainGlobals mg → mg d.name = some (.ref fa) →
      (∀ d ∈ recsOf q, ∃ a o fd c P, mg d.name = some (.ref a) ∧ h.get? a = some o ∧ o.data = .func fd ∧ fd.code = .ref c ∧ h.IsCode c P #[] ∧ h.TableAt c P #[]) →
      ∃ (fd : FuncData) (cs : List (Addr × Addr)) (sp : Sp), (∀ p ∈ cs, PySem.W.CodeHd h p.1 p.2 ∧ h.get? p.2 = some tab0) ∧ (∀ (s : Shared) (u : Value), BindsTo s fd ⟨[u], []⟩ [(x, u)]) ∧
        (∀ (H : Hp) (a : Addr) (ns : List Int), ns.length ≤ n → (∀ p ∈ cs, H p.2 = some (.tbl #[])) → SqL (K w.params) H a (ns.map V.int) → sp [.ref a] H (fun v _ => v = .bl true) fun _ _ _ => False) ∧
        ∀ base : Heap, (K w.params).In base → base.Ns mainGlobals mg → (∀ p ∈ cs, TabB base mg p.1 p.2) → GOk l.prog w (K w.params) mg base CX0 k fa fd [x] sp) :
    PySem.W.WalkO q loose XP YP l.row.toRowW d [] (fun f vs => PySem.call f vs) :=
  Att.attach_call hn hdf fun w s₀ s₁ mg mb fa o pm cd doc a vs ns G Y ho hd hcd hmg hobj hints hlen hg => by
    obtain ⟨fd, cs, sp, ht, hb, hsp, hF⟩ := F w mg fa _ (hY w _ Y) G.T.g hmg G.T.tab
    exact run_lawT (hY w _ Y) G.T.g G.T.b G.T.builtins G.T.nolimit hg G.T.bmain (fun p hp => (ht p hp).2) (fun p hp => (ht p hp).1) (noT w) hobj hints (Nat.le_trans hlen hn2) hr hF hb fun H hT hS => hsp H a ns hlen hT hS
end TT

set_option Elab.async false
set_option linter.all false
set_option maxRecDepth 100000
set_option maxHeartbeats 4000000
/-! list(range(a, b)) with ends of any size. -/
namespace TT
open PySem PySem.Spec PyProof.Rows L2
section
variable {prog : Program} {w : World} {A : Around} {E : Value → Shared → Prop} {s : Shared}
/-- the list at S takes what the range at r yields, by the iterator for great ends -/
theorem take_long {R : Result → Shared → Prop} {r S : Addr} {a b c : Int} {t u v : Tok} {n k0 : Nat} {res : Value} (hh : A.handled = none) (hr : IsRange s.heap r a b c t u v) (big : Builtin.Range.small a b c = false) (hn : Builtin.Range.rangeSize a b c = n) (hl : n ≤ 2 ^ 24)
    (hS : s.heap.get? S = some { cls := .type "list", data := .seq #[] k0 })
    (done : ∀ h' tk its k, (∀ x o, x ≠ S → s.heap.get? x = some o → h'.get? x = some o) → h'.get? S = some { cls := .type "list", dict := none, data := .seq its k, slots := #[] } → ItemsOf (fun i y => ∃ t, y = .int (a + i * c) t) its n → R (.ok (.ret res)) { s with heap := h', toks := tk }) :
    wpAny (model prog w) A.in1 (Builtin.List.listExtendWith (.ref S) (.ref r) res)
      (fun fin s1 => match fin with | .done f => R (.ok f) s1 | .again c1 => c1.quiet = true ∧ codeAny (model prog w) A c1 R s1) (fun e s1 => R (.error e) s1) s := by
  have apart : S ≠ r := by
    rintro rfl
    have z := congrArg (fun o => o.map Obj.cls) (hr.symm.trans hS)
    simp at z
  have below : S < s.heap.objs.size := Heap.lt_size hS
  have notI : S ≠ s.heap.objs.size := Nat.ne_of_lt below
  have walk := (Walks.longrange (prog := prog) (w := w) (A := A.in1) hh s.heap.objs.size a c n).toS
  have loop : ∀ (h : Heap) (k tk : Nat), IsLongIter h s.heap.objs.size (a + ((0 : Nat) : Int) * c) ((n : Int) - ((0 : Nat) : Int)) c → (∀ x o, x ≠ S → s.heap.get? x = some o → h.get? x = some o) →
      h.get? S = some { cls := .type "list", data := .seq #[] k } → codeAny (model prog w) A (.builtin "list.extend.loop" ⟨[.ref S, .ref s.heap.objs.size, res], []⟩) R { s with heap := h, toks := tk } := fun h k tk it old atS => by
    refine codeAny_extend_loopS walk (by rw [sizeLine_eq]; omega) S (fun m => notI (List.mem_singleton.mp m)) res n 0 _ #[] k rfl (Nat.zero_le _) it atS (ItemsOf.nil _) fun s1 its k1 mv at1 all => ?_
    rw [Moved.eq_with mv]
    refine done s1.heap s1.toks its k1 (fun x o nx e => mv.heap x o (fun m => ?_) (old x o nx e)) at1 all
    rcases List.mem_cons.mp m with z | z
    · exact nx z
    · have lt := Heap.lt_size e
      rw [List.mem_singleton.mp z] at lt
      exact Nat.lt_irrefl _ lt
  have n1 : Builtin.List.listSameRef (.ref S) (.ref r) = false := by simp [Builtin.List.listSameRef, apart]
  have n2 : (Value.type "range" == Value.type "list") = false := by decide
  have n3 : (Value.type "range" == Value.type "tuple") = false := by decide
  unfold Builtin.List.listExtendWith
  refine wpAny_bind (wpAny_typeOf (T := "range") ⟨_, hr, rfl⟩ ?_)
  simp only [n1, n2, n3, Bool.or_false, Bool.false_eq_true, if_false]
  refine wpAny_bind (wpAny_pyIter_longrange hr big (wpAny_bind (wpAny_holding (wpAny_hint_range (n := n) (Heap.get?_push_of_some _ hr) hn hl ?_))))
  have it1 : IsLongIter (s.heap.push { cls := .type "longrange_iterator", data := .fields #[rawInt a, rawInt (Builtin.Range.rangeSize a b c), rawInt c] }) s.heap.objs.size (a + ((0 : Nat) : Int) * c) ((n : Int) - ((0 : Nat) : Int)) c := by
    rw [hn]
    simpa using Heap.get?_push_size _ rfl
  have S1 := Heap.get?_push_of_some { cls := .type "longrange_iterator", data := .fields #[rawInt a, rawInt (Builtin.Range.rangeSize a b c), rawInt c] } hS
  refine wpAny_ite_split (fun _ => ?_) (fun _ => wpAny_pure ⟨plainId_quiet F.plain_extend_loop _, loop _ k0 _ it1 (fun _ _ _ e => Heap.get?_push_of_some _ e) S1⟩)
  refine wpAny_bind (wpAny_rule (wpAny_bind ?_))
  show wpAny _ _ (updateSeq S (·.push .none) >>= fun _ => updateSeq S (·.pop)) _ _ _
  have S2 := Heap.get?_update_self (Obj.mapSeq (·.push Value.none)) S1 rfl
  refine wpAny_bind (wpAny_updateSeq S1 rfl (wpAny_updateSeq (hz := by seq_fits) S2 rfl ?_))
  have S3 := Heap.get?_update_self (Obj.mapSeq (·.pop)) S2 rfl
  refine wpAny_pure ⟨plainId_quiet F.plain_extend_loop _, loop _ _ _ ?_ (fun x o nx e => ?_) S3⟩
  · exact (Heap.get?_update_other _ _ notI).trans ((Heap.get?_update_other _ _ notI).trans it1)
  · exact (Heap.get?_update_other _ _ (Ne.symm nx)).trans ((Heap.get?_update_other _ _ (Ne.symm nx)).trans (Heap.get?_push_of_some _ e))
theorem list_long {Q : Value → Shared → Prop} {r : Addr} {a b c : Int} {t u v : Tok} {n : Nat} (hh : A.handled = none) (hr : IsRange s.heap r a b c t u v) (big : Builtin.Range.small a b c = false) (hn : Builtin.Range.rangeSize a b c = n) (hl : n ≤ 2 ^ 24)
    (done : ∀ h' tk its k, (∀ x o, s.heap.get? x = some o → h'.get? x = some o) → h'.get? s.heap.objs.size = some { cls := .type "list", dict := none, data := .seq its k, slots := #[] } → ItemsOf (fun i y => ∃ t, y = .int (a + i * c) t) its n → Q (.ref s.heap.objs.size) { s with heap := h', toks := tk }) :
    wpAny (model prog w) A (call (.type "list") [.ref r]) Q E s := by
  refine callType_codes (Q₁ := fun obj s1 => obj = .ref s.heap.objs.size ∧ s1 = { s with heap := s.heap.push { cls := .type "list", data := .seq #[] } }) F.called_list (F.typeCall_list_1 _) F.entry_list_init (code_list_new _ ⟨rfl, rfl⟩) fun obj s1 ⟨e1, e2⟩ => ?_
  subst e1 e2
  have S0 : (s.heap.push { cls := .type "list", data := .seq #[] }).get? s.heap.objs.size = some { cls := .type "list", data := .seq #[] } := Heap.get?_push_size _ rfl
  have r0 := Heap.get?_push_of_some { cls := .type "list", data := .seq #[] } hr
  refine ⟨⟨_, S0, rfl⟩, F.args_list_init_2 _ _, ?_⟩
  have apart : r ≠ s.heap.objs.size := Nat.ne_of_lt (Heap.lt_size hr)
  show wpAny _ _ (do let old ← Builtin.List.listItems (.ref s.heap.objs.size); Builtin.List.listUpdate (.ref s.heap.objs.size) (fun _ => #[]); letGo old.toList.reverse; Builtin.List.listExtendWith (.ref s.heap.objs.size) (.ref r) .none) _ _ _
  refine wpAny_bind ?_
  unfold Builtin.List.listItems
  refine wpAny_bind (wpAny_seqItems S0 rfl (wpAny_pure ?_))
  show wpAny _ _ (updateSeq s.heap.objs.size (fun _ => #[]) >>= fun _ => letGo (#[] : Array Value).toList.reverse >>= fun _ => Builtin.List.listExtendWith (.ref s.heap.objs.size) (.ref r) .none) _ _ _
  refine wpAny_bind (wpAny_updateSeq S0 rfl (wpAny_bind (wpAny_letGo ?_)))
  have off : ∀ {x : Addr} {f : Obj → Obj}, x ≠ s.heap.objs.size → ((s.heap.push { cls := .type "list", data := .seq #[] }).update s.heap.objs.size f).get? x = (s.heap.push { cls := .type "list", data := .seq #[] }).get? x := fun nx => Heap.get?_update_other _ _ (Ne.symm nx)
  refine take_long (A := A.in1) (s := { s with heap := (s.heap.push { cls := .type "list", data := .seq #[] }).update s.heap.objs.size (Obj.mapSeq (fun _ => (#[] : Array Value))) }) (S := s.heap.objs.size) hh ((off apart).trans r0) big hn hl (Heap.get?_update_self (Obj.mapSeq (fun _ => (#[] : Array Value))) S0 rfl) fun h' tk its k old at1 all => ?_
  refine ⟨rfl, done h' tk its k (fun x o e => ?_) at1 all⟩
  have nx := Nat.ne_of_lt (Heap.lt_size e)
  exact old x o nx ((off nx).trans (Heap.get?_push_of_some _ e))
end
section
variable {X : Cx} {e : Expr} {te : L2.St → Hp → (Int → Int → Hp → Prop) → Prop}
def tLstRgW (te : L2.St → Hp → (Int → Int → Hp → Prop) → Prop) : TE := fun σ H Q => te σ H fun a b H1 => (b - a).toNat ≤ 2 ^ 24 ∧ ∀ q, H1 q = none → Q (.ref q) (upd H1 q (.lst (rgV a b)))
theorem pe_listRgW {p pos : Pos} (hc : X.calm = true) (hg : Gl X "list") (hm : X.mg "list" = none) (he : PRg X e te) (na : starEach [e] X.env = (false, eval e X.env) :: starEach [] X.env := by rfl) : PE X (.Call (.Name "list" p) [e] [] pos) (tLstRgW te) := by
  constructor
  intro pins s σ H Q I h
  refine Call_ (ld_blt I hg hm boot_list (PyProof.Rows.callWith_type1 (args_cons (thn (he pins s σ H _ I h) fun x s1 ⟨r, a, b, t, u, v, H1, ex, hr, I1, ok, q⟩ => args_nil ?_) na) na))
  subst ex
  have fin : ∀ h' tk its k, (∀ x o, s1.heap.get? x = some o → h'.get? x = some o) → h'.get? s1.heap.objs.size = some { cls := .type "list", dict := none, data := .seq its k, slots := #[] } → ItemsOf (fun i y => ∃ t, y = .int (a + i * 1) t) its (b - a).toNat →
      EP X pins σ Q (.ref s1.heap.objs.size) { s1 with heap := h', toks := tk } := fun h' tk its k old at1 all => by
    refine ⟨.ref s1.heap.objs.size, upd H1 s1.heap.objs.size (.lst (rgV a b)), I1.laid old (Nat.le_refl _) (show ObjOk X.prog X.w _ _ _ (.lst (rgV a b)) from ⟨?_, its.toList, k, vals_rg all, ?_⟩), rfl, q _ (I1.hok.fresh (Nat.le_refl _))⟩
    · rw [rgV_length, sizeLine_eq]
      omega
    · rw [Array.toArray_toList]
      exact at1
  by_cases sm : Builtin.Range.small a b 1 = true
  · exact call_list_range (I1.ok.hd hc) hr sm (rangeSize_nat a b) ok fin
  · exact list_long (I1.ok.hd hc) hr (by simpa using sm) (rangeSize_nat a b) ok fin
end
end TT

set_option Elab.async false
set_option linter.all false
set_option maxRecDepth 100000
set_option maxHeartbeats 4000000
/-! An own operation of two things of one own class. -/
namespace TT
open PySem PySem.Spec PyProof.Rows L2 LamX
/-- x op y, both instances of the class at C; what comes out is a thing -/
def rBinO (C : Addr) (sp : Sp) (E : XK) : R2 := fun x y H Q => ∃ a b, x = V.ref a ∧ y = V.ref b ∧ (∃ dx fs, H a = some (.ins C dx fs)) ∧ (∃ dx fs, H b = some (.ins C dx fs)) ∧ sp [.ref a, .ref b] H (fun v H' => (∃ c, v = V.ref c) ∧ Q v H') E
section
variable {X : Cx} {CX : CXT} {k : Nat} {f C : Addr} {fd : FuncData} {ps : List Str} {sp : Sp} {E : XK}
theorem op_binO {op : Operator} (F : FnOk X.prog X.w X.K X.mg X.base CX k f fd ps sp) (hr : Room k X.A) (hb : Binds X.K fd ps []) (hx : Passes CX X E) (hc : PySem.W.selfFirst X.K C = true)
    (hs : PySem.W.findIn X.K (.ref C) (PySem.dunder op.info.2) = some (some (.ref f))) (hf : PySem.W.isFn X.K (.ref f) = true) : OpR X (binaryOp op) (rBinO C sp E) := by
  intro pins s σ H x y v u Q I rx ry h
  obtain ⟨a, b, rfl, rfl, ⟨dx, fs, ha⟩, ⟨dy, gs, hb'⟩, hq⟩ := h
  obtain rfl : v = Value.ref a := rx
  obtain rfl : u = Value.ref b := ry
  obtain ⟨mA, O, _⟩ := ins_get I.hok ha
  obtain ⟨od, J, _⟩ := O.look
  obtain ⟨mB, O', _⟩ := ins_get I.hok hb'
  obtain ⟨od', J', _⟩ := O'.look
  obtain ⟨m, hF⟩ := I.fr
  refine PySem.W.binop_K hF I.ok.mod.kin J J'.type hc hs hf (wpAny_mono (run_fn (us := [.ref a, .ref b]) (vs := [.ref a, .ref b]) (dvs := []) (ds := []) F hr hb .nil hx I (.cons rfl (.cons rfl .nil)) hq) (fun v' s' z => ?_) fun _ _ z => z)
  obtain ⟨w', H', I', r', ⟨c, rfl⟩, q⟩ := z
  obtain rfl : v' = Value.ref c := r'
  exact ⟨.ref c, H', I', rfl, q⟩
end
end TT

set_option Elab.async false
set_option linter.all false
set_option maxRecDepth 100000
set_option maxHeartbeats 4000000
/-! max of a tuple of two ints; != of a list and []. -/
namespace TT
open PySem PySem.Spec PyProof.Rows L2 LamX
section
variable {X : Cx}
def rNeNil (K : PySem.W.Frag) : R2 := fun x y H Q => ∃ a b xs, x = .ref a ∧ y = .ref b ∧ SqL K H a xs ∧ SqL K H b [] ∧ Q (.bl (!xs.isEmpty)) H
theorem op_neNil (hu : X.A.units < cLine) : OpR X (compareOp .NotEq) (rNeNil X.K) := by
  intro pins s σ H x y v u Q I rx ry h
  obtain ⟨a, b, xs, rfl, rfl, ha, hb, q⟩ := h
  obtain rfl : v = Value.ref a := rx
  obtain rfl : u = Value.ref b := ry
  obtain ⟨its, rv, hl, _⟩ := I.list ha
  obtain ⟨its2, rv2, hl2, _⟩ := I.list hb
  cases rv2
  show wpAny (model X.prog X.w) X.A (richCompare .NotEq (.ref a) (.ref b)) (EP X pins σ Q) X.xe s
  cases rv with
  | nil => exact SeqAt.RcNeAt.lists (e := fun _ => true) hl.isList hl2.isList rfl hu (fun j h1 _ => absurd h1 (by simp)) X.prog X.w X.xe _ ⟨.bl false, H, I, rfl, q⟩
  | cons r rs => exact SeqAt.RcNeAt.lists_lengths hl.isList hl2.isList (by simp) hu X.prog X.w X.xe _ ⟨.bl true, H, I, rfl, q⟩
def rMaxT2 (K : PySem.W.Frag) : List V → Hp → VK → Prop := fun vs H Q => ∃ (a : Addr) (i j : Int), vs = [V.ref a] ∧ SqT K H a [.int i, .int j] ∧ Q (.int (if j > i then j else i)) H
theorem cr_maxT2 (hc : X.calm = true) (hu : X.A.units + 64 < cLine) : CallR X (.builtin "max") (rMaxT2 X.K) := by
  intro pins s σ H vs us Q I r h
  obtain ⟨a, i, j, rfl, hs, q⟩ := h
  obtain ⟨its, rv, ht, _⟩ := I.tuple hs
  rw [Vals.ref1 r]
  cases rv with
  | cons r1 rs =>
    cases rs with
    | cons r2 r3 =>
      cases r3
      obtain ⟨t, rfl⟩ := r1
      obtain ⟨t', rfl⟩ := r2
      refine PySem.W.max_tuple_data (x := .int i) (xs := [.int j]) (I.ok.hd hc) ht (.cons (.int i t) (.cons (.int j t') .nil)) ?_ ?_ fun k v h' tk bs hv hr hk => ?_
      · refine ⟨fun x hx y hy => ?_, fun x hx => ?_⟩
        · simp only [List.mem_cons, List.not_mem_nil, or_false] at hx hy
          rcases hx with rfl | rfl <;> rcases hy with rfl | rfl <;> simp [PySem.W.alike]
        · simp only [List.mem_cons, List.not_mem_nil, or_false] at hx
          rcases hx with rfl | rfl <;> simp
      · simp only [PyData.depthAll, PyData.depth]
        omega
      · have e : PySem.W.maxD (.int i) [.int j] = .int (if j > i then j else i) := by
          have := PySem.W.maxD_ints i [j]
          simp only [List.map_cons, List.map_nil, List.foldl_cons, List.foldl_nil] at this
          rw [this]
          congr 1
          rw [Int.max_def]
          split <;> split <;> omega
        rw [e] at hr
        cases hr with
        | int z t => exact ⟨.int _, H, I.kept hk, ⟨_, rfl⟩, q⟩
end
end TT

set_option Elab.async false
set_option linter.all false
set_option maxRecDepth 100000
set_option maxHeartbeats 400000
/-! own ==, with either answer, of a thing and another one or a tuple; != by way of it. -/
namespace TT
open PySem PySem.Spec PyProof.Rows PySem.SeqAt
section
variable {M : Model} {prog : Program} {w : World} {A : Around} {E : Value → Shared → Prop} {s : Shared} {K : PySem.W.Frag} {x C f L : Addr} {ox : Obj} {od : Option Obj} {b tb : Value} {h₀ : Heap} {m : Str → Option Value}
theorem entry_ne {Q : Fin → Shared → Prop} (hu : A.units < cLine) (X : K.In s.heap) (I : PySem.W.InstAt s.heap x ox C od) (hs : PySem.W.findIn K (.ref C) "__eq__" = some (some (.ref f))) (hf : PySem.W.isFn K (.ref f) = true)
    (h : wpAny M A (call (.ref f) [.ref x, b]) (fun v s' => ∃ k, v = .bool k ∧ Q (.done (.ret (.bool (!k)))) s') E s) : wpAny M A (Builtin.«object.__ne__» ⟨[.ref x, b], []⟩) Q E s := by
  unfold Builtin.«object.__ne__»
  repeat (first | with_reducible refine wpAny_cRoomFor hu ?_ | (with_reducible refine PySem.W.ifBound_K X I hs hf (wpAny_mono h (fun v s' z => ?_) fun _ _ e => e); obtain ⟨k, rfl, q⟩ := z) | wp_step)
  exact q
theorem call_objNe {Q : Value → Shared → Prop} (hu : A.units + 1 < cLine) (X : K.In s.heap) (I : PySem.W.InstAt s.heap x ox C od) (hm : PySem.W.mroIn K C (.type "object") = some true) (hs : PySem.W.findIn K (.ref C) "__eq__" = some (some (.ref f))) (hf : PySem.W.isFn K (.ref f) = true)
    (h : wpAny (model prog w) A.in1 (call (.ref f) [.ref x, b]) (fun v s' => ∃ k, v = .bool k ∧ Q (.bool (!k)) s') E s) :
    wpAny (model prog w) A (call (.builtin "object.__ne__") [.ref x, b]) Q E s :=
  wpAny_call (codeAny_call_builtin F.cmp_object.ne.plain F.cmpEntry_ne (PySem.W.check_slot F.cmpKind_ne F.cmpSplit_ne (I.type.andThen (PySem.W.looks_mroIn X hm)) (F.cmpArgs_ne _ _)
    (entry_ne (A := A.in1) hu X I hs hf (wpAny_mono h (fun v s' z => z) fun _ _ e => e))))
theorem ifBound_objNe {args : List Value} {Q : Option Value → Shared → Prop} (X : K.In s.heap) (I : PySem.W.InstAt s.heap x ox C od) (hs : PySem.W.findIn K (.ref C) "__ne__" = some (some (.builtin "object.__ne__")))
    (h : wpAny M A (call (.builtin "object.__ne__") (.ref x :: args)) (fun v => Q (some v)) E s) : wpAny M A (callSpecialIfBound? (.ref x) "__ne__" args) Q E s := by
  simp only [callSpecialIfBound?, bindSpecialIfBound?]
  refine wpAny_holding (wpAny_bind (wpAny_bind (wpAny_bind (I.type.here ((PySem.W.looks_findIn X hs).here ?_)))))
  refine wpAny_bind (wpAny_askSetting (wpAny_ite ?_))
  have fin : wpAny M A (call (.builtin "object.__ne__") ([.ref x] ++ args) >>= fun v => pure (some v)) Q E s := wpAny_bind (wpAny_mono h (fun v s' h' => wpAny_pure h') fun _ _ h' => h')
  split
  · exact wpAny_bind (wpAny_of_eq (F.cmp_object.ne.bind _) (wpAny_pure (by exact fin)))
  · exact wpAny_tryCatch (wpAny_bind (wpAny_of_eq (F.cmp_object.ne.bind _) (wpAny_pure (by exact fin))))
/-- x != b, the class of x having an own == and no own != -/
theorem ne_K {Q : Value → Shared → Prop} (hu : A.units + 1 < cLine) (X : K.In s.heap) (I : PySem.W.InstAt s.heap x ox C od) (hb : PySem.W.Looks (model prog w) s.heap (typeOf b) tb) (hn : PySem.W.notFirst K C tb = true)
    (hm : PySem.W.mroIn K C (.type "object") = some true) (hne : PySem.W.findIn K (.ref C) "__ne__" = some (some (.builtin "object.__ne__"))) (hs : PySem.W.findIn K (.ref C) "__eq__" = some (some (.ref f))) (hf : PySem.W.isFn K (.ref f) = true)
    (h : wpAny (model prog w) A.in1 (call (.ref f) [.ref x, b]) (fun v s' => ∃ k, v = .bool k ∧ Q (.bool (!k)) s') E s) : wpAny (model prog w) A (richCompare .NotEq (.ref x) b) Q E s := by
  have one : wpAny (model prog w) A (tryCompare (.ref x) "__ne__" b) (fun r s' => ∃ v, r = some v ∧ Q v s') E s := by
    unfold tryCompare
    refine wpAny_bind (ifBound_objNe X I hne (wpAny_mono (call_objNe (Q := fun v s' => ∃ k, v = .bool k ∧ Q v s') hu X I hm hs hf (wpAny_mono h (fun v s' ⟨k, e, q⟩ => ⟨k, e, _, rfl, q⟩) fun _ _ e => e)) (fun v s' z => ?_) fun _ _ e => e))
    obtain ⟨k, rfl, q⟩ := z
    exact wpAny_pure ⟨_, rfl, q⟩
  unfold richCompare
  simp only [oneThing_ref]
  refine wpAny_holding (wpAny_bind (wpAny_cRoomFor (by omega) ?_))
  refine wpAny_bind (I.type.here (wpAny_bind (hb.here ?_)))
  split
  · rename_i q
    have e : PySem.W.subIn K tb (.ref C) = some false := by
      rcases Bool.or_eq_true_iff.mp hn with e | e
      · rw [beq_iff_eq.mp e] at q; simp at q
      · exact beq_iff_eq.mp e
    refine wpAny_bind ((PySem.W.looks_subIn X e).here ?_)
    simp only [Bool.false_eq_true, if_false]
    refine wpAny_bind (wpAny_mono one (fun r s' z => ?_) fun _ _ e => e)
    obtain ⟨v, rfl, hq⟩ := z
    exact wpAny_pure hq
  · refine wpAny_bind (wpAny_pure ?_)
    simp only [Bool.false_eq_true, if_false]
    refine wpAny_bind (wpAny_mono one (fun r s' z => ?_) fun _ _ e => e)
    obtain ⟨v, rfl, hq⟩ := z
    exact wpAny_pure hq
end
open L2 LamX
/-- y is an instance of the class at C, or a tuple -/
inductive Oth (C : Addr) (H : Hp) : V → Prop
  | ins {b dy : Addr} {gs : List (Str × V)} (h : H b = some (.ins C dy gs)) : Oth C H (.ref b)
  | tup {b : Addr} {xs : List V} (h : H b = some (.tup xs)) : Oth C H (.ref b)
/-- x == y by the own __eq__, which answers by a bool -/
def rEqO (C : Addr) (sp : Sp) (E : XK) : R2 := fun x y H Q => ∃ a dx fs, x = V.ref a ∧ H a = some (.ins C dx fs) ∧ Oth C H y ∧ sp [.ref a, y] H (fun v H' => (∃ b, v = V.bl b) ∧ Q v H') E
def rNeO (C : Addr) (sp : Sp) (E : XK) : R2 := fun x y H Q => ∃ a dx fs, x = V.ref a ∧ H a = some (.ins C dx fs) ∧ Oth C H y ∧ sp [.ref a, y] H (fun v H' => ∃ b, v = V.bl b ∧ Q (.bl (!b)) H') E
section
variable {X : Cx} {CX : CXT} {k : Nat} {f C : Addr} {fd : FuncData} {ps : List Str} {sp : Sp} {E : XK}
theorem oth_type {pins : List (Addr × Obj)} {σ : L2.St} {H : Hp} {s : Shared} {M : Model} (I : Inv X pins σ H s) {y : V} {u : Value} (ry : RelV y u) (o : Oth C H y) (ht : PySem.W.notFirst X.K C (.type "tuple") = true) :
    ∃ tb, PySem.W.Looks M s.heap (typeOf u) tb ∧ PySem.W.notFirst X.K C tb = true := by
  cases o with
  | @ins b dy gs h =>
    obtain rfl : u = Value.ref b := ry
    obtain ⟨mB, O, _⟩ := ins_get I.hok h
    obtain ⟨od, J, _⟩ := O.look
    exact ⟨_, J.type, by simp [PySem.W.notFirst]⟩
  | @tup b xs h =>
    obtain rfl : u = Value.ref b := ry
    obtain ⟨its, _, ⟨o, ho, hc, _⟩, _⟩ := I.tuple (SqT.of h)
    exact ⟨_, hc ▸ (PySem.W.Looks.ld ho).andThen .now, ht⟩
theorem op_eqO (F : FnOk X.prog X.w X.K X.mg X.base CX k f fd ps sp) (hr : Room k X.A) (hb : Binds X.K fd ps []) (hx : Passes CX X E) (ht : PySem.W.notFirst X.K C (.type "tuple") = true)
    (hs : PySem.W.findIn X.K (.ref C) "__eq__" = some (some (.ref f))) (hf : PySem.W.isFn X.K (.ref f) = true) : OpR X (compareOp .Eq) (rEqO C sp E) := by
  intro pins s σ H x y v u Q I rx ry h
  obtain ⟨a, dx, fs, rfl, ha, o, hq⟩ := h
  obtain rfl : v = Value.ref a := rx
  obtain ⟨mA, O, _⟩ := ins_get I.hok ha
  obtain ⟨od, J, _⟩ := O.look
  obtain ⟨m, hF⟩ := I.fr
  obtain ⟨tb, lt, hn⟩ := oth_type (M := model X.prog X.w) I ry o ht
  show wpAny (model X.prog X.w) X.A (richCompare .Eq (.ref a) u) (EP X pins σ Q) X.xe s
  refine PySem.W.cmp_K (op := .Eq) hr.units0 hF I.ok.mod.kin J lt hn hs hf (wpAny_mono (run_fn (us := [.ref a, u]) (vs := [.ref a, y]) (dvs := []) (ds := []) F hr hb .nil hx I (.cons rfl (.cons ry .nil)) hq) (fun v' s' z => ?_) fun _ _ z => z)
  obtain ⟨w', H', I', r', ⟨c, rfl⟩, q⟩ := z
  obtain rfl : v' = Value.bool c := r'
  exact ⟨.bl c, H', I', rfl, q⟩
theorem op_neO (F : FnOk X.prog X.w X.K X.mg X.base CX k f fd ps sp) (hr : Room k X.A.in1) (hu : X.A.units + 64 < cLine) (hb : Binds X.K fd ps []) (hx : Passes CX X E) (ht : PySem.W.notFirst X.K C (.type "tuple") = true)
    (hm : PySem.W.mroIn X.K C (.type "object") = some true) (hne : PySem.W.findIn X.K (.ref C) "__ne__" = some (some (.builtin "object.__ne__")))
    (hs : PySem.W.findIn X.K (.ref C) "__eq__" = some (some (.ref f))) (hf : PySem.W.isFn X.K (.ref f) = true) : OpR X (compareOp .NotEq) (rNeO C sp E) := by
  intro pins s σ H x y v u Q I rx ry h
  obtain ⟨a, dx, fs, rfl, ha, o, hq⟩ := h
  obtain rfl : v = Value.ref a := rx
  obtain ⟨mA, O, _⟩ := ins_get I.hok ha
  obtain ⟨od, J, _⟩ := O.look
  obtain ⟨tb, lt, hn⟩ := oth_type (M := model X.prog X.w) I ry o ht
  show wpAny (model X.prog X.w) X.A (richCompare .NotEq (.ref a) u) (EP X pins σ Q) X.xe s
  refine ne_K (by omega) I.kIn J lt hn hm hne hs hf ?_
  have e0 : Env0 X.prog X.w X.K X.mg X.base X.A.in1 X.stack s H := by
    have e := I.env0
    exact ⟨e.frames, e.mod, e.bs, e.bsz, e.funs, e.frf, e.hok, e.bare⟩
  have hl := F.len _ _ _ _ hq
  have r2 : Vals [V.ref a, y] [Value.ref a, u] := .cons rfl (.cons ry .nil)
  refine wpAny_call (codeAny_mono (F.run X.A.in1 X.stack s H ⟨[.ref a, u], []⟩ [.ref a, u] [.ref a, y] _ E hr e0 (by
    have := hb s [.ref a, u] I.kIn (by simpa using hl)
    simpa using this) r2 hq) fun r s' hq => ?_)
  cases r with
  | error e => exact hx pins σ H s e s' I hq
  | ok fl =>
    cases fl with
    | ret w =>
      obtain ⟨z, H', I', rz, ⟨c, ez, q⟩⟩ := I.after hq
      subst ez
      obtain rfl : w = Value.bool c := rz
      exact ⟨c, rfl, .bl (!c), H', I', rfl, q⟩
    | next => exact False.elim hq
    | brk => exact False.elim hq
    | cont => exact False.elim hq
end
end TT

set_option Elab.async false
set_option linter.all false
set_option maxRecDepth 100000
set_option maxHeartbeats 4000000
/-! An own operation whose right side is any value of a built-in type. -/
namespace TT
open PySem PySem.Spec PyProof.Rows
section
variable {pr : Program} {wd : World} {ar : Around} {er : Value → Shared → Prop} {st : Shared} {K : PySem.W.Frag} {x C L f : Addr} {ob : Obj} {xd : Option Obj} {y : Value} {T : String} {hb : Heap} {mm : Str → Option Value}
theorem own_op {op : Operator} {fo ro : Option Value} {Q : Value → Shared → Prop} (F : Fr hb L st.heap mm) (KI : K.In hb) (J : PySem.W.InstAt st.heap x ob C xd) (ty : PySem.W.Looks (model pr wd) st.heap (typeOf y) (.type T)) (first : PySem.W.selfFirst K C = true)
    (own : PySem.W.findIn K (.ref C) (PySem.dunder op.info.2) = some (some (.ref f))) (fn : PySem.W.isFn K (.ref f) = true) (noR : PySem.W.findIn K (.ref C) (dunderR op.info.2) = some none)
    (left : PySem.W.findIn K (.type T) (PySem.dunder op.info.2) = some fo) (right : PySem.W.findIn K (.type T) (dunderR op.info.2) = some ro) (apart : PySem.W.subIn K (.type T) (.ref C) = some false)
    (go : wpAny (model pr wd) ar (call (.ref f) [.ref x, y]) (PySem.W.CmpBack Q) er st) : wpAny (model pr wd) ar (binaryOp op (.ref x) y) Q er st := by
  have KS := KI.keeps F.keep
  obtain ⟨cd, mr, c1, c2⟩ := PySem.W.ksp_first first
  rcases ei : op.info with ⟨sym, nm⟩
  rw [ei] at own noR left right
  dsimp only at own noR left right
  have try1 := PySem.W.ksp_try KS J own fn go
  obtain ⟨hp, g, d, tk, os⟩ := st
  have l1 : PySem.W.Looks (model pr wd) hp (typeOf (.ref x)) (.ref C) := J.type
  have l2 : PySem.W.Looks (model pr wd) hp (typeOf y) (.type T) := ty
  have l3 : PySem.W.Looks (model pr wd) hp (fillsNumberSlot (.ref C) nm) true := PySem.W.fills_K KS c1 c2 own
  have l4 : PySem.W.Looks (model pr wd) hp (fillsNumberSlot (.type T) nm) _ := PySem.W.ksp_fillsT KS left right
  have l5 : PySem.W.Looks (model pr wd) hp (isSubtype (.type T) (.ref C)) false := PySem.W.looks_subIn KS apart
  have l6 : PySem.W.Looks (model pr wd) hp (numberSlotInPython (.ref C) nm) true := PySem.W.ksp_inPy KS own noR (.inl rfl)
  have l7 : PySem.W.Looks (model pr wd) hp (numberSlotInPython (.type T) nm) false := PySem.W.Looks.of_pure rfl
  have l8 : PySem.W.Looks (model pr wd) hp (typeLookup (.type T) (dunderR nm)) ro := PySem.W.looks_findIn KS right
  generalize ((fo.isSome && !isSeqSlot fo) || (ro.isSome && !isSeqSlot ro)) = rs at l4
  have ne : (Value.ref C == Value.type T) = false := Bool.eq_false_iff.mpr fun z => by cases beq_iff_eq.mp z
  simp only [binaryOp, ei]
  refine wpAny_holding (wpAny_bind ?_)
  unfold binaryOp1
  refine wpAny_bind (l1.at (wpAny_bind (l2.at (wpAny_bind (l3.at ?_)))))
  simp only [ne, Bool.false_eq_true, if_false]
  cases rs
  all_goals
    ksp_lk
    refine wpAny_mono try1 (fun r s' z => ?_) fun _ _ z => z
    obtain ⟨v, rfl, q⟩ := z
    ksp_lk
    exact q
end
open L2 LamX
/-- the built-in type of a value, by its name -/
inductive Ty (H : Hp) : V → String → Prop
  | non : Ty H .non "NoneType"
  | bl (b : Bool) : Ty H (.bl b) "bool"
  | int (i : Int) : Ty H (.int i) "int"
  | str (x : Str) : Ty H (.str x) "str"
  | tup {a : Addr} {xs : List V} (h : H a = some (.tup xs)) : Ty H (.ref a) "tuple"
  | lst {a : Addr} {xs : List V} (h : H a = some (.lst xs)) : Ty H (.ref a) "list"
  | dK {a : Addr} {kvs : List (Key × V)} (h : H a = some (.dK kvs)) : Ty H (.ref a) "dict"
/-- what the operation's rule asks of that type -/
def RightT (K : PySem.W.Frag) (op : Operator) (C : Addr) (T : String) : Prop := ∃ fo ro, PySem.W.findIn K (.type T) (PySem.dunder op.info.2) = some fo ∧ PySem.W.findIn K (.type T) (dunderR op.info.2) = some ro ∧ PySem.W.subIn K (.type T) (.ref C) = some false
/-- x op y, x an instance of the class at C, y of a built-in type; what comes out is a thing -/
def rBinV (K : PySem.W.Frag) (op : Operator) (C : Addr) (sp : Sp) (E : XK) : R2 := fun x y H Q => ∃ a dx fs T, x = V.ref a ∧ H a = some (.ins C dx fs) ∧ Ty H y T ∧ RightT K op C T ∧ sp [.ref a, y] H (fun v H' => (∃ c, v = V.ref c) ∧ Q v H') E
section
variable {X : Cx} {CX : CXT} {k : Nat} {f C : Addr} {fd : FuncData} {ps : List Str} {sp : Sp} {E : XK}
theorem Ty.looks {M : Model} {pins : List (Addr × Obj)} {σ : L2.St} {H : Hp} {s : Shared} {y : V} {u : Value} {T : String} (I : Inv X pins σ H s) (ry : RelV y u) (t : Ty H y T) : PySem.W.Looks M s.heap (typeOf u) (.type T) := by
  cases t with
  | non =>
    obtain rfl : u = Value.none := ry
    exact PySem.W.Looks.of_pure rfl
  | bl b =>
    obtain rfl : u = Value.bool b := ry
    exact PySem.W.Looks.of_pure rfl
  | int i =>
    obtain ⟨t, rfl⟩ := (show ∃ t, u = Value.int i t from ry)
    exact PySem.W.Looks.of_pure rfl
  | str x =>
    obtain ⟨t, rfl⟩ := (show ∃ t, u = Value.str x t from ry)
    exact PySem.W.Looks.of_pure rfl
  | @tup a xs h =>
    obtain rfl : u = Value.ref a := ry
    obtain ⟨its, _, ⟨o, ho, hc, _⟩, _⟩ := I.tuple (SqT.of h)
    exact hc ▸ (PySem.W.Looks.ld ho).andThen .now
  | @lst a xs h =>
    obtain rfl : u = Value.ref a := ry
    obtain ⟨its, _, ⟨o, _, ho, hc, _⟩, _⟩ := I.list (SqL.of h)
    exact hc ▸ (PySem.W.Looks.ld ho).andThen .now
  | @dK a kvs h =>
    obtain rfl : u = Value.ref a := ry
    have z := I.hok _ _ h
    unfold ObjOk at z
    obtain ⟨_, _, _, _, o, _, _, ho, ex, _⟩ := z
    exact ex.1 ▸ (PySem.W.Looks.ld ho).andThen .now
theorem op_binV {op : Operator} (F : FnOk X.prog X.w X.K X.mg X.base CX k f fd ps sp) (hr : Room k X.A) (hb : Binds X.K fd ps []) (hx : Passes CX X E) (hc : PySem.W.selfFirst X.K C = true)
    (hs : PySem.W.findIn X.K (.ref C) (PySem.dunder op.info.2) = some (some (.ref f))) (hf : PySem.W.isFn X.K (.ref f) = true) (hn : PySem.W.findIn X.K (.ref C) (dunderR op.info.2) = some none) : OpR X (binaryOp op) (rBinV X.K op C sp E) := by
  intro pins s σ H x y v u Q I rx ry h
  obtain ⟨a, dx, fs, T, rfl, ha, ty, ⟨fo, ro, t1, t2, t3⟩, hq⟩ := h
  obtain rfl : v = Value.ref a := rx
  obtain ⟨mA, O, _⟩ := ins_get I.hok ha
  obtain ⟨od, J, _⟩ := O.look
  obtain ⟨m, hF⟩ := I.fr
  refine own_op hF I.ok.mod.kin J (Ty.looks I ry ty) hc hs hf hn t1 t2 t3 (wpAny_mono (run_fn (us := [.ref a, u]) (vs := [.ref a, y]) (dvs := []) (ds := []) F hr hb .nil hx I (.cons rfl (.cons ry .nil)) hq) (fun v' s' z => ?_) fun _ _ z => z)
  obtain ⟨w', H', I', r', ⟨c, rfl⟩, q⟩ := z
  obtain rfl : v' = Value.ref c := r'
  exact ⟨.ref c, H', I', rfl, q⟩
end
end TT

set_option Elab.async false
set_option linter.all false
set_option maxRecDepth 100000
set_option maxHeartbeats 4000000
/-! Texts: numbers read, words joined and split. -/
namespace TT
open PySem PySem.Builtin PySem.Builtin.Str PySem.StrLaws PySem.Spec PyProof.Rows L2 TL
theorem at_zero_iff (x y : Str) : At x y x.length 0 ↔ Txt.startswith x y = true := by
  unfold Txt.startswith
  rw [Bool.and_eq_true, decide_eq_true_eq]
  exact Iff.rfl
theorem starts_one (x : Str) (c : Nat) : Txt.startswith x ⟨#[c]⟩ = ((tl x).head? == some c) := by
  have h := (at_zero_iff x ⟨#[c]⟩).symm.trans (at_iff (x := x) (y := ⟨#[c]⟩) (by simp) 0)
  rw [List.drop_zero] at h
  have e : pre (tl (⟨#[c]⟩ : Str)) (tl x) = ((tl x).head? == some c) := by
    show ((tl x).take 1 == [c]) = _
    cases tl x with
    | nil => simp
    | cons a l => simp
  rw [e] at h
  exact Bool.eq_iff_iff.mpr h
theorem dig_ascii : ∀ c, c < 128 → Unicode.isDigit c = (decide (48 ≤ c) && decide (c ≤ 57)) := by decide +kernel
/-- are these digits, one or more? -/
def allDig (l : List Nat) : Bool := !l.isEmpty && l.all fun c => decide (48 ≤ c) && decide (c ≤ 57)
theorem allDig_iff {l : List Nat} : allDig l = true ↔ l ≠ [] ∧ NumText.AllDigits l := by
  unfold allDig NumText.AllDigits
  simp [List.all_eq_true]
theorem isdigit_ascii (x : Str) (h : Txt.isascii x = true) : Txt.isdigit x = allDig (tl x) := by
  unfold Txt.isascii at h
  unfold Txt.isdigit allDig
  rw [← Array.all_toList] at h ⊢
  have e1 : decide (x.length > 0) = !(tl x).isEmpty := by
    rw [len_tl]
    cases tl x <;> simp
  rw [e1]
  congr 1
  rw [Bool.eq_iff_iff, List.all_eq_true, List.all_eq_true]
  rw [List.all_eq_true] at h
  refine ⟨fun a c hc => ?_, fun a c hc => ?_⟩
  · rw [← dig_ascii c (by simpa using h c hc)]
    exact a c hc
  · rw [dig_ascii c (by simpa using h c hc)]
    exact a c hc
theorem ascii_of {x : Str} (h : allDig (tl x) = true) : Txt.isascii x = true := by
  obtain ⟨_, h⟩ := allDig_iff.mp h
  unfold Txt.isascii
  rw [← Array.all_toList, List.all_eq_true]
  intro c hc
  have := h c hc
  simp
  omega
/-- the digits of a word -/
def digs (w : Str) : List Nat := if (tl w).head? = some 45 then (tl w).drop 1 else tl w
/-- the number that Python writes as this word -/
def numRead (w : Str) : Option Int :=
  if allDig (digs w) = true then
    if (digs w).head? = some 48 ∧ tl w ≠ [48] then none
    else some (if (tl w).head? = some 45 then -((NumText.digitsVal (digs w) : Nat) : Int) else ((NumText.digitsVal (digs w) : Nat) : Int))
  else none
theorem numL_head {n : Nat} (h : 1 ≤ n) : (numL n).head? ≠ some 48 := by
  induction n using Nat.strongRecOn with
  | _ n ih =>
    by_cases c : n < 10
    · rw [numL_lt c]
      simp
      omega
    · rw [numL_step (by omega)]
      have := ih (n / 10) (by omega) (by omega)
      cases e : numL (n / 10) with
      | nil => exact absurd e (numL_ne _)
      | cons a l =>
        rw [e] at this
        simpa using this
theorem numL_not45 (n : Nat) : (numL n).head? ≠ some 45 := by
  cases e : numL n with
  | nil => simp
  | cons a l =>
    have := numL_digits n a (by rw [e]; exact List.mem_cons_self)
    simp
    omega
theorem numL_allDig (n : Nat) : allDig (numL n) = true := allDig_iff.mpr ⟨numL_ne n, numL_digits n⟩
theorem numRead_nat (n : Nat) : numRead (Str.ofString (toString ((n : Nat) : Int))) = some (n : Int) := by
  unfold numRead digs
  rw [tl_num, if_neg (numL_not45 n), numL_allDig, if_pos rfl, if_neg (numL_not45 n), numL_val]
  rw [if_neg]
  rintro ⟨h1, h2⟩
  by_cases c : 1 ≤ n
  · exact numL_head c h1
  · have : n = 0 := by omega
    subst this
    exact h2 (numL_lt (by decide))
theorem numRead_neg {n : Nat} (h : 1 ≤ n) : numRead (Str.ofString "-" ++ Str.ofString (toString ((n : Nat) : Int))) = some (-(n : Int)) := by
  have e : tl (Str.ofString "-" ++ Str.ofString (toString ((n : Nat) : Int))) = 45 :: numL n := by
    rw [tl_append, tl_num] <;> rfl
  unfold numRead digs
  rw [e]
  simp only [List.head?_cons, if_true, List.drop_one, List.tail_cons]
  rw [numL_allDig, if_pos rfl, if_neg (fun z => numL_head h z.1), numL_val]
/-! the digits' value -/
theorem val_zero (l : List Nat) : NumText.digitsVal (48 :: l) = NumText.digitsVal l := rfl
theorem int_zero {d : Str} (h : allDig (tl d) = true) (hl : d.length ≤ 600) : intText? (Str.ofString "0" ++ d) = some ((NumText.digitsVal (tl d) : Nat) : Int) := by
  obtain ⟨h1, h2⟩ := allDig_iff.mp h
  have e : tl (Str.ofString "0" ++ d) = 48 :: tl d := by
    rw [tl_append] <;> rfl
  have z := PySem.intText_digits (x := Str.ofString "0" ++ d) (by
    show NumText.AllDigits (tl _)
    rw [e]
    intro c hc
    rcases List.mem_cons.mp hc with rfl | hc
    · decide
    · exact h2 c hc) (by show tl _ ≠ []; rw [e]; simp) (by rw [len_tl, e, List.length_cons, ← len_tl]; omega)
  rw [show (Str.ofString "0" ++ d).cps.toList = 48 :: tl d from e, val_zero] at z
  exact z
theorem cut_one (w : Str) : tl (cutS w (some 1) none) = (tl w).drop 1 := by
  have hl := len_tl w
  unfold cutS
  show (((tl w).drop (HT.sIx w.length 0 (some 1))).take (HT.sIx w.length w.length none - HT.sIx w.length 0 (some 1))) = _
  have e1 : HT.sIx w.length w.length none = w.length := rfl
  have e2 : HT.sIx w.length 0 (some 1) = min 1 w.length := by
    show (if (1 : Int) < 0 then ((1 : Int) + (w.length : Int)).toNat else min (1 : Int).toNat w.length) = _
    rw [if_neg (by decide)]
    rfl
  rw [e1, e2]
  by_cases c : w.length = 0
  · have : tl w = [] := List.length_eq_zero_iff.mp (by omega)
    rw [this]
    simp
  · have : min 1 w.length = 1 := by omega
    rw [this]
    exact List.take_of_length_le (by rw [List.length_drop]; omega)
theorem str_one (c : Nat) (x : Str) : (tl x = [c]) ↔ x = ⟨#[c]⟩ := ⟨fun h => ext_tl h, fun h => by rw [h]⟩
theorem str_eq_tl {x y : Str} : decide (V.str x = V.str y) = decide (tl x = tl y) := by
  by_cases c : x = y
  · subst c
    simp
  · rw [decide_eq_false (fun z => c (V.str.inj z)), decide_eq_false (fun z => c (ext_tl z))]
/-! words -/
theorem tl_str (s : String) : tl (Str.ofString s) = s.toList.map Char.toNat := by
  rw [Str.ofString_eq_toList]
theorem blank_free {n : Nat} : 32 ∉ numL n := numL_free (.inl (by decide))
end TT

set_option Elab.async false
set_option linter.all false
set_option maxRecDepth 100000
set_option maxHeartbeats 4000000
/-! A static method called by way of its class. -/
namespace TT
open PySem PySem.Spec PyProof.Rows L2 LamX
/-- C.m is a static method: its record at p, its def at g -/
structure CSta (K : PySem.W.Frag) (C : Addr) (mc : Value) (m : Str) (p g : Addr) : Prop where
  found : PySem.W.findCls K (.ref C) mc m = some (.get (.builtin "staticmethod.__get__") (.ref p) .none (.ref C))
  holds : ∃ more, PySem.W.recIn K p "staticmethod" = some (.ref g :: more)
  kept : PySem.W.keepIn K (.ref g) = true
def tStat (C : Addr) (sp : Sp) (E : XK) (to : TE) (ta : TA) : TE := fun σ H Q => to σ H fun x H1 => x = .ref C ∧ ta σ H1 fun vs H2 => sp (vs ++ []) H2 Q E
section
variable {X : Cx} {CX : CXT} {k : Nat} {C p g : Addr} {mc : Value} {fd : FuncData} {ps : List Str} {sp : Sp} {E : XK} {o e : Expr} {es : List Expr} {m : Str} {pos apos : Pos} {to : TE} {ta : TA} {pl : Sem Bool}
theorem sta_attr {pins : List (Addr × Obj)} {σ : L2.St} {H : Hp} {s : Shared} {A : Around} {b : Bool} {ER : Value → Shared → Prop} {Q : Value → Shared → Prop} (I : Inv X pins σ H s) (rd : ClX.CRead X.K C mc) (c : CSta X.K C mc m p g)
    (go : ∀ s1, Inv X pins σ H s1 → Q (.ref g) s1) : wpAny (model X.prog X.w) A (getAttr (.ref C) m b) Q ER s := by
  obtain ⟨more, hp⟩ := c.holds
  refine PySem.W.cls_bind I.kIn rd.rd c.found (wpAny_call ?_)
  exact PySem.W.sm_get (s := { s with toks := s.toks + 1 }) I.kIn hp (PySem.W.handed_on rfl (go _ (I.tok _)))
theorem pe_stat (ho : PE X o to) (rd : ClX.CRead X.K C mc) (c : CSta X.K C mc m p g) (F : FnOk X.prog X.w X.K X.mg X.base CX k g fd ps sp) (hr : Room k X.A) (hb : Binds X.K fd ps []) (hx : Passes CX X E) (ha : PA X (e :: es) ta)
    (star : starEach (e :: es) X.env = (false, eval e X.env) :: starEach es X.env := by rfl) (plain : (backTo pos (starEach es X.env)).any (·.1) = false := by rfl)
    (runs : eval (.Call (.Attribute o m apos) (e :: es) [] pos) X.env = (do
      let w0 ← eval o X.env
      standAt apos.atName
      let (fn, ahead) ← holding [w0] (getMethod w0 m pl)
      callWith pos fn ahead (backTo pos (starEach (e :: es) X.env)) (backToKw pos (keywordEach [] X.env))) := by rfl) :
    PE X (.Call (.Attribute o m apos) (e :: es) [] pos) (tStat C sp E to ta) := by
  constructor
  intro pins s σ H Q I h
  refine PySem.W.methodCall_KW (pl := pl) (thn (ho.run pins s σ H _ I h) fun u s1 z => ?_) runs
  obtain ⟨x, H1, I1, rx, ex, q⟩ := z
  subst ex
  obtain rfl : u = Value.ref C := rx
  refine PySem.W.method_cls I1.kIn rd.ga (sta_attr I1 rd c fun s2 I2 => ?_)
  refine PySem.W.callWith_K (h₀ := X.base) I2.ok.mod.kin c.kept (thn (ha.run pos pins s2 σ H1 _ I2 q) fun us s3 y => ?_) star plain
  obtain ⟨vs, H2, I3, rv, q2⟩ := y
  exact ⟨I3.kIn, run_fn F hr hb .nil hx I3 rv q2⟩
end
end TT

set_option Elab.async false
set_option linter.all false
set_option maxRecDepth 100000
set_option maxHeartbeats 4000000
/-! repr of a tuple whose items may be odd things (dicts among them). -/
namespace TT
open PySem PySem.Spec PyProof.Rows L2
theorem repr_tup {prog : Program} {w : World} {h₀ : Heap} {a : Addr} {o : Obj} {vs : Array Value} {n : Nat} {xs : List PyData} {as : List Addr} {A : Around} {E : Value → Shared → Prop} {s : Shared} {Q : Value → Shared → Prop}
    (at_a : h₀.get? a = some o) (is_t : o.cls = .type "tuple") (dat : o.data = .seq vs n) (its : ReadsAll h₀ vs.toList xs as)
    (sh : PyData.showableAll xs = true) (out : PyData.hasDictAll xs = true → ¬ sysModules ∈ as) (gd : A.guards = some []) (un : A.units + ((PyData.tuple xs).depth + 1) < cLine)
    (low : ∀ b u, h₀.get? b = some u → s.heap.get? b = some u)
    (k : ∀ h' u tk, (∀ b o, s.heap.get? b = some o → h'.get? b = some o) → Q (.str (PyData.tuple xs).shown u) { s with heap := h', toks := tk })
    (len : (PyData.tuple xs).shown.length ≤ sizeLine) : wpAny (model prog w) A (call (.builtin "repr") [.ref a]) Q E s := by
  have short : (tupleText (PyData.shownAll xs)).length ≤ sizeLine := by
    have := len
    rwa [PyData.shown] at this
  obtain ⟨bs, below, each⟩ := ReprAllK.of_readsAll (prog := prog) (w := w) its sh out fun t ht => Nat.le_trans (tupleText_mem_le ht) short
  have apart : a ∉ bs := by
    refine not_mem_of_deeper (Reads.tuple at_a is_t dat its) ?_ below
    rw [PyData.depth]
    omega
  have dep : A.in1.units + (PyData.tuple xs).depth < cLine := by
    show A.units + 1 + _ < cLine
    omega
  refine call_repr_slot (by omega) (show s.TypeIs (.ref a) "tuple" from ⟨o, low _ _ at_a, is_t⟩) F.slot_tuple_repr ?_
  rw [PyData.depth] at dep
  have k' := k
  simp only [PyData.shown] at k'
  exact call_tuple_reprK at_a is_t dat apart each gd (fun b _ => Clear.nil b) dep low (fun h' u tk hk => ⟨_, _, rfl, k' h' u tk hk⟩) short
/-- flat data -/
inductive Flat0 : V → PyData → Prop
  | non : Flat0 .non .none
  | bl (b : Bool) : Flat0 (.bl b) (.bool b)
  | int (i : Int) : Flat0 (.int i) (.int i)
  | str (x : Str) : Flat0 (.str x) (.str x)
/-- each item is flat, or it is the one odd thing v, d -/
inductive DpDs (v : V) (d : PyData) : List V → List PyData → Prop
  | nil : DpDs v d [] []
  | fl {x : V} {e : PyData} {vs : List V} {ds : List PyData} (h : Flat0 x e) (t : DpDs v d vs ds) : DpDs v d (x :: vs) (e :: ds)
  | it {vs : List V} {ds : List PyData} (t : DpDs v d vs ds) : DpDs v d (v :: vs) (d :: ds)
theorem Flat0.reads {v : V} {d : PyData} {u : Value} {h : Heap} (f : Flat0 v d) (r : RelV v u) : Reads h u d [] ∧ d.hasDict = false := by
  cases f with
  | non => obtain rfl : u = .none := r; exact ⟨.none, by simp [PyData.hasDict]⟩
  | bl b => obtain rfl : u = .bool b := r; exact ⟨.bool _, by simp [PyData.hasDict]⟩
  | int i => obtain ⟨t, rfl⟩ : ∃ t, u = .int i t := r; exact ⟨.int _ _, by simp [PyData.hasDict]⟩
  | str x => obtain ⟨t, rfl⟩ : ∃ t, u = .str x t := r; exact ⟨.str _ _, by simp [PyData.hasDict]⟩
theorem DpDs.reads {X : Cx} {pins : List (Addr × Obj)} {σ : L2.St} {H : Hp} {s : Shared} {v : V} {d : PyData} (I : Inv X pins σ H s) (o : DpD X.K H v d) : ∀ {vs : List V} {ds : List PyData} {us : List Value}, DpDs v d vs ds → Vals vs us →
    ∃ as, ReadsAll s.heap us ds as ∧ (PyData.hasDictAll ds = true → d.hasDict = true) ∧ (d.hasDict = true → ¬ sysModules ∈ as)
  | _, _, _, .nil, .nil => ⟨[], .nil, fun e => by simp [PyData.hasDictAll] at e, fun _ m => by cases m⟩
  | _, _, _, .fl h t, .cons r rs => by
    obtain ⟨h1, h2⟩ := h.reads (h := s.heap) r
    obtain ⟨bs, h3, h4, h5⟩ := DpDs.reads I o t rs
    refine ⟨[] ++ bs, .cons h1 h3, fun e => ?_, h5⟩
    simp only [PyData.hasDictAll, h2, Bool.false_or] at e
    exact h4 e
  | _, _, _, .it t, .cons r rs => by
    obtain ⟨as, h1, h2⟩ := DpD.reads I o r
    obtain ⟨bs, h3, h4, h5⟩ := DpDs.reads I o t rs
    refine ⟨as ++ bs, .cons h1 h3, fun e => ?_, fun e m => (List.mem_append.mp m).elim (h2 e) (h5 e)⟩
    simp only [PyData.hasDictAll, Bool.or_eq_true] at e
    exact e.elim id h4
section
variable {X : Cx}
/-- repr(x): an odd thing, or a tuple of such -/
inductive RpT (K : PySem.W.Frag) (H : Hp) : V → PyData → Prop
  | one {v : V} {d : PyData} (h : DpD K H v d) : RpT K H v d
  | tup {t : Addr} {v : V} {d : PyData} {xs : List V} {ds : List PyData} (ht : H t = some (.tup xs)) (o : DpD K H v d) (h : DpDs v d xs ds) : RpT K H (.ref t) (.tuple ds)
def rReprT (K : PySem.W.Frag) : List V → Hp → VK → Prop := fun xs H Q => ∃ (x : V) (d : PyData), xs = [x] ∧ RpT K H x d ∧ d.showable = true ∧ d.depth ≤ 60 ∧ d.shown.length ≤ sizeLine ∧ Q (.str d.shown) H
theorem call_reprT (hg : X.A.guards = some []) (hu : X.A.units + 64 < cLine) : CallR X (.builtin "repr") (rReprT X.K) := by
  intro pins s σ H xs us Q I r h
  obtain ⟨x, d, rfl, hd, sh, dep, hz, q⟩ := h
  cases hd with
  | one h => exact call_reprS hg hu pins s σ H _ us Q I r ⟨x, d, rfl, .one h, sh, dep, hz, q⟩
  | @tup t v d ys ds ht o h =>
    match us, r with
    | [u], .cons r1 .nil =>
      obtain rfl : u = Value.ref t := r1
      obtain ⟨_, its, vs, ob, g, c, k, dt⟩ : ObjOk X.prog X.w H s.heap t (.tup ys) := I.hok _ _ ht
      obtain ⟨as, h1, h2, h3⟩ := DpDs.reads I o h vs
      have sh' : PyData.showableAll ds = true := by rwa [PyData.showable] at sh
      exact repr_tup g c dt (by rw [List.toList_toArray]; exact h1) sh' (fun e => h3 (h2 e)) hg (by omega) (fun _ _ e => e) (fun h' u tk hk => ⟨.str _, H, I.kept hk, ⟨_, rfl⟩, q⟩) hz
end
end TT

set_option Elab.async false
set_option linter.all false
set_option maxRecDepth 100000
set_option maxHeartbeats 4000000
/-! not in a tuple: of things of an own class with ==, of data; dict of a tuple of pairs. -/
namespace GQ
open PySem PySem.SeqAt
open AutoSeq1 (wpAny_loadPart')
open MeetsSeq MeetsSeq2 MeetsSeq3 SeqRoads2
section
variable {prog : Program} {w : World} {A : Around} {R : Result → Shared → Prop} {E : Value → Shared → Prop} {s : Shared}
/-- the items are asked one by one; what holds stays -/
theorem tuple_holdsG (l : Addr) (items : Array Value) (n : Nat) (dd : Option Addr) (sl : Array (Option Value)) (x : Value) (e : Value → Bool) (I : Shared → Prop)
    (turn : ∀ y ∈ items, ∀ s, I s → wpAny (model prog w) A.in1 (eqBool y x) (fun r s' => r = e y ∧ I s') (fun e s' => R (.error e) s') s)
    (fin : ∀ s, I s → R (.ok (.ret (.bool (items.any e)))) s) {s : Shared} (hl : s.heap.get? l = some { cls := .type "tuple", dict := dd, data := .seq items n, slots := sl }) (h : I s) :
    wpAny (model prog w) A.in1 (Builtin.«tuple.__contains__» ⟨[.ref l, x], []⟩) (FinOf prog w A R) (fun e s' => R (.error e) s') s := by
  have h0 := h
  obtain ⟨hp, g, d, tk, os⟩ := s
  wp_walk using wpAny_loadPart' hl, wpAny_forIn_array _ (fun rest b s' => b.1 = none ∧ I s' ∧ (∀ y, y ∈ rest → y ∈ items) ∧ items.any e = rest.any e) _
  case turn =>
    rintro y rest b s' ⟨hb, hI, hmem, hR⟩
    refine wpAny_bind (wpAny_mono (turn y (hmem y (List.mem_cons_self ..)) s' hI) (fun r s2 q2 => ?_) fun _ _ x => x)
    obtain ⟨rfl, q2⟩ := q2
    rw [List.any_cons] at hR
    cases hy : e y with
    | true =>
      rw [hy, Bool.true_or] at hR
      have q3 := fin s2 q2
      rw [hR] at q3
      wp_walk
      exact q3
    | false =>
      rw [hy, Bool.false_or] at hR
      wp_walk
      exact ⟨rfl, q2, fun z hz => hmem z (List.mem_cons_of_mem _ hz), hR⟩
  case fin =>
    rintro ⟨b1, b2⟩ s' ⟨hb, hI, -, hR⟩
    simp only at hb
    subst hb
    have q3 := fin s' hI
    rw [hR] at q3
    wp_walk
    simpa using q3
  case h =>
    exact ⟨rfl, h0, fun y hy => by simpa using hy, by simp⟩
end
end GQ
namespace TT
open PySem PySem.Spec PyProof.Rows L2 LamX
section
variable {X : Cx} {CX : CXT} {n : Nat} {C f : Addr} {fd : FuncData} {ps : List Str} {sp : Sp} {E : XK}
/-- item == x for one item, by the own __eq__, which changes nothing -/
theorem eq_item (F : FnOk X.prog X.w X.K X.mg X.base CX n f fd ps sp) (hs : PySem.W.findIn X.K (.ref C) "__eq__" = some (some (.ref f))) (hf : PySem.W.isFn X.K (.ref f) = true) (hb : Binds X.K fd ps []) (hx : Passes CX X E)
    {A : Around} (sb : Sub X n A) {pins : List (Addr × Obj)} {σ : L2.St} {H : Hp} {s : Shared} (I : Inv X pins σ H s) {i a : Addr} {b : Bool} (hi : ∃ dx fs, H i = some (.ins C dx fs)) (ha : ∃ dx fs, H a = some (.ins C dx fs)) (same : i = a → b = true)
    (hsp : sp [.ref i, .ref a] H (fun v H' => v = .bl b ∧ H' = H) E) : wpAny (model X.prog X.w) A (eqBool (.ref i) (.ref a)) (fun r s' => r = b ∧ Inv X pins σ H s') X.xe s := by
  by_cases hab : i = a
  · subst hab
    rw [same rfl]
    exact SeqAt.EqAt.same (A := A) (s := s) (.ref i) X.prog X.w X.xe _ ⟨rfl, I⟩
  · refine GQ.eqBool_refG hab ?_
    obtain ⟨dx, fs, hi⟩ := hi
    obtain ⟨dy, gs, ha⟩ := ha
    obtain ⟨mA, J, _⟩ := ins_get I.hok hi
    obtain ⟨mB, J', _⟩ := ins_get I.hok ha
    obtain ⟨od, J, _⟩ := J.look
    obtain ⟨od', J', _⟩ := J'.look
    obtain ⟨m, hF⟩ := I.fr
    refine PySem.W.cmp_K (op := .Eq) (tb := .ref C) sb.room.units0 hF I.ok.mod.kin J J'.type (by simp [PySem.W.notFirst]) hs hf ?_
    have e0 : Env0 X.prog X.w X.K X.mg X.base A X.stack s H := by
      have e := I.env0
      exact ⟨by rw [sb.fr]; exact e.frames, e.mod, e.bs, e.bsz, e.funs, e.frf, e.hok, e.bare⟩
    have hl := F.len _ _ _ _ hsp
    have r2 : Vals [V.ref i, V.ref a] [Value.ref i, Value.ref a] := .cons rfl (.cons rfl .nil)
    refine wpAny_call (codeAny_mono (F.run A X.stack s H ⟨[.ref i, .ref a], []⟩ [.ref i, .ref a] [.ref i, .ref a] _ E sb.room e0 (by
      have := hb s [.ref i, .ref a] I.kIn (by simpa using hl)
      simpa using this) r2 hsp) fun r s' hq => ?_)
    cases r with
    | error e => exact hx pins σ H s e s' I hq
    | ok fl =>
      cases fl with
      | ret w =>
        obtain ⟨z, H', I', rz, ez, ex⟩ := I.after hq
        subst ez ex
        cases rz
        exact ⟨b, rfl, rfl, I'⟩
      | next => exact False.elim hq
      | brk => exact False.elim hq
      | cont => exact False.elim hq
/-- x not in a tuple of things of the class at C -/
def rNotInO (K : PySem.W.Frag) (C : Addr) (sp : Sp) (E : XK) (neg : Bool) : R2 := fun x y H Q => ∃ (a p : Addr) (es : List (Addr × Bool)), x = .ref a ∧ y = .ref p ∧ SqT K H p (es.map fun e => V.ref e.1) ∧ (∃ dx fs, H a = some (.ins C dx fs)) ∧
  (∀ e ∈ es, (∃ dx fs, H e.1 = some (.ins C dx fs)) ∧ (e.1 = a → e.2 = true) ∧ sp [.ref e.1, .ref a] H (fun v H' => v = .bl e.2 ∧ H' = H) E) ∧ (∀ e ∈ es, ∀ d ∈ es, e.1 = d.1 → e.2 = d.2) ∧ Q (.bl (if neg then !es.any (·.2) else es.any (·.2))) H
theorem vals_refs : ∀ {es : List (Addr × Bool)} {us : List Value}, Vals (es.map fun e => V.ref e.1) us → us = es.map fun e => Value.ref e.1
  | [], _, r => by cases r; rfl
  | e :: es, _, r => by
    rw [List.map_cons] at r
    cases r with
    | cons h t =>
      cases h
      rw [List.map_cons, ← vals_refs t]
/-- the answer for an item -/
def ansO (es : List (Addr × Bool)) (v : Value) : Bool := es.any fun e => decide (v = Value.ref e.1) && e.2
theorem ansO_at {es : List (Addr × Bool)} (u : ∀ e ∈ es, ∀ d ∈ es, e.1 = d.1 → e.2 = d.2) {e : Addr × Bool} (he : e ∈ es) : ansO es (.ref e.1) = e.2 := by
  unfold ansO
  cases h : e.2 with
  | true =>
    rw [List.any_eq_true]
    exact ⟨e, he, by simp [h]⟩
  | false =>
    rw [List.any_eq_false]
    intro d hd
    by_cases c : Value.ref e.1 = Value.ref d.1
    · have c' : e.1 = d.1 := by injection c
      rw [← u e he d hd c', h]
      simp
    · simp [c]
theorem ansO_any {es : List (Addr × Bool)} (u : ∀ e ∈ es, ∀ d ∈ es, e.1 = d.1 → e.2 = d.2) : (es.map fun e => Value.ref e.1).any (ansO es) = es.any (·.2) := by
  rw [List.any_map, Bool.eq_iff_iff, List.any_eq_true, List.any_eq_true]
  constructor
  · rintro ⟨e, he, h⟩
    exact ⟨e, he, by rw [← ansO_at u he]; exact h⟩
  · rintro ⟨e, he, h⟩
    exact ⟨e, he, by show ansO es (.ref e.1) = true; rw [ansO_at u he]; exact h⟩
theorem op_notInO (F : FnOk X.prog X.w X.K X.mg X.base CX n f fd ps sp) (hs : PySem.W.findIn X.K (.ref C) "__eq__" = some (some (.ref f))) (hf : PySem.W.isFn X.K (.ref f) = true) (hb : Binds X.K fd ps []) (hx : Passes CX X E)
    (hr : Room (n + 1) X.A) : OpR X (compareOp .NotIn) (rNotInO X.K C sp E true) := by
  intro pins s σ H x y v u Q I rx ry h
  obtain ⟨a, p, es, rfl, rfl, hp, ha, each, u1, q⟩ := h
  obtain rfl : v = Value.ref a := rx
  obtain rfl : u = Value.ref p := ry
  obtain ⟨its, rv, pl, hz⟩ := I.tuple hp
  have ei := vals_refs rv
  subst ei
  obtain ⟨⟨cls, dd, data, sl⟩, ho, hc, k, hd⟩ := id pl
  simp only at hc hd
  subst hc hd
  have sb : Sub X (n + 1) X.A := ⟨hr, rfl⟩
  show wpAny (model X.prog X.w) X.A (do return .bool (!(← contains (.ref p) (.ref a)))) (EP X pins σ Q) X.xe s
  refine wpAny_bind (wpAny_contains_slot ⟨_, ho, rfl⟩ PySem.F.slot_tuple_contains (wpAny_mono (GQ.call_here (Q := fun v s' => v = .bool (es.any (·.2)) ∧ Inv X pins σ H s') PySem.F.slot_tuple_contains ⟨_, ho, rfl⟩ PySem.F.entry_tuple_contains (PySem.F.args_tuple_contains_2 _ _) ?_) (fun v s' hv => ?_) fun _ _ e => e))
  · refine GQ.tuple_holdsG (R := wants (fun v s' => v = .bool (es.any (·.2)) ∧ Inv X pins σ H s') X.xe) p _ k dd sl (.ref a) (ansO es) (fun s' => Inv X pins σ H s') (fun y hy s' I' => ?_) (fun s' I' => ⟨?_, I'⟩) ho I
    · obtain ⟨e, he, rfl⟩ := List.mem_map.mp (show y ∈ es.map fun e => Value.ref e.1 by simpa using hy)
      obtain ⟨h1, h2, h3⟩ := each e he
      rw [ansO_at u1 he]
      exact eq_item F hs hf hb hx sb.in1 I' h1 ha h2 h3
    · rw [show ((es.map fun e => Value.ref e.1).toArray.any (ansO es)) = (es.map fun e => Value.ref e.1).any (ansO es) by simp, ansO_any u1]
  · obtain ⟨rfl, I'⟩ := hv
    exact wpAny_truthy_bool (wpAny_pure ⟨.bl _, H, I', rfl, q⟩)
/-- x in a tuple of things of the class at C -/
theorem op_inO (F : FnOk X.prog X.w X.K X.mg X.base CX n f fd ps sp) (hs : PySem.W.findIn X.K (.ref C) "__eq__" = some (some (.ref f))) (hf : PySem.W.isFn X.K (.ref f) = true) (hb : Binds X.K fd ps []) (hx : Passes CX X E)
    (hr : Room (n + 1) X.A) : OpR X (compareOp .In) (rNotInO X.K C sp E false) := by
  intro pins s σ H x y v u Q I rx ry h
  obtain ⟨a, p, es, rfl, rfl, hp, ha, each, u1, q⟩ := h
  obtain rfl : v = Value.ref a := rx
  obtain rfl : u = Value.ref p := ry
  obtain ⟨its, rv, pl, hz⟩ := I.tuple hp
  have ei := vals_refs rv
  subst ei
  obtain ⟨⟨cls, dd, data, sl⟩, ho, hc, k, hd⟩ := id pl
  simp only at hc hd
  subst hc hd
  have sb : Sub X (n + 1) X.A := ⟨hr, rfl⟩
  show wpAny (model X.prog X.w) X.A (do return .bool (← contains (.ref p) (.ref a))) (EP X pins σ Q) X.xe s
  refine wpAny_bind (wpAny_contains_slot ⟨_, ho, rfl⟩ PySem.F.slot_tuple_contains (wpAny_mono (GQ.call_here (Q := fun v s' => v = .bool (es.any (·.2)) ∧ Inv X pins σ H s') PySem.F.slot_tuple_contains ⟨_, ho, rfl⟩ PySem.F.entry_tuple_contains (PySem.F.args_tuple_contains_2 _ _) ?_) (fun v s' hv => ?_) fun _ _ e => e))
  · refine GQ.tuple_holdsG (R := wants (fun v s' => v = .bool (es.any (·.2)) ∧ Inv X pins σ H s') X.xe) p _ k dd sl (.ref a) (ansO es) (fun s' => Inv X pins σ H s') (fun y hy s' I' => ?_) (fun s' I' => ⟨?_, I'⟩) ho I
    · obtain ⟨e, he, rfl⟩ := List.mem_map.mp (show y ∈ es.map fun e => Value.ref e.1 by simpa using hy)
      obtain ⟨h1, h2, h3⟩ := each e he
      rw [ansO_at u1 he]
      exact eq_item F hs hf hb hx sb.in1 I' h1 ha h2 h3
    · rw [show ((es.map fun e => Value.ref e.1).toArray.any (ansO es)) = (es.map fun e => Value.ref e.1).any (ansO es) by simp, ansO_any u1]
  · obtain ⟨rfl, I'⟩ := hv
    exact wpAny_truthy_bool (wpAny_pure ⟨.bl _, H, I', rfl, q⟩)
end
section
variable {X : Cx}
/-- x not in a tuple of data -/
def rNotInDT (K : PySem.W.Frag) : R2 := fun x y H Q => ∃ d ds, Dp K H x d ∧ Dp K H y (.tuple ds) ∧ SeqAt.shaped d = true ∧ SeqAt.shaped (.tuple ds) = true ∧ Q (.bl (!ds.any fun z => PyData.eqv z d)) H
theorem op_notInDT (hu : X.A.units + 65 < cLine) : OpR X (compareOp .NotIn) (rNotInDT X.K) := by
  intro pins s σ H x y v u Q I rx ry h
  obtain ⟨d, ds, hd, he, sd, se, q⟩ := h
  obtain ⟨as, r1⟩ := Dp.reads I d x v hd rx
  obtain ⟨bs, r2⟩ := Dp.reads I (.tuple ds) y u he ry
  exact SeqAt.notIn_tuple_reads r2 r1 (SeqAt.canLay_of_shaped se) (SeqAt.canLay_of_shaped sd) (room_in_shaped sd hu) ⟨.bl _, H, I, rfl, q⟩
/-- tuple(a list): the new tuple as an object that is known to have no dict -/
theorem call_tuple_frz : CallR X (.type "tuple") (fun xs H Q => ∃ p ys, xs = [.ref p] ∧ SqL X.K H p ys ∧ ∀ l (o : Obj), o.dict = none → H l = none → Q (.ref l) (upd H l (.frz o (.tup ys)))) := by
  intro pins s σ H xs us Q I r h
  obtain ⟨p, ys, rfl, hq, q⟩ := h
  obtain ⟨u, rfl, rx⟩ := vals1 r
  cases rx
  obtain ⟨its, r', pl, hz⟩ := I.list hq
  have hlen := r'.length
  refine call_tuple_list pl.isList (fun h' kp => ?_) (by simp only [List.size_toArray] <;> omega)
  have I1 : Inv X pins σ H { s with heap := h' } := I.kept (t' := s.toks) kp
  have I2 : Inv X pins σ (upd H h'.objs.size (.frz ({ cls := .type "tuple", data := .seq its.toArray } : Obj) (.tup ys))) { s with heap := h'.push { cls := .type "tuple", data := .seq its.toArray } } :=
    I1.laid (t' := s.toks) (fun b o e => Heap.get?_push_of_some _ e) (Nat.le_refl _) (show ObjOk X.prog X.w _ _ _ (.frz _ (.tup ys)) from ⟨Heap.get?_push_size _ rfl, hz, its, r', IsTup.new _ _⟩)
  exact ⟨.ref h'.objs.size, _, I2, rfl, q _ _ rfl (I1.hok.fresh (Nat.le_refl _))⟩
theorem refsOf : ∀ {ps : List Addr} {us : List Value}, Vals (ps.map V.ref) us → us = ps.map Value.ref
  | [], _, r => by cases r; rfl
  | p :: ps, _, r => by
    rw [List.map_cons] at r
    cases r with
    | cons h t =>
      cases h
      rw [List.map_cons, ← refsOf t]
/-- dict(t) of such a tuple of pairs -/
theorem call_dictT (hcalm : X.calm = true) : CallR X (.type "dict") (fun xs H Q => ∃ (a : Addr) (o : Obj) (ps : List Addr) (kvs : List (Key × V)), xs = [.ref a] ∧ H a = some (.frz o (.tup (ps.map V.ref))) ∧ o.dict = none ∧ Paired (fun p kv => SqT X.K H p [kV kv.1, kv.2]) ps kvs ∧
    ∀ p, H p = none → Q (.ref p) (upd H p (.dK (mergeK [] kvs)))) := by
  intro pins s σ H xs us Q I r q
  obtain ⟨a, o, ps, kvs, rfl, hq, hdn, hp, q⟩ := q
  obtain ⟨u, rfl, rx⟩ := vals1 r
  cases rx
  obtain ⟨ho, hz, its, rv, ob, ho2, hc, k, hdat⟩ := (show ObjOk X.prog X.w H s.heap a (.frz o (.tup (ps.map V.ref))) from I.hok a _ hq)
  rw [ho] at ho2
  cases ho2
  have ei := refsOf rv
  subst ei
  rw [List.length_map] at hz
  obtain ⟨prs, rel, hl, hpr⟩ := pairs_of I hp
  have hm : (s.heap.objs.size == sysModules) = false := beq_eq_false_iff_ne.mpr (Nat.ne_of_gt I.big)
  have hlen : (mergeK [] kvs).length ≤ sizeLine := by
    refine Nat.le_trans (length_mergeK kvs []) ?_
    rw [List.length_nil, Nat.zero_add, rel.length, hl]
    exact hz
  have hpr' : ∀ j : Nat, ∃ u : Value, ∀ q : Key × Value, prs[j]? = some q → ∃ b, ps[j]? = some b ∧ IsTup s.heap b #[u, q.2] ∧ keyIs q.1 u = true := fun j => by
    cases h : prs[j]? with
    | none => exact ⟨.none, fun q e => by cases e⟩
    | some q =>
      obtain ⟨b, u, e1, e2, e3⟩ := hpr j q h
      exact ⟨u, fun q' e => by cases e; exact ⟨b, e1, e2, e3⟩⟩
  obtain ⟨f, hf⟩ := Classical.axiomOfChoice hpr'
  have at' : ∀ (j : Nat) (k v : Value), (prs.mapIdx fun j q => (f j, q.2))[j]? = some (k, v) → ∃ q, prs[j]? = some q ∧ k = f j ∧ v = q.2 := fun j k v e => by
    rw [List.getElem?_mapIdx] at e
    obtain ⟨q, h1, h2⟩ := Option.map_eq_some_iff.mp e
    cases h2
    exact ⟨q, h1, rfl, rfl⟩
  refine PySem.call_dict_pairs (knd := mixKind X.prog X.w) (kvs := prs) (PySem.PairArg.tuple a (ps.map Value.ref).toArray (fun j => ps.getD j 0) (prs.mapIdx fun j q => (f j, q.2))) (I.ok.hd hcalm) ⟨⟨_, k, ho, hc, hdn, hdat⟩, ?_, fun j k v e => ?_⟩ ⟨by rw [List.length_mapIdx], fun i key v e => ?_⟩ ?_ fun h' tk hd' kk => ?_
  · rw [List.size_toArray, List.length_map, List.length_mapIdx, hl]
  · obtain ⟨q, h1, rfl, rfl⟩ := at' j k v e
    obtain ⟨b, e1, e2, e3⟩ := hf j q h1
    have eg : ps.getD j 0 = b := by rw [List.getD_eq_getElem?_getD, e1] <;> rfl
    show (List.map Value.ref ps).toArray[j]? = some (Value.ref (ps.getD j 0)) ∧ PairAt s.heap (ps.getD j 0) (f j) q.2
    rw [eg]
    exact ⟨by simp [e1], .inl e2⟩
  · obtain ⟨q, h1, rfl, rfl⟩ := at' i key v e
    obtain ⟨b, e1, e2, e3⟩ := hf i q h1
    exact ⟨q.1, h1, e3⟩
  · rw [List.length_mapIdx, hl]
    exact hz
  · exact ⟨.ref s.heap.objs.size, upd H s.heap.objs.size (.dK (mergeK [] kvs)), I.laid (t' := tk) (fun b o e => kk b o (fun z => nomatch z) e) (Nat.le_refl _) (show ObjOk X.prog X.w _ _ _ (.dK (mergeK [] kvs)) from ⟨hlen, hm, merged [] prs, KV.merge rel .nil, hd'⟩), rfl, q _ (I.hok.fresh (Nat.le_refl _))⟩
end
end TT

set_option Elab.async false
set_option linter.all false
set_option maxRecDepth 100000
set_option maxHeartbeats 4000000
/-! enumerate(a tuple): the rule for a «for» and for a comprehension. -/
namespace TT
open PySem PySem.Spec PyProof.Rows L2
open AutoSeq1 (wpAny_loadPart')
theorem meets_enumerate_newT (l : Addr) (items : Array Value) (n : Nat) (dct : Option Addr) (sl : Array (Option Value)) :
    Meets (Builtin.«enumerate.__new__» ⟨[.type "enumerate", .ref l], []⟩) (fun _ R s => s.heap.get? l = some { cls := .type "tuple", dict := dct, data := .seq items n, slots := sl } ∧
      R (.ok (.ret (.ref (s.heap.push { cls := .type "tuple_iterator", data := .fields #[.ref l, .int 0 0] }).objs.size)))
        { s with heap := (s.heap.push { cls := .type "tuple_iterator", data := .fields #[.ref l, .int 0 0] }).push { cls := .type "enumerate", data := .fields #[.none, .bool false, .ref s.heap.objs.size, rawInt 0, .none, .none] } }) :=
  .of_wp fun prog w A R s h => by
    obtain ⟨hp, g, d, tk, os⟩ := s; obtain ⟨hl, h⟩ := h
    have hsub := sub_enumerate
    have hL : Heap.IsTuple (Shared.heap ⟨hp, g, d, tk, os⟩) l items := ⟨_, hl, rfl, n, rfl⟩
    wp_walk using wpAny_loadPart' hl
    refine wpAny_stack_any fun st => wpAny_pure ?_
    split
    · rename_i c _ _ _ _ _
      cases (c == Value.type "enumerate")
      · wp_walk using wpAny_loadPart' hl, wpAny_pyIter_tuple hL
        exact ⟨_, rfl, h⟩
      · wp_walk using wpAny_loadPart' hl, wpAny_pyIter_tuple hL
        exact ⟨_, rfl, h⟩
    · wp_walk using wpAny_loadPart' hl, wpAny_pyIter_tuple hL
      exact ⟨_, rfl, h⟩
theorem call_enumerate_tuple {prog : Program} {w : World} {A : Around} {E : Value → Shared → Prop} {s : Shared} {l : Addr} {items : Array Value} {Q : Value → Shared → Prop} (hL : s.heap.IsTuple l items)
    (h : ∀ h', IsEnum h' (s.heap.objs.size + 1) s.heap.objs.size 0 .none → h'.IsTupleIter s.heap.objs.size l 0 → h'.objs.size = s.heap.objs.size + 2 →
      (∀ b o, s.heap.get? b = some o → h'.get? b = some o) → Q (.ref (s.heap.objs.size + 1)) { s with heap := h' }) :
    wpAny (model prog w) A (call (.type "enumerate") [.ref l]) Q E s := by
  obtain ⟨⟨c, dct, dt, sl⟩, hl, hc, n, hd⟩ := hL
  replace hc : c = .type "tuple" := hc
  replace hd : dt = .seq items n := hd
  subst hc hd
  refine callType_new F.called_enumerate (by decide) (F.typeCall_enumerate_1 _) (F.newCall_enumerate_1 _) (fun obj => F.args_object_init_2 obj _) F.entry_enumerate_new
    (meets_enumerate_newT l items n dct sl) ⟨hl, ?_⟩
  have hz : (s.heap.push { cls := .type "tuple_iterator", data := .fields #[.ref l, .int 0 0] }).objs.size = s.heap.objs.size + 1 := Heap.size_push ..
  show _ ∧ _
  rw [hz]
  have he : IsEnum ((s.heap.push { cls := .type "tuple_iterator", data := .fields #[.ref l, .int 0 0] }).push
      { cls := .type "enumerate", data := .fields #[.none, .bool false, .ref s.heap.objs.size, rawInt 0, .none, .none] }) (s.heap.objs.size + 1) s.heap.objs.size 0 .none := by
    have := Heap.get?_push_size (s.heap.push { cls := .type "tuple_iterator", data := .fields #[.ref l, .int 0 0] })
      (o := { cls := .type "enumerate", data := .fields #[.none, .bool false, .ref s.heap.objs.size, rawInt 0, .none, .none] }) rfl
    rw [hz] at this; exact this
  refine ⟨⟨_, he, rfl⟩, h _ he ⟨_, Heap.get?_push_of_some _ (Heap.get?_push_size _ rfl), rfl, rfl⟩ (by rw [Heap.size_push, hz]) fun b o x => Heap.get?_push_of_some _ (Heap.get?_push_of_some _ x)⟩
/-- the tuple at a, each item in a new pair -/
def IteT (K : PySem.W.Frag) (a : Addr) : It :=
  ⟨fun i H => ∃ (xs : List V) (x : V), SqT K H a xs ∧ xs[i]? = some x, fun i H v H' => ∃ T x, v = .ref T ∧ H T = none ∧ H' = upd H T (.tup [.int (i : Nat), x]) ∧ ∀ xs, SqT K H a xs → xs[i]? = some x, fun i H => ∃ xs : List V, SqT K H a xs ∧ xs.length ≤ i⟩
theorem turn_enumT {P : Program} {w : World} {K : PySem.W.Frag} {elts : List Expr} {kk : Nat} {tpos : Pos} (a e it : Addr) :
    Turn P w K (.Tuple elts kk tpos) (IteT K a) [e, it] e (fun i h => (∃ old, IsEnum h e it ((i : Nat) : Int) old) ∧ h.IsTupleIter it a i ∧ e ≠ it) where
  mem := by simp
  obj := fun i h st b hb => by
    obtain ⟨⟨old, he⟩, ⟨o, ho, hc, hd⟩, _⟩ := st
    have e' : b = e ∨ b = it := by simpa using hb
    rcases e' with z | z
    · rw [z]; exact ⟨_, he, fun v q => nomatch q⟩
    · rw [z]; exact ⟨o, ho, fun v q => by rw [hd] at q; cases q⟩
  keep := fun i h h' st k => let ⟨⟨old, he⟩, hi, hne⟩ := st; ⟨⟨old, k e (by simp) _ he⟩, hi.at fun o q => k it (by simp) o q, hne⟩
  item := by
    intro X hP hw hK hc i pins s σ H E I hf st hg
    subst hP hw hK
    obtain ⟨⟨old, he⟩, hit, hne⟩ := st
    obtain ⟨xs, x, hq, hx⟩ := hg
    obtain ⟨its, rv, p, hz⟩ := I.tuple hq
    obtain ⟨u, hu, ru⟩ := rv.get hx
    have hel : e < s.heap.objs.size := Heap.lt_size he
    have hil : it < s.heap.objs.size := by obtain ⟨_, q, _⟩ := hit; exact Heap.lt_size q
    have hia : a ≠ it := by
      rintro rfl
      obtain ⟨o1, q1, c1, _⟩ := hit
      obtain ⟨o2, q2, c2, _⟩ := id p
      rw [q1] at q2
      cases q2
      rw [c1] at c2
      exact absurd c2 (by decide)
    have hlt : i < its.toArray.size := by
      rw [List.size_toArray]
      exact (List.getElem?_eq_some_iff.mp hu).1
    by_cases hea : e = a
    · exfalso
      subst hea
      obtain ⟨o2, q2, c2, _⟩ := id p
      rw [show s.heap.get? e = _ from he] at q2
      cases q2
      replace c2 : Value.type "enumerate" = Value.type "tuple" := c2
      exact absurd c2 (by decide)
    refine wpAny_pyNext_enum_itemD (Draws.tuple (A := X.A.in1) (I.ok.hd hc) it a hia its.toArray) he ⟨hit, p⟩ hlt hne (by simp [hne, hea]) fun y h' tk hy ho hst hT hsz hk => ?_
    obtain ⟨hit', _⟩ := hst
    have eu : y = u := by
      have h1 : its[i]? = some y := by simpa using hy
      rw [hu] at h1
      exact (Option.some.inj h1).symm
    subst eu
    refine ⟨_, rfl, wpAny_letOwnedTupleGo_enum (s := { s with heap := h', toks := tk + 1 }) ho fun h'' he' sb => ?_⟩
    have hT2 : h''.get? s.heap.objs.size = some { cls := .type "tuple", data := .seq #[.int i tk, y] } := (sb.2 _ (Nat.ne_of_gt hel)).trans hT
    have new : ObjOk X.prog X.w (upd H s.heap.objs.size (.tup [.int (i : Nat), x])) h'' s.heap.objs.size (.tup [.int (i : Nat), x]) :=
      ⟨by show 2 ≤ sizeLine; decide, [.int i tk, y], .cons ⟨_, rfl⟩ (.cons ru .nil), ⟨_, hT2, rfl, _, rfl⟩⟩
    have I1 : Inv X pins σ (upd H s.heap.objs.size (.tup [.int (i : Nat), x])) { s with heap := h'', toks := tk + 1 } :=
      I.turnedNew (ch := [e, it]) (fun b ob hb q => (sb.2 b (fun z => hb (by simp [z]))).trans (hk b ob (fun z => hb (by simp [z])) (fun z => hb (by simp [z])) q)) hf (Nat.le_refl _) new
    refine ⟨.ref s.heap.objs.size, _, I1, rfl, ⟨_, x, rfl, I.hok.fresh (Nat.le_refl _), rfl, fun ys hy => by rw [I.tuple_inj hy hq]; exact hx⟩, ⟨⟨y, ?_⟩, hit'.at fun o q => (sb.2 it (Ne.symm hne)).trans q, hne⟩, fun b hb => ?_⟩
    · have e1 : ((i + 1 : Nat) : Int) = (i : Int) + 1 := by omega
      rw [e1]; exact he'
    · have hb' : b < s.heap.objs.size := by
        have e' : b = e ∨ b = it := by simpa using hb
        rcases e' with z | z
        · rw [z]; exact hel
        · rw [z]; exact hil
      rw [upd_ne (Nat.ne_of_lt hb')]
      exact (hf b hb).1
  done := by
    intro X hP hw hK hc i pins s σ H E I hf st hg
    subst hP hw hK
    obtain ⟨⟨old, he⟩, hit, hne⟩ := st
    obtain ⟨xs, hq, hx⟩ := hg
    obtain ⟨its, rv, p, hz⟩ := I.tuple hq
    obtain ⟨f0, f1, f2, f3, f4, f5⟩ := hf it (by simp)
    have hl := rv.length
    have hT : s.TypeIs (.ref e) "enumerate" := ⟨_, he, rfl⟩
    unfold pyNext
    refine wpAny_bind (wpAny_attempt (wpAny_callSpecial?_slot (name := Str.ofString "__next__") hT F.slot_enumerate_next
      (wpAny_call_entry F.slot_enumerate_next hT F.entry_enumerate_next ?_ (F.args_enumerate_next_1 _))))
    show wpAny _ _ (field (.ref e) 2 >>= _) _ _ _
    refine wpAny_bind (wpAny_field he rfl (x := .ref it) rfl ?_)
    refine wpAny_bind (wpAny_nextOf_tuple_end (I.ok.hd hc) hit p (by simp; omega) fun h' x he' hx' => ?_)
    obtain ⟨o, ho, hc⟩ := hx'
    refine wpAny_bind (wpAny_isInstance (T := "StopIteration") (b := true) ⟨o, ho, hc⟩ isSubtype_stop ?_)
    exact wpAny_pure ⟨rfl, I.turned (t' := s.toks) (fun b o hb q => he' b o hb q) f0 f1 f3 f4 f5⟩
  self := fun A i s Q E st h => let ⟨⟨_, he⟩, _⟩ := st; wpAny_pyIter_enum he h
def iEnumT (K : PySem.W.Frag) (ta : TA) : TI := fun σ H R => ta σ H fun vs H1 => ∃ a xs, vs = [.ref a] ∧ SqT K H1 a xs ∧ R (IteT K a) H1
theorem pi_enumT {X : Cx} {e : Expr} {ta : TA} {p pos tpos : Pos} {elts : List Expr} {kk : Nat} (hg : Gl X "enumerate") (hm : X.mg "enumerate" = none) (ha : PA X [e] ta) (hs : starEach [e] X.env = [(false, eval e X.env)] := by rfl) :
    PI X (.Tuple elts kk tpos) (.Call (.Name "enumerate" p) [e] [] pos) (iEnumT X.K ta) := by
  refine ⟨fun pins s σ H R I h => ?_⟩
  refine Call_ (ld_blt I hg hm boot_enumerate (PyProof.Rows.callWith_type1 (thn (ha.run pos pins s σ H _ I h) fun us s1 ⟨vs, H1, I1, r1, q1⟩ => ?_) hs rfl))
  obtain ⟨a, xs, ex, hq, q⟩ := q1
  subst ex
  cases r1 with
  | cons r rr =>
    cases rr
    cases r
    obtain ⟨its, rv, p', hz⟩ := I1.tuple hq
    refine call_enumerate_tuple p' fun h' he hit hsz hk => wpAny_pyIter_enum he ?_
    have I2 : Inv X pins σ H1 { s1 with heap := h' } := I1.kept (t' := s1.toks) hk
    refine ⟨s1.heap.objs.size + 1, [s1.heap.objs.size + 1, s1.heap.objs.size], _, _, H1, rfl, I2, turn_enumT a (s1.heap.objs.size + 1) s1.heap.objs.size, ⟨⟨.none, he⟩, hit, Nat.succ_ne_self _⟩, fun b hb => ?_, q⟩
    have e' : b = s1.heap.objs.size + 1 ∨ b = s1.heap.objs.size := by simpa using hb
    have hle : s1.heap.objs.size ≤ b := by
      rcases e' with z | z
      · rw [z]; exact Nat.le_add_right _ _
      · rw [z]; exact Nat.le_refl _
    exact I1.fpOk hle (I1.hok.fresh hle)
theorem walk_enumT {K : PySem.W.Frag} {a : Addr} {xs : List V} : Walk (IteT K a) xs.length (fun H => SqT K H a xs) (YPair (fun i => some (.int (i : Nat))) (fun i => xs[i]?)) := by
  refine ⟨fun i _ hi q => ⟨xs, xs[i], q, by simp [hi]⟩, fun _ q => ⟨xs, q, Nat.le_refl _⟩, fun i H v H' _ q y => ?_⟩
  obtain ⟨T, x, h1, h2, h3, h4⟩ := y
  exact ⟨T, .int (i : Nat), x, h1, h2, h3, rfl, h4 xs q⟩
end TT

set_option Elab.async false
set_option linter.all false
set_option maxRecDepth 100000
set_option maxHeartbeats 4000000
/-! len(x), x[i], y in x by the own __len__, __getitem__, __contains__ of a class. -/
namespace TT
open PySem PySem.Spec PyProof.Rows L2 LamX
section
variable {X : Cx} {CX : CXT} {k : Nat} {f C : Addr} {fd : FuncData} {ps : List Str} {sp : Sp} {E : XK} {a b : Expr} {ta tb : TE} {pos : Pos}
theorem run_fn1 {pins : List (Addr × Obj)} {σ : L2.St} {H : Hp} {s : Shared} {Q : VK} {us : List Value} {vs : List V} (F : FnOk X.prog X.w X.K X.mg X.base CX k f fd ps sp) (hr : Room k X.A.in1) (hb : Binds X.K fd ps []) (hx : Passes CX X E)
    (I : Inv X pins σ H s) (r : Vals vs us) (h : sp vs H Q E) : wpAny (model X.prog X.w) X.A.in1 (call (.ref f) us) (EP X pins σ Q) X.xe s := by
  have e0 : Env0 X.prog X.w X.K X.mg X.base X.A.in1 X.stack s H := by
    have e := I.env0
    exact ⟨e.frames, e.mod, e.bs, e.bsz, e.funs, e.frf, e.hok, e.bare⟩
  have hl := F.len _ _ _ _ h
  refine wpAny_call (codeAny_mono (F.run X.A.in1 X.stack s H ⟨us, []⟩ us vs Q E hr e0 (by
    have := hb s us I.kIn (by rw [List.append_nil, ← r.length]; exact hl)
    rw [List.append_nil] at this
    exact this) r h) fun r s' hq => ?_)
  cases r with
  | error e => exact hx pins σ H s e s' I hq
  | ok fl =>
    cases fl with
    | ret w => exact I.after hq
    | next => exact False.elim hq
    | brk => exact False.elim hq
    | cont => exact False.elim hq
/-- len(x) by the own __len__ -/
def rLenO (C : Addr) (sp : Sp) (E : XK) : List V → Hp → VK → Prop := fun vs H Q => ∃ a dx fs, vs = [V.ref a] ∧ H a = some (.ins C dx fs) ∧ sp [.ref a] H (fun v H' => ∃ n : Int, v = .int n ∧ (0 ≤ n ∧ n < 2 ^ 63) ∧ Q (.int n) H') E
theorem call_lenO (F : FnOk X.prog X.w X.K X.mg X.base CX k f fd ps sp) (hr : Room k X.A.in1) (hb : Binds X.K fd ps []) (hx : Passes CX X E)
    (hs : PySem.W.findIn X.K (.ref C) "__len__" = some (some (.ref f))) (hf : PySem.W.isFn X.K (.ref f) = true) : CallR X (.builtin "len") (rLenO C sp E) := by
  intro pins s σ H xs us Q I r h
  obtain ⟨a, dx, fs, rfl, ha, hq⟩ := h
  obtain ⟨u, rfl, ru⟩ := vals1 r
  obtain rfl : u = Value.ref a := ru
  obtain ⟨mA, O, _⟩ := ins_get I.hok ha
  obtain ⟨od, J, _⟩ := O.look
  obtain ⟨m, hF⟩ := I.fr
  refine PySem.W.len_K hF I.ok.mod.kin J hs hf (wpAny_mono (run_fn1 (vs := [.ref a]) (us := [.ref a]) F hr hb hx I (.cons rfl .nil) hq) (fun v' s' z => ?_) fun _ _ z => z)
  obtain ⟨w', H', I', r', n, rfl, hn, q⟩ := z
  obtain ⟨t, rfl⟩ := r'
  exact ⟨hn, .int n, H', I'.tok _, ⟨_, rfl⟩, q⟩
/-- x[i] by the own __getitem__ -/
def rIxO (C : Addr) (sp : Sp) (E : XK) : R2 := fun x y H Q => ∃ a dx fs, x = V.ref a ∧ H a = some (.ins C dx fs) ∧ sp [.ref a, y] H Q E
def PlainIxT (b : Expr) : Prop := ∀ o i, subscripted b true o i = runValue (.builtin "lifetime.subscript" ⟨[o, i], []⟩)
theorem pe_ixO (F : FnOk X.prog X.w X.K X.mg X.base CX k f fd ps sp) (hr : Room k X.A.in1) (hb : Binds X.K fd ps []) (hx : Passes CX X E)
    (hs : PySem.W.findIn X.K (.ref C) "__getitem__" = some (some (.ref f))) (hf : PySem.W.isFn X.K (.ref f) = true) (hn : PySem.W.fnIn X.K f = true) (ha : PE X a ta) (hb' : PE X b tb) (hp : PlainIxT b) : PE X (.Subscript a b pos) (tOp (rIxO C sp E) ta tb) := by
  refine ⟨fun pins s σ H Q I h => ?_⟩
  refine Subscript_ (binT ha hb' I h fun v u s2 x y H2 I2 rx ry q => ?_)
  obtain ⟨a', dx, fs, rfl, h1, hq⟩ := q
  obtain rfl : v = Value.ref a' := rx
  obtain ⟨mA, O, _⟩ := ins_get I2.hok h1
  obtain ⟨od, J, _⟩ := O.look
  obtain ⟨m, hF⟩ := I2.fr
  exact PySem.W.sub_K hF I2.ok.mod.kin J hs hn hf (run_fn1 (vs := [.ref a', y]) (us := [.ref a', u]) F hr hb hx I2 (.cons rfl (.cons ry .nil)) hq) (hp _ _)
/-- y in x, y not in x, by the own __contains__, which answers by a bool -/
def rInOwn (C : Addr) (sp : Sp) (E : XK) (neg : Bool) : R2 := fun y x H Q => ∃ a dx fs, x = V.ref a ∧ H a = some (.ins C dx fs) ∧ sp [.ref a, y] H (fun v H' => ∃ b, v = V.bl b ∧ Q (.bl (if neg then !b else b)) H') E
theorem op_inOwn (F : FnOk X.prog X.w X.K X.mg X.base CX k f fd ps sp) (hr : Room k X.A) (hb : Binds X.K fd ps []) (hx : Passes CX X E)
    (hs : PySem.W.findIn X.K (.ref C) "__contains__" = some (some (.ref f))) (hf : PySem.W.isFn X.K (.ref f) = true) : OpR X (compareOp .In) (rInOwn C sp E false) := by
  intro pins s σ H y x u v Q I ry rx h
  obtain ⟨a, dx, fs, rfl, ha, hq⟩ := h
  obtain rfl : v = Value.ref a := rx
  obtain ⟨mA, O, _⟩ := ins_get I.hok ha
  obtain ⟨od, J, _⟩ := O.look
  obtain ⟨m, hF⟩ := I.fr
  refine PySem.W.in_K hF I.ok.mod.kin J hs hf (wpAny_mono (run_fn (us := [.ref a, u]) (vs := [.ref a, y]) (dvs := []) (ds := []) F hr hb .nil hx I (.cons rfl (.cons ry .nil)) hq) (fun v' s' z => ?_) fun _ _ z => z)
  obtain ⟨w', H', I', r', c, rfl, q⟩ := z
  obtain rfl : v' = Value.bool c := r'
  exact wpAny_truthy_bool (by exact ⟨.bl c, H', I', rfl, q⟩)
theorem op_notInOwn (F : FnOk X.prog X.w X.K X.mg X.base CX k f fd ps sp) (hr : Room k X.A) (hb : Binds X.K fd ps []) (hx : Passes CX X E)
    (hs : PySem.W.findIn X.K (.ref C) "__contains__" = some (some (.ref f))) (hf : PySem.W.isFn X.K (.ref f) = true) : OpR X (compareOp .NotIn) (rInOwn C sp E true) := by
  intro pins s σ H y x u v Q I ry rx h
  obtain ⟨a, dx, fs, rfl, ha, hq⟩ := h
  obtain rfl : v = Value.ref a := rx
  obtain ⟨mA, O, _⟩ := ins_get I.hok ha
  obtain ⟨od, J, _⟩ := O.look
  obtain ⟨m, hF⟩ := I.fr
  refine PySem.W.notIn_K hF I.ok.mod.kin J hs hf (wpAny_mono (run_fn (us := [.ref a, u]) (vs := [.ref a, y]) (dvs := []) (ds := []) F hr hb .nil hx I (.cons rfl (.cons ry .nil)) hq) (fun v' s' z => ?_) fun _ _ z => z)
  obtain ⟨w', H', I', r', c, rfl, q⟩ := z
  obtain rfl : v' = Value.bool c := r'
  exact wpAny_truthy_bool (by exact ⟨.bl (!c), H', I', rfl, q⟩)
end
end TT

set_option Elab.async false
set_option linter.all false
set_option maxRecDepth 100000
set_option maxHeartbeats 4000000
/-! own == and != with a thing of a built-in type; == of two dicts of data, with either answer. -/
namespace TT
open PySem PySem.Spec PyProof.Rows L2 LamX
/-- x == y by the own __eq__, y of a built-in type -/
def rEqT (K : PySem.W.Frag) (C : Addr) (sp : Sp) (E : XK) : R2 := fun x y H Q => ∃ a dx fs T, x = V.ref a ∧ H a = some (.ins C dx fs) ∧ Ty H y T ∧ PySem.W.notFirst K C (.type T) = true ∧ sp [.ref a, y] H (fun v H' => (∃ b, v = V.bl b) ∧ Q v H') E
def rNeT (K : PySem.W.Frag) (C : Addr) (sp : Sp) (E : XK) : R2 := fun x y H Q => ∃ a dx fs T, x = V.ref a ∧ H a = some (.ins C dx fs) ∧ Ty H y T ∧ PySem.W.notFirst K C (.type T) = true ∧ sp [.ref a, y] H (fun v H' => ∃ b, v = V.bl b ∧ Q (.bl (!b)) H') E
section
variable {X : Cx} {CX : CXT} {k : Nat} {f C : Addr} {fd : FuncData} {ps : List Str} {sp : Sp} {E : XK}
theorem op_eqT (F : FnOk X.prog X.w X.K X.mg X.base CX k f fd ps sp) (hr : Room k X.A) (hb : Binds X.K fd ps []) (hx : Passes CX X E)
    (hs : PySem.W.findIn X.K (.ref C) "__eq__" = some (some (.ref f))) (hf : PySem.W.isFn X.K (.ref f) = true) : OpR X (compareOp .Eq) (rEqT X.K C sp E) := by
  intro pins s σ H x y v u Q I rx ry h
  obtain ⟨a, dx, fs, T, rfl, ha, ty, hn, hq⟩ := h
  obtain rfl : v = Value.ref a := rx
  obtain ⟨mA, O, _⟩ := ins_get I.hok ha
  obtain ⟨od, J, _⟩ := O.look
  obtain ⟨m, hF⟩ := I.fr
  show wpAny (model X.prog X.w) X.A (richCompare .Eq (.ref a) u) (EP X pins σ Q) X.xe s
  refine PySem.W.cmp_K (op := .Eq) hr.units0 hF I.ok.mod.kin J (Ty.looks I ry ty) hn hs hf (wpAny_mono (run_fn (us := [.ref a, u]) (vs := [.ref a, y]) (dvs := []) (ds := []) F hr hb .nil hx I (.cons rfl (.cons ry .nil)) hq) (fun v' s' z => ?_) fun _ _ z => z)
  obtain ⟨w', H', I', r', ⟨c, rfl⟩, q⟩ := z
  obtain rfl : v' = Value.bool c := r'
  exact ⟨.bl c, H', I', rfl, q⟩
theorem op_neT (F : FnOk X.prog X.w X.K X.mg X.base CX k f fd ps sp) (hr : Room k X.A.in1) (hu : X.A.units + 64 < cLine) (hb : Binds X.K fd ps []) (hx : Passes CX X E)
    (hm : PySem.W.mroIn X.K C (.type "object") = some true) (hne : PySem.W.findIn X.K (.ref C) "__ne__" = some (some (.builtin "object.__ne__")))
    (hs : PySem.W.findIn X.K (.ref C) "__eq__" = some (some (.ref f))) (hf : PySem.W.isFn X.K (.ref f) = true) : OpR X (compareOp .NotEq) (rNeT X.K C sp E) := by
  intro pins s σ H x y v u Q I rx ry h
  obtain ⟨a, dx, fs, T, rfl, ha, ty, hn, hq⟩ := h
  obtain rfl : v = Value.ref a := rx
  obtain ⟨mA, O, _⟩ := ins_get I.hok ha
  obtain ⟨od, J, _⟩ := O.look
  show wpAny (model X.prog X.w) X.A (richCompare .NotEq (.ref a) u) (EP X pins σ Q) X.xe s
  refine ne_K (by omega) I.kIn J (Ty.looks I ry ty) hn hm hne hs hf (wpAny_mono (run_fn1 (vs := [.ref a, y]) (us := [.ref a, u]) F hr hb hx I (.cons rfl (.cons ry .nil)) hq) (fun v' s' z => ?_) fun _ _ z => z)
  obtain ⟨w', H', I', r', c, rfl, q⟩ := z
  obtain rfl : v' = Value.bool c := r'
  exact ⟨c, rfl, .bl (!c), H', I', rfl, q⟩
end
/-- the values of two dicts of the same keys, each pair with its answer -/
inductive DHits (K : PySem.W.Frag) (H : Hp) (ls : List (Key × V)) : List (Key × V) → Bool → Prop
  | nil : DHits K H ls [] true
  | cons {p : Key × V} {ps : List (Key × V)} {u : V} {d e : PyData} {b : Bool} : valV ls p.1 = some u → Dp K H p.2 d → Dp K H u e → SeqAt.shaped d = true → SeqAt.shaped e = true → DHits K H ls ps b → DHits K H ls (p :: ps) (PyData.eqv d e && b)
def rEqDD (K : PySem.W.Frag) : R2 := fun x y H Q => ∃ a b ks ls e, x = V.ref a ∧ y = V.ref b ∧ H a = some (.dK ks) ∧ H b = some (.dK ls) ∧ ks.length = ls.length ∧ DHits K H ls ks e ∧ Q (.bl e) H
section
variable {X : Cx} {pins : List (Addr × Obj)} {σ : L2.St} {H : Hp} {s : Shared}
theorem DHits.run {A : Around} (I : Inv X pins σ H s) (hu : A.units + 64 < cLine) {ls : List (Key × V)} {vb : List (Key × Value)} (rb : KV ls vb) {ks : List (Key × V)} {e : Bool} (h : DHits X.K H ls ks e) : ∀ {va : List (Key × Value)}, KV ks va → PySem.W.KeqHitsP X.prog X.w A s vb va e := by
  induction h with
  | nil =>
    intro va ra
    unfold KV at ra
    cases ra
    exact .nil
  | @cons p ps u d e b hv h1 h2 s1 s2 _ ih =>
    intro va ra
    unfold KV at ra
    cases ra with
    | @cons _ q _ qs hd tl =>
      obtain ⟨e1, e2⟩ := hd
      have rr : RelO (some u) (valueAt vb p.1) := by rw [← hv]; exact rb.val p.1
      obtain ⟨y, hy, ry⟩ := rr.some_of
      obtain ⟨key, v⟩ := q
      have e1' : p.1 = key := e1
      rw [e1'] at hy
      obtain ⟨as, r1⟩ := Dp.reads I d _ _ h1 e2
      obtain ⟨bs, r2⟩ := Dp.reads I e _ _ h2 ry
      exact .hit hy (SeqAt.eqAt_reads d e A s _ _ as bs r1 r2 (SeqAt.canLay_of_shaped s1) (SeqAt.canLay_of_shaped s2) (SeqAt.room_of_shaped s1 hu)).eqP (ih tl)
theorem op_eqDD (hu : X.A.units + 65 < cLine) : OpR X (compareOp .Eq) (rEqDD X.K) := by
  intro pins s σ H x y v u Q I rx ry h
  obtain ⟨a, b, ks, ls, e, rfl, rfl, ha, hb, hl, hh, q⟩ := h
  obtain rfl : v = Value.ref a := rx
  obtain rfl : u = Value.ref b := ry
  obtain ⟨_, ya, va, ra, da⟩ := (show ObjOk X.prog X.w H s.heap a (.dK ks) from I.hok a _ ha)
  obtain ⟨_, yb, vb, rb, db⟩ := (show ObjOk X.prog X.w H s.heap b (.dK ls) from I.hok b _ hb)
  show wpAny (model X.prog X.w) X.A (richCompare .Eq (.ref a) (.ref b)) (EP X pins σ Q) X.xe s
  refine PySem.W.rcP_dicts (knd := mixKind X.prog X.w) (r := e) ya yb da db (by omega) (fun _ => hh.run (A := X.A.in1) I (by show X.A.units + 1 + 64 < cLine; omega) rb ra) X.xe _ ?_
  have e2 : va.length = vb.length := by rw [← ra.length, ← rb.length]; exact hl
  rw [show (va.length == vb.length && e) = e from by rw [e2]; simp]
  exact ⟨.bl e, H, I, rfl, q⟩
end
end TT

set_option Elab.async false
set_option linter.all false
set_option maxRecDepth 100000
set_option maxHeartbeats 4000000
namespace TT
open PySem PySem.Spec PyProof.Rows L2
def top (i : Nat) : Stmt := PySem.Challenge.pw_turnedtunes_k09_books_read.main.body.getD i (.Pass ⟨0, 0, 0, 0⟩)
abbrev s_E_init : Stmt := inClass (top 2) 0
theorem sc_E_init : FnScope ["self", "value"] ["self", "value"] (defScope s_E_init) := ⟨rfl, rfl, rfl, by decide +kernel, rfl, by decide +kernel, by decide +kernel⟩
abbrev s_is_whole : Stmt := top 23
theorem sc_is_whole : FnScope ["value"] ["value"] (defScope s_is_whole) := ⟨rfl, rfl, rfl, by decide +kernel, rfl, by decide +kernel, by decide +kernel⟩
abbrev s_is_from : Stmt := top 24
theorem sc_is_from : FnScope ["value", "least"] ["value", "least"] (defScope s_is_from) := ⟨rfl, rfl, rfl, by decide +kernel, rfl, by decide +kernel, by decide +kernel⟩
abbrev s_is_between : Stmt := top 25
theorem sc_is_between : FnScope ["value", "least", "greatest"] ["value", "least", "greatest"] (defScope s_is_between) := ⟨rfl, rfl, rfl, by decide +kernel, rfl, by decide +kernel, by decide +kernel⟩
abbrev s_written : Stmt := top 26
theorem sc_written : FnScope ["number", "rest", "chunks"] ["number"] (defScope s_written) := ⟨rfl, rfl, rfl, by decide +kernel, rfl, by decide +kernel, by decide +kernel⟩
abbrev s_number_in : Stmt := top 27
theorem sc_number_in : FnScope ["word", "digits", "number"] ["word"] (defScope s_number_in) := ⟨rfl, rfl, rfl, by decide +kernel, rfl, by decide +kernel, by decide +kernel⟩
abbrev s_number_of : Stmt := top 28
theorem sc_number_of : FnScope ["digits", "head", "number", "at"] ["digits"] (defScope s_number_of) := ⟨rfl, rfl, rfl, by decide +kernel, rfl, by decide +kernel, by decide +kernel⟩
abbrev s_T_init : Stmt := inClass (top 30) 0
theorem sc_T_init : FnScope ["self", "first", "second", "length", "amount", "down", "backward", "way", "back"] ["self", "first", "second", "length", "amount", "down", "backward"] (defScope s_T_init) := ⟨rfl, rfl, rfl, by decide +kernel, rfl, by decide +kernel, by decide +kernel⟩
abbrev s_T_of : Stmt := inClass (top 30) 1
theorem sc_T_of : FnScope ["text", "values", "first", "second", "length", "amount", "down", "backward", "tie"] ["text"] (defScope s_T_of) := ⟨rfl, rfl, rfl, by decide +kernel, rfl, by decide +kernel, by decide +kernel⟩
abbrev s_T_eq : Stmt := inClass (top 30) 8
theorem sc_T_eq : FnScope ["self", "other"] ["self", "other"] (defScope s_T_eq) := ⟨rfl, rfl, rfl, by decide +kernel, rfl, by decide +kernel, by decide +kernel⟩
abbrev s_is_tie_within : Stmt := top 31
theorem sc_is_tie_within : FnScope ["value", "size"] ["value", "size"] (defScope s_is_tie_within) := ⟨rfl, rfl, rfl, by decide +kernel, rfl, by decide +kernel, by decide +kernel⟩
abbrev s_check_parts : Stmt := top 32
theorem sc_check_parts : FnScope ["first", "second", "length"] ["first", "second", "length"] (defScope s_check_parts) := ⟨rfl, rfl, rfl, by decide +kernel, rfl, by decide +kernel, by decide +kernel⟩
abbrev s_check_leading : Stmt := top 33
theorem sc_check_leading : FnScope ["amount", "down", "backward"] ["amount", "down", "backward"] (defScope s_check_leading) := ⟨rfl, rfl, rfl, by decide +kernel, rfl, by decide +kernel, by decide +kernel⟩
abbrev s_values_in : Stmt := top 34
theorem sc_values_in : FnScope ["text", "words", "backward", "numbers", "word"] ["text"] (defScope s_values_in) := ⟨rfl, rfl, rfl, by decide +kernel, rfl, by decide +kernel, by decide +kernel⟩
abbrev s_numbers_behind : Stmt := top 40
theorem sc_numbers_behind : FnScope ["line", "word", "many", "words", "numbers", "one"] ["line", "word", "many"] (defScope s_numbers_behind) := ⟨rfl, rfl, rfl, by decide +kernel, rfl, by decide +kernel, by decide +kernel⟩
abbrev s_tie_behind : Stmt := top 41
theorem sc_tie_behind : FnScope ["line", "word", "first", "_", "text", "tie"] ["line", "word"] (defScope s_tie_behind) := ⟨rfl, rfl, rfl, by decide +kernel, rfl, by decide +kernel, by decide +kernel⟩
abbrev s_size_in : Stmt := top 42
theorem sc_size_in : FnScope ["line", "numbers"] ["line"] (defScope s_size_in) := ⟨rfl, rfl, rfl, by decide +kernel, rfl, by decide +kernel, by decide +kernel⟩
abbrev s_tie_in : Stmt := top 43
theorem sc_tie_in : FnScope ["line", "size", "tie"] ["line", "size"] (defScope s_tie_in) := ⟨rfl, rfl, rfl, by decide +kernel, rfl, by decide +kernel, by decide +kernel⟩
abbrev s_note_in : Stmt := top 44
theorem sc_note_in : FnScope ["line", "size", "numbers"] ["line", "size"] (defScope s_note_in) := ⟨rfl, rfl, rfl, by decide +kernel, rfl, by decide +kernel, by decide +kernel⟩
abbrev s_B_init : Stmt := inClass (top 47) 0
theorem sc_B_init : FnScope ["self", "text", "size", "ties", "notes"] ["self", "text"] (defScope s_B_init) := ⟨rfl, rfl, rfl, by decide +kernel, rfl, by decide +kernel, by decide +kernel⟩
abbrev s_B_len : Stmt := inClass (top 47) 1
theorem sc_B_len : FnScope ["self"] ["self"] (defScope s_B_len) := ⟨rfl, rfl, rfl, by decide +kernel, rfl, by decide +kernel, by decide +kernel⟩
abbrev s_B_getitem : Stmt := inClass (top 47) 2
theorem sc_B_getitem : FnScope ["self", "at"] ["self", "at"] (defScope s_B_getitem) := ⟨rfl, rfl, rfl, by decide +kernel, rfl, by decide +kernel, by decide +kernel⟩
abbrev s_B_contains : Stmt := inClass (top 47) 4
theorem sc_B_contains : FnScope ["self", "x"] ["self", "x"] (defScope s_B_contains) := ⟨rfl, rfl, rfl, by decide +kernel, rfl, by decide +kernel, by decide +kernel⟩
abbrev s_B_eq : Stmt := inClass (top 47) 12
theorem sc_B_eq : FnScope ["self", "other"] ["self", "other"] (defScope s_B_eq) := ⟨rfl, rfl, rfl, by decide +kernel, rfl, by decide +kernel, by decide +kernel⟩
abbrev s_contents : Stmt := top 48
theorem sc_contents : FnScope ["text", "lines", "size", "ties", "notes", "read"] ["text"] (defScope s_contents) := ⟨rfl, rfl, rfl, by decide +kernel, rfl, by decide +kernel, by decide +kernel⟩
abbrev s_first_ties : Stmt := top 49
theorem sc_first_ties : FnScope ["lines", "size", "ties", "line", "tie"] ["lines", "size"] (defScope s_first_ties) := ⟨rfl, rfl, rfl, by decide +kernel, rfl, by decide +kernel, by decide +kernel⟩
abbrev s_first_notes : Stmt := top 50
theorem sc_first_notes : FnScope ["lines", "size", "notes", "line", "note"] ["lines", "size"] (defScope s_first_notes) := ⟨rfl, rfl, rfl, by decide +kernel, rfl, by decide +kernel, by decide +kernel⟩
abbrev s_has_note : Stmt := top 51
theorem sc_has_note : FnScope ["notes", "place", "told", "_"] ["notes", "place"] (defScope s_has_note) := ⟨rfl, rfl, rfl, by decide +kernel, rfl, by decide +kernel, by decide +kernel⟩
abbrev s_l_pot : Stmt := top 58
theorem sc_l_pot : FnScope ["_law_script", "_law_k", "_law_cell", "_law_own", "_law_small"] ["_law_script", "_law_k"] (defScope s_l_pot) := ⟨rfl, rfl, rfl, by decide +kernel, rfl, by decide +kernel, by decide +kernel⟩
abbrev s_l_take : Stmt := top 59
theorem sc_l_take : FnScope ["_law_pot_here", "_law_under", "_law_digit", "_law_prime", "_law_mixed"] ["_law_pot_here", "_law_under"] (defScope s_l_take) := ⟨rfl, rfl, rfl, by decide +kernel, rfl, by decide +kernel, by decide +kernel⟩
abbrev s_l_of : Stmt := top 60
theorem sc_l_of : FnScope ["_law_pot_here", "_law_some"] ["_law_pot_here", "_law_some"] (defScope s_l_of) := ⟨rfl, rfl, rfl, by decide +kernel, rfl, by decide +kernel, by decide +kernel⟩
abbrev s_l_cells : Stmt := top 61
theorem sc_l_cells : FnScope ["_law_script", "_law_most"] ["_law_script", "_law_most"] (defScope s_l_cells) := ⟨rfl, rfl, rfl, by decide +kernel, rfl, by decide +kernel, by decide +kernel⟩
abbrev s_l_met_error : Stmt := top 62
theorem sc_l_met_error : FnScope ["_law_look", "_law_caught", "error"] ["_law_look"] (defScope s_l_met_error) := ⟨rfl, rfl, rfl, by decide +kernel, rfl, by decide +kernel, by decide +kernel⟩
abbrev s_l_odd : Stmt := top 63
theorem sc_l_odd : FnScope ["_law_pot_here", "_law_some"] ["_law_pot_here"] (defScope s_l_odd) := ⟨rfl, rfl, rfl, by decide +kernel, rfl, by decide +kernel, by decide +kernel⟩
abbrev s_l_amount : Stmt := top 64
theorem sc_l_amount : FnScope ["_law_pot_here"] ["_law_pot_here"] (defScope s_l_amount) := ⟨rfl, rfl, rfl, by decide +kernel, rfl, by decide +kernel, by decide +kernel⟩
abbrev s_l_row : Stmt := top 65
theorem sc_l_row : FnScope ["_law_pot_here", "_law_size", "_law_length", "_law_first", "_law_second", "_law_amount_here", "_law_is_down", "_law_is_back"] ["_law_pot_here", "_law_size"] (defScope s_l_row) := ⟨rfl, rfl, rfl, by decide +kernel, rfl, by decide +kernel, by decide +kernel⟩
abbrev s_l_tie : Stmt := top 66
theorem sc_l_tie : FnScope ["_law_row_here"] ["_law_row_here"] (defScope s_l_tie) := ⟨rfl, rfl, rfl, by decide +kernel, rfl, by decide +kernel, by decide +kernel⟩
abbrev s_l_row_of : Stmt := top 67
theorem sc_l_row_of : FnScope ["_law_tie_here"] ["_law_tie_here"] (defScope s_l_row_of) := ⟨rfl, rfl, rfl, by decide +kernel, rfl, by decide +kernel, by decide +kernel⟩
abbrev s_l_text_of : Stmt := top 68
theorem sc_l_text_of : FnScope ["_law_row_here", "_law_words"] ["_law_row_here"] (defScope s_l_text_of) := ⟨rfl, rfl, rfl, by decide +kernel, rfl, by decide +kernel, by decide +kernel⟩
abbrev s_l_lore : Stmt := top 69
theorem sc_l_lore : FnScope ["_law_pot_here", "_law_most", "_law_ties", "_law_notes", "_law_lore_here", "_law_lap", "_law_left"] ["_law_pot_here", "_law_most", "_law_ties", "_law_notes"] (defScope s_l_lore) := ⟨rfl, rfl, rfl, by decide +kernel, rfl, by decide +kernel, by decide +kernel⟩
abbrev s_l_lines : Stmt := top 70
theorem sc_l_lines : FnScope ["_law_lore_here", "_law_lines_here", "_law_row_here", "_law_place", "_law_note"] ["_law_lore_here"] (defScope s_l_lines) := ⟨rfl, rfl, rfl, by decide +kernel, rfl, by decide +kernel, by decide +kernel⟩
abbrev s_l_book : Stmt := top 71
theorem sc_l_book : FnScope ["_law_lore_here"] ["_law_lore_here"] (defScope s_l_book) := ⟨rfl, rfl, rfl, by decide +kernel, rfl, by decide +kernel, by decide +kernel⟩
abbrev s_l_is_as : Stmt := top 72
theorem sc_l_is_as : FnScope ["_law_book_here", "_law_lore_here", "_law_rows", "_law_notes", "_law_given", "_law_tie_here"] ["_law_book_here", "_law_lore_here"] (defScope s_l_is_as) := ⟨rfl, rfl, rfl, by decide +kernel, rfl, by decide +kernel, by decide +kernel⟩
abbrev s_l_right : Stmt := top 73
theorem sc_l_right : FnScope ["_law_pot_here", "_law_lore_here", "_law_book_here", "_law_other", "_law_at", "_law_row_here", "_law_value", "_law_caught", "_law_great"] ["_law_pot_here"] (defScope s_l_right) := ⟨rfl, rfl, rfl, by decide +kernel, rfl, by decide +kernel, by decide +kernel⟩
abbrev s_law : Stmt := top 74
theorem sc_law : FnScope ["_law_script", "_law_k", "_law_pot_here", "_law_lap"] ["_law_script"] (defScope s_law) := ⟨rfl, rfl, rfl, by decide +kernel, rfl, by decide +kernel, by decide +kernel⟩
structure Zs where
  c : Nat → Addr
  f_E_init : Addr
  d_E_init : FuncData
  f_is_whole : Addr
  d_is_whole : FuncData
  f_is_from : Addr
  d_is_from : FuncData
  f_is_between : Addr
  d_is_between : FuncData
  f_written : Addr
  d_written : FuncData
  f_number_in : Addr
  d_number_in : FuncData
  f_number_of : Addr
  d_number_of : FuncData
  f_T_init : Addr
  d_T_init : FuncData
  f_T_of : Addr
  d_T_of : FuncData
  f_T_eq : Addr
  d_T_eq : FuncData
  f_is_tie_within : Addr
  d_is_tie_within : FuncData
  f_check_parts : Addr
  d_check_parts : FuncData
  f_check_leading : Addr
  d_check_leading : FuncData
  f_values_in : Addr
  d_values_in : FuncData
  f_numbers_behind : Addr
  d_numbers_behind : FuncData
  f_tie_behind : Addr
  d_tie_behind : FuncData
  f_size_in : Addr
  d_size_in : FuncData
  f_tie_in : Addr
  d_tie_in : FuncData
  f_note_in : Addr
  d_note_in : FuncData
  f_B_init : Addr
  d_B_init : FuncData
  f_B_len : Addr
  d_B_len : FuncData
  f_B_getitem : Addr
  d_B_getitem : FuncData
  f_B_contains : Addr
  d_B_contains : FuncData
  f_B_eq : Addr
  d_B_eq : FuncData
  f_contents : Addr
  d_contents : FuncData
  f_first_ties : Addr
  d_first_ties : FuncData
  f_first_notes : Addr
  d_first_notes : FuncData
  f_has_note : Addr
  d_has_note : FuncData
  f_l_pot : Addr
  d_l_pot : FuncData
  f_l_take : Addr
  d_l_take : FuncData
  f_l_of : Addr
  d_l_of : FuncData
  f_l_cells : Addr
  d_l_cells : FuncData
  f_l_met_error : Addr
  d_l_met_error : FuncData
  f_l_odd : Addr
  d_l_odd : FuncData
  f_l_amount : Addr
  d_l_amount : FuncData
  f_l_row : Addr
  d_l_row : FuncData
  f_l_tie : Addr
  d_l_tie : FuncData
  f_l_row_of : Addr
  d_l_row_of : FuncData
  f_l_text_of : Addr
  d_l_text_of : FuncData
  f_l_lore : Addr
  d_l_lore : FuncData
  f_l_lines : Addr
  d_l_lines : FuncData
  f_l_book : Addr
  d_l_book : FuncData
  f_l_is_as : Addr
  d_l_is_as : FuncData
  f_l_right : Addr
  d_l_right : FuncData
  f_law : Addr
  d_law : FuncData
  c_l_right : Addr
  t_l_right : Addr
  cC : Addr
  cB : Addr
  t_GREATEST : Tok
  t__DIGITS : Tok
  t__CHUNK : Tok
  t_MOST : Tok
  pS : Addr
/-- where the top has put each def, and what it says of them -/
structure Txt (K : PySem.W.Frag) (mg : Str → Option Value) (Z : Zs) : Prop where
  F_E_init : Fun K "__init__" "TuneError.__init__" s_E_init Z.f_E_init Z.d_E_init
  bn_E_init : Binds K Z.d_E_init ["self", "value"] []
  k_E_init : PySem.W.keepIn K (.ref Z.f_E_init) = true
  i_E_init : PySem.W.isFn K (.ref Z.f_E_init) = true
  F_is_whole : Fun K "is_whole" "is_whole" s_is_whole Z.f_is_whole Z.d_is_whole
  bn_is_whole : Binds K Z.d_is_whole ["value"] []
  k_is_whole : PySem.W.keepIn K (.ref Z.f_is_whole) = true
  g_is_whole : mg "is_whole" = some (.ref Z.f_is_whole)
  F_is_from : Fun K "is_from" "is_from" s_is_from Z.f_is_from Z.d_is_from
  bn_is_from : Binds K Z.d_is_from ["value", "least"] []
  k_is_from : PySem.W.keepIn K (.ref Z.f_is_from) = true
  g_is_from : mg "is_from" = some (.ref Z.f_is_from)
  F_is_between : Fun K "is_between" "is_between" s_is_between Z.f_is_between Z.d_is_between
  bn_is_between : Binds K Z.d_is_between ["value", "least", "greatest"] []
  k_is_between : PySem.W.keepIn K (.ref Z.f_is_between) = true
  g_is_between : mg "is_between" = some (.ref Z.f_is_between)
  F_written : Fun K "written" "written" s_written Z.f_written Z.d_written
  bn_written : Binds K Z.d_written ["number"] []
  k_written : PySem.W.keepIn K (.ref Z.f_written) = true
  g_written : mg "written" = some (.ref Z.f_written)
  F_number_in : Fun K "number_in" "number_in" s_number_in Z.f_number_in Z.d_number_in
  bn_number_in : Binds K Z.d_number_in ["word"] []
  k_number_in : PySem.W.keepIn K (.ref Z.f_number_in) = true
  g_number_in : mg "number_in" = some (.ref Z.f_number_in)
  F_number_of : Fun K "_number_of" "_number_of" s_number_of Z.f_number_of Z.d_number_of
  bn_number_of : Binds K Z.d_number_of ["digits"] []
  k_number_of : PySem.W.keepIn K (.ref Z.f_number_of) = true
  g_number_of : mg "_number_of" = some (.ref Z.f_number_of)
  F_T_init : FunD K "__init__" "Tie.__init__" (defArgs s_T_init) (defBody s_T_init) (defScope s_T_init) [.int 0] [("down", .bl false), ("backward", .bl false)] Z.f_T_init Z.d_T_init
  k_T_init : PySem.W.keepIn K (.ref Z.f_T_init) = true
  i_T_init : PySem.W.isFn K (.ref Z.f_T_init) = true
  a_T_init : PySem.W.findIn K (.ref Z.cC) "__init__" = some (some (.ref Z.f_T_init))
  F_T_of : Fun K "of" "Tie.of" s_T_of Z.f_T_of Z.d_T_of
  bn_T_of : Binds K Z.d_T_of ["text"] []
  k_T_of : PySem.W.keepIn K (.ref Z.f_T_of) = true
  i_T_of : PySem.W.isFn K (.ref Z.f_T_of) = true
  F_T_eq : Fun K "__eq__" "Tie.__eq__" s_T_eq Z.f_T_eq Z.d_T_eq
  bn_T_eq : Binds K Z.d_T_eq ["self", "other"] []
  k_T_eq : PySem.W.keepIn K (.ref Z.f_T_eq) = true
  i_T_eq : PySem.W.isFn K (.ref Z.f_T_eq) = true
  a_T_eq : PySem.W.findIn K (.ref Z.cC) "__eq__" = some (some (.ref Z.f_T_eq))
  F_is_tie_within : Fun K "is_tie_within" "is_tie_within" s_is_tie_within Z.f_is_tie_within Z.d_is_tie_within
  bn_is_tie_within : Binds K Z.d_is_tie_within ["value", "size"] []
  k_is_tie_within : PySem.W.keepIn K (.ref Z.f_is_tie_within) = true
  g_is_tie_within : mg "is_tie_within" = some (.ref Z.f_is_tie_within)
  F_check_parts : Fun K "_check_parts" "_check_parts" s_check_parts Z.f_check_parts Z.d_check_parts
  bn_check_parts : Binds K Z.d_check_parts ["first", "second", "length"] []
  k_check_parts : PySem.W.keepIn K (.ref Z.f_check_parts) = true
  g_check_parts : mg "_check_parts" = some (.ref Z.f_check_parts)
  F_check_leading : Fun K "_check_leading" "_check_leading" s_check_leading Z.f_check_leading Z.d_check_leading
  bn_check_leading : Binds K Z.d_check_leading ["amount", "down", "backward"] []
  k_check_leading : PySem.W.keepIn K (.ref Z.f_check_leading) = true
  g_check_leading : mg "_check_leading" = some (.ref Z.f_check_leading)
  F_values_in : Fun K "_values_in" "_values_in" s_values_in Z.f_values_in Z.d_values_in
  bn_values_in : Binds K Z.d_values_in ["text"] []
  k_values_in : PySem.W.keepIn K (.ref Z.f_values_in) = true
  g_values_in : mg "_values_in" = some (.ref Z.f_values_in)
  F_numbers_behind : Fun K "numbers_behind" "numbers_behind" s_numbers_behind Z.f_numbers_behind Z.d_numbers_behind
  bn_numbers_behind : Binds K Z.d_numbers_behind ["line", "word", "many"] []
  k_numbers_behind : PySem.W.keepIn K (.ref Z.f_numbers_behind) = true
  g_numbers_behind : mg "numbers_behind" = some (.ref Z.f_numbers_behind)
  F_tie_behind : Fun K "tie_behind" "tie_behind" s_tie_behind Z.f_tie_behind Z.d_tie_behind
  bn_tie_behind : Binds K Z.d_tie_behind ["line", "word"] []
  k_tie_behind : PySem.W.keepIn K (.ref Z.f_tie_behind) = true
  g_tie_behind : mg "tie_behind" = some (.ref Z.f_tie_behind)
  F_size_in : Fun K "size_in" "size_in" s_size_in Z.f_size_in Z.d_size_in
  bn_size_in : Binds K Z.d_size_in ["line"] []
  k_size_in : PySem.W.keepIn K (.ref Z.f_size_in) = true
  g_size_in : mg "size_in" = some (.ref Z.f_size_in)
  F_tie_in : Fun K "tie_in" "tie_in" s_tie_in Z.f_tie_in Z.d_tie_in
  bn_tie_in : Binds K Z.d_tie_in ["line", "size"] []
  k_tie_in : PySem.W.keepIn K (.ref Z.f_tie_in) = true
  g_tie_in : mg "tie_in" = some (.ref Z.f_tie_in)
  F_note_in : Fun K "note_in" "note_in" s_note_in Z.f_note_in Z.d_note_in
  bn_note_in : Binds K Z.d_note_in ["line", "size"] []
  k_note_in : PySem.W.keepIn K (.ref Z.f_note_in) = true
  g_note_in : mg "note_in" = some (.ref Z.f_note_in)
  F_B_init : Fun K "__init__" "Book.__init__" s_B_init Z.f_B_init Z.d_B_init
  bn_B_init : Binds K Z.d_B_init ["self", "text"] []
  k_B_init : PySem.W.keepIn K (.ref Z.f_B_init) = true
  i_B_init : PySem.W.isFn K (.ref Z.f_B_init) = true
  a_B_init : PySem.W.findIn K (.ref Z.cB) "__init__" = some (some (.ref Z.f_B_init))
  F_B_len : Fun K "__len__" "Book.__len__" s_B_len Z.f_B_len Z.d_B_len
  bn_B_len : Binds K Z.d_B_len ["self"] []
  k_B_len : PySem.W.keepIn K (.ref Z.f_B_len) = true
  i_B_len : PySem.W.isFn K (.ref Z.f_B_len) = true
  a_B_len : PySem.W.findIn K (.ref Z.cB) "__len__" = some (some (.ref Z.f_B_len))
  F_B_getitem : Fun K "__getitem__" "Book.__getitem__" s_B_getitem Z.f_B_getitem Z.d_B_getitem
  bn_B_getitem : Binds K Z.d_B_getitem ["self", "at"] []
  k_B_getitem : PySem.W.keepIn K (.ref Z.f_B_getitem) = true
  i_B_getitem : PySem.W.isFn K (.ref Z.f_B_getitem) = true
  a_B_getitem : PySem.W.findIn K (.ref Z.cB) "__getitem__" = some (some (.ref Z.f_B_getitem))
  F_B_contains : Fun K "__contains__" "Book.__contains__" s_B_contains Z.f_B_contains Z.d_B_contains
  bn_B_contains : Binds K Z.d_B_contains ["self", "x"] []
  k_B_contains : PySem.W.keepIn K (.ref Z.f_B_contains) = true
  i_B_contains : PySem.W.isFn K (.ref Z.f_B_contains) = true
  a_B_contains : PySem.W.findIn K (.ref Z.cB) "__contains__" = some (some (.ref Z.f_B_contains))
  F_B_eq : Fun K "__eq__" "Book.__eq__" s_B_eq Z.f_B_eq Z.d_B_eq
  bn_B_eq : Binds K Z.d_B_eq ["self", "other"] []
  k_B_eq : PySem.W.keepIn K (.ref Z.f_B_eq) = true
  i_B_eq : PySem.W.isFn K (.ref Z.f_B_eq) = true
  a_B_eq : PySem.W.findIn K (.ref Z.cB) "__eq__" = some (some (.ref Z.f_B_eq))
  F_contents : Fun K "_contents" "_contents" s_contents Z.f_contents Z.d_contents
  bn_contents : Binds K Z.d_contents ["text"] []
  k_contents : PySem.W.keepIn K (.ref Z.f_contents) = true
  g_contents : mg "_contents" = some (.ref Z.f_contents)
  F_first_ties : Fun K "_first_ties" "_first_ties" s_first_ties Z.f_first_ties Z.d_first_ties
  bn_first_ties : Binds K Z.d_first_ties ["lines", "size"] []
  k_first_ties : PySem.W.keepIn K (.ref Z.f_first_ties) = true
  g_first_ties : mg "_first_ties" = some (.ref Z.f_first_ties)
  F_first_notes : Fun K "_first_notes" "_first_notes" s_first_notes Z.f_first_notes Z.d_first_notes
  bn_first_notes : Binds K Z.d_first_notes ["lines", "size"] []
  k_first_notes : PySem.W.keepIn K (.ref Z.f_first_notes) = true
  g_first_notes : mg "_first_notes" = some (.ref Z.f_first_notes)
  F_has_note : Fun K "_has_note" "_has_note" s_has_note Z.f_has_note Z.d_has_note
  bn_has_note : Binds K Z.d_has_note ["notes", "place"] []
  k_has_note : PySem.W.keepIn K (.ref Z.f_has_note) = true
  g_has_note : mg "_has_note" = some (.ref Z.f_has_note)
  F_l_pot : Fun K "_law_pot" "_law_pot" s_l_pot Z.f_l_pot Z.d_l_pot
  bn_l_pot : Binds K Z.d_l_pot ["_law_script", "_law_k"] []
  k_l_pot : PySem.W.keepIn K (.ref Z.f_l_pot) = true
  g_l_pot : mg "_law_pot" = some (.ref Z.f_l_pot)
  F_l_take : Fun K "_law_take" "_law_take" s_l_take Z.f_l_take Z.d_l_take
  bn_l_take : Binds K Z.d_l_take ["_law_pot_here", "_law_under"] []
  k_l_take : PySem.W.keepIn K (.ref Z.f_l_take) = true
  g_l_take : mg "_law_take" = some (.ref Z.f_l_take)
  F_l_of : Fun K "_law_of" "_law_of" s_l_of Z.f_l_of Z.d_l_of
  bn_l_of : Binds K Z.d_l_of ["_law_pot_here", "_law_some"] []
  k_l_of : PySem.W.keepIn K (.ref Z.f_l_of) = true
  g_l_of : mg "_law_of" = some (.ref Z.f_l_of)
  F_l_cells : Fun K "_law_cells" "_law_cells" s_l_cells Z.f_l_cells Z.d_l_cells
  bn_l_cells : Binds K Z.d_l_cells ["_law_script", "_law_most"] []
  k_l_cells : PySem.W.keepIn K (.ref Z.f_l_cells) = true
  g_l_cells : mg "_law_cells" = some (.ref Z.f_l_cells)
  F_l_met_error : Fun K "_law_met_error" "_law_met_error" s_l_met_error Z.f_l_met_error Z.d_l_met_error
  bn_l_met_error : Binds K Z.d_l_met_error ["_law_look"] []
  k_l_met_error : PySem.W.keepIn K (.ref Z.f_l_met_error) = true
  g_l_met_error : mg "_law_met_error" = some (.ref Z.f_l_met_error)
  F_l_odd : Fun K "_law_odd" "_law_odd" s_l_odd Z.f_l_odd Z.d_l_odd
  bn_l_odd : Binds K Z.d_l_odd ["_law_pot_here"] []
  k_l_odd : PySem.W.keepIn K (.ref Z.f_l_odd) = true
  g_l_odd : mg "_law_odd" = some (.ref Z.f_l_odd)
  F_l_amount : Fun K "_law_amount" "_law_amount" s_l_amount Z.f_l_amount Z.d_l_amount
  bn_l_amount : Binds K Z.d_l_amount ["_law_pot_here"] []
  k_l_amount : PySem.W.keepIn K (.ref Z.f_l_amount) = true
  g_l_amount : mg "_law_amount" = some (.ref Z.f_l_amount)
  F_l_row : Fun K "_law_row" "_law_row" s_l_row Z.f_l_row Z.d_l_row
  bn_l_row : Binds K Z.d_l_row ["_law_pot_here", "_law_size"] []
  k_l_row : PySem.W.keepIn K (.ref Z.f_l_row) = true
  g_l_row : mg "_law_row" = some (.ref Z.f_l_row)
  F_l_tie : Fun K "_law_tie" "_law_tie" s_l_tie Z.f_l_tie Z.d_l_tie
  bn_l_tie : Binds K Z.d_l_tie ["_law_row_here"] []
  k_l_tie : PySem.W.keepIn K (.ref Z.f_l_tie) = true
  g_l_tie : mg "_law_tie" = some (.ref Z.f_l_tie)
  F_l_row_of : Fun K "_law_row_of" "_law_row_of" s_l_row_of Z.f_l_row_of Z.d_l_row_of
  bn_l_row_of : Binds K Z.d_l_row_of ["_law_tie_here"] []
  k_l_row_of : PySem.W.keepIn K (.ref Z.f_l_row_of) = true
  g_l_row_of : mg "_law_row_of" = some (.ref Z.f_l_row_of)
  F_l_text_of : Fun K "_law_text_of" "_law_text_of" s_l_text_of Z.f_l_text_of Z.d_l_text_of
  bn_l_text_of : Binds K Z.d_l_text_of ["_law_row_here"] []
  k_l_text_of : PySem.W.keepIn K (.ref Z.f_l_text_of) = true
  g_l_text_of : mg "_law_text_of" = some (.ref Z.f_l_text_of)
  F_l_lore : Fun K "_law_lore" "_law_lore" s_l_lore Z.f_l_lore Z.d_l_lore
  bn_l_lore : Binds K Z.d_l_lore ["_law_pot_here", "_law_most", "_law_ties", "_law_notes"] []
  k_l_lore : PySem.W.keepIn K (.ref Z.f_l_lore) = true
  g_l_lore : mg "_law_lore" = some (.ref Z.f_l_lore)
  F_l_lines : Fun K "_law_lines" "_law_lines" s_l_lines Z.f_l_lines Z.d_l_lines
  bn_l_lines : Binds K Z.d_l_lines ["_law_lore_here"] []
  k_l_lines : PySem.W.keepIn K (.ref Z.f_l_lines) = true
  g_l_lines : mg "_law_lines" = some (.ref Z.f_l_lines)
  F_l_book : Fun K "_law_book" "_law_book" s_l_book Z.f_l_book Z.d_l_book
  bn_l_book : Binds K Z.d_l_book ["_law_lore_here"] []
  k_l_book : PySem.W.keepIn K (.ref Z.f_l_book) = true
  g_l_book : mg "_law_book" = some (.ref Z.f_l_book)
  F_l_is_as : Fun K "_law_is_as" "_law_is_as" s_l_is_as Z.f_l_is_as Z.d_l_is_as
  bn_l_is_as : Binds K Z.d_l_is_as ["_law_book_here", "_law_lore_here"] []
  k_l_is_as : PySem.W.keepIn K (.ref Z.f_l_is_as) = true
  g_l_is_as : mg "_law_is_as" = some (.ref Z.f_l_is_as)
  F_l_right : FunC K "_law_right" "_law_right" s_l_right Z.f_l_right Z.d_l_right Z.c_l_right
  bn_l_right : Binds K Z.d_l_right ["_law_pot_here"] []
  k_l_right : PySem.W.keepIn K (.ref Z.f_l_right) = true
  g_l_right : mg "_law_right" = some (.ref Z.f_l_right)
  F_law : Fun K "law" "law" s_law Z.f_law Z.d_law
  bn_law : Binds K Z.d_law ["_law_script"] []
  k_law : PySem.W.keepIn K (.ref Z.f_law) = true
  g_law : mg "law" = some (.ref Z.f_law)
  b_isinstance : mg "isinstance" = none
  b_int : mg "int" = none
  b_bool : mg "bool" = none
  b_str : mg "str" = none
  b_range : mg "range" = none
  b_len : mg "len" = none
  b_max : mg "max" = none
  b_tuple : mg "tuple" = none
  b_abs : mg "abs" = none
  b_list : mg "list" = none
  b_min : mg "min" = none
  b_repr : mg "repr" = none
  b_enumerate : mg "enumerate" = none
  b_all : mg "all" = none
  c_GREATEST : mg "GREATEST" = some (.int 1000000000000000000000000000000 Z.t_GREATEST)
  c__DIGITS : mg "_DIGITS" = some (.int 64 Z.t__DIGITS)
  c__CHUNK : mg "_CHUNK" = some (.int 10000000000000000000000000000000000000000000000000000000000000000 Z.t__CHUNK)
  c_MOST : mg "MOST" = some (.int 12 Z.t_MOST)
  cl : Cls K Z.cC
  g_C : mg "Tie" = some (.ref Z.cC)
  mkC : PySem.W.makesIn K Z.cC = true
  kC : PySem.W.keepIn K (.ref Z.cC) = true
  n_first : NoAttr K Z.cC "first"
  n_second : NoAttr K Z.cC "second"
  n_length : NoAttr K Z.cC "length"
  n_amount : NoAttr K Z.cC "amount"
  n_down : NoAttr K Z.cC "down"
  n_backward : NoAttr K Z.cC "backward"
  n_text : NoAttr K Z.cC "text"
  clB : Cls K Z.cB
  g_Bk : mg "Book" = some (.ref Z.cB)
  mkBc : PySem.W.makesIn K Z.cB = true
  kB : PySem.W.keepIn K (.ref Z.cB) = true
  nB_text : NoAttr K Z.cB "text"
  nB_size : NoAttr K Z.cB "size"
  nB_ties : NoAttr K Z.cB "ties"
  nB_notes : NoAttr K Z.cB "notes"
  g_NoTie : mg "NoTie" = some (.ref (Z.c 0))
  g_TuneError : mg "TuneError" = some (.ref (Z.c 1))
  ex : ∀ i, i < 2 → ExcT K (Z.c 1) Z.f_E_init (Z.c i)
  nd : ∀ i j, i < 2 → j < 2 → Z.c i = Z.c j → i = j
  z_ve : PySem.W.findCls K (.type "ValueError") (.type "type") "__init__" = some (.val (.builtin "ValueError.__init__"))
  t_E_init : PySem.W.typeIn K (.ref Z.f_E_init) = some (.type "function")
  b_ValueError : mg "ValueError" = none
  z_cls : PySem.W.findIn K (.ref Z.cC) "__class__" = some (some (.builtin "object.__class__"))
  z_mro : PySem.W.mroIn K Z.cC (.type "object") = some true
  z_kit : PySem.W.kitOne K (.ref Z.cC) (.ref Z.cC) = some true
  z_ty : PySem.W.typeIn K (.ref Z.cC) = some (.type "type")
  z_clsB : PySem.W.findIn K (.ref Z.cB) "__class__" = some (some (.builtin "object.__class__"))
  z_mroB : PySem.W.mroIn K Z.cB (.type "object") = some true
  z_kitB : PySem.W.kitOne K (.ref Z.cB) (.ref Z.cB) = some true
  z_tyB : PySem.W.typeIn K (.ref Z.cB) = some (.type "type")
  z_get : PySem.W.specialIn K (.builtin "object.__class__") "__get__" = some (some (.builtin "getset_descriptor.__get__"))
  z_tk : PySem.W.takesIn K (.builtin "object.__class__") = some true
  z_read : ClX.CRead K Z.cC (.type "type")
  z_sta : CSta K Z.cC (.type "type") "of" Z.pS Z.f_T_of
  z_subN : PySem.W.subIn K (.type "NoneType") (.ref Z.cC) = some false
  z_kitN : PySem.W.kitOne K (.type "NoneType") (.ref Z.cC) = some false
  z_subT : PySem.W.subIn K (.type "tuple") (.ref Z.cC) = some false
  z_kitT : PySem.W.kitOne K (.type "tuple") (.ref Z.cC) = some false
  z_subL : PySem.W.subIn K (.type "list") (.ref Z.cC) = some false
  z_kitL : PySem.W.kitOne K (.type "list") (.ref Z.cC) = some false
  z_subD : PySem.W.subIn K (.type "dict") (.ref Z.cC) = some false
  z_kitD : PySem.W.kitOne K (.type "dict") (.ref Z.cC) = some false
  z_subI : PySem.W.subIn K (.type "int") (.ref Z.cC) = some false
  z_kitI : PySem.W.kitOne K (.type "int") (.ref Z.cC) = some false
  z_subO : PySem.W.subIn K (.type "bool") (.ref Z.cC) = some false
  z_kitO : PySem.W.kitOne K (.type "bool") (.ref Z.cC) = some false
  z_subS : PySem.W.subIn K (.type "str") (.ref Z.cC) = some false
  z_kitS : PySem.W.kitOne K (.type "str") (.ref Z.cC) = some false
  z_subIB : PySem.W.subIn K (.type "int") (.ref Z.cB) = some false
  z_kitIB : PySem.W.kitOne K (.type "int") (.ref Z.cB) = some false
  z_notIB : PySem.W.notFirst K Z.cB (.type "int") = true
  z_subSB : PySem.W.subIn K (.type "str") (.ref Z.cB) = some false
  z_kitSB : PySem.W.kitOne K (.type "str") (.ref Z.cB) = some false
  z_notSB : PySem.W.notFirst K Z.cB (.type "str") = true
  z_notT : PySem.W.notFirst K Z.cC (.type "tuple") = true
  z_notTB : PySem.W.notFirst K Z.cB (.type "tuple") = true
  z_neB : PySem.W.findIn K (.ref Z.cB) "__ne__" = some (some (.builtin "object.__ne__"))
  z_fn : PySem.W.fnIn K Z.f_B_getitem = true
end TT

set_option Elab.async false
set_option linter.all false
set_option maxRecDepth 100000
set_option maxHeartbeats 4000000
namespace TT
open PySem PySem.Spec PyProof.Rows L2
/-! ### the law's draws -/
/-- a pot of draws stands at p: n numbers were mixed so far -/
def Pot (H : Hp) (p : Addr) (n : Nat) : Prop := ∃ own mix : Int, H p = some (.lst [.int own, .int mix, .int (n : Int)]) ∧ 0 ≤ own ∧ own < 10 ^ 300 ∧ 0 ≤ mix ∧ mix < 2305843009213693951
/-- all that was tracked but the object at p is as it was -/
def Keep (p : Addr) (H H' : Hp) : Prop := ∀ b o, b ≠ p → H b = some o → H' b = some o
theorem Keep.rfl' {p : Addr} {H : Hp} : Keep p H H := fun _ _ _ h => h
theorem Keep.trans {p : Addr} {H H1 H2 : Hp} (a : Keep p H H1) (b : Keep p H1 H2) : Keep p H H2 := fun c o n h => b c o n (a c o n h)
theorem Keep.of {p : Addr} {H H1 : Hp} (a : Same H H1) : Keep p H H1 := fun c o _ h => a c o h
theorem Keep.upd {p : Addr} {H H1 : Hp} {o : HO} (a : Keep p H H1) : Keep p H (upd H1 p o) := fun c u n h => by rw [upd_ne n]; exact a c u n h
theorem Keep.new {p q : Addr} {H H1 : Hp} {o : HO} (a : Keep p H H1) (h : H1 q = none) : Keep p H (L2.upd H1 q o) := fun c u n e => by
  have := a c u n e
  rw [upd_ne (ne_of_none this h)]
  exact this
theorem Same.new {q : Addr} {H H1 : Hp} {o : HO} (a : Same H H1) (h : H1 q = none) : Same H (L2.upd H1 q o) := fun c u e => by
  have := a c u e
  rw [upd_ne (ne_of_none this h)]
  exact this
theorem lt200 {u : Int} (h0 : 0 < u) (h : u < 10 ^ 60) : u.natAbs < 2 ^ 200 := by
  have : (10 : Int) ^ 60 < 2 ^ 200 := by decide
  omega
theorem bits62 {y : Int} (h0 : 0 ≤ y) (h : y < 2 ^ 62) : Builtin.Int.intBits y ≤ 64 := intBits_le_64 (by omega) (by omega)
theorem prime_at (i : Int) (h0 : 0 ≤ i) (h : i < 5) : ∃ v : Int, atI [V.int 2147483647, V.int 2147483629, V.int 2147483587, V.int 2147483579, V.int 2147483563] i = some (.int v) ∧ 2 ≤ v ∧ v ≤ 2147483648 := by
  have : i = 0 ∨ i = 1 ∨ i = 2 ∨ i = 3 ∨ i = 4 := by omega
  rcases this with rfl | rfl | rfl | rfl | rfl <;> exact ⟨_, rfl, by decide, by decide⟩
def sp_l_take : Sp := fun vs H Q _ => ∃ (p : Addr) (n : Nat) (u : Int), vs = [.ref p, .int u] ∧ Pot H p n ∧ n < 1000000 ∧ 0 < u ∧ u < 10 ^ 60 ∧
  ∀ (d : Int) (n' : Nat) (H' : Hp), 0 ≤ d → d < u → n' ≤ n + 1 → Pot H' p n' → Keep p H H' → Q (.int d) H'
section
variable {P : Program} {w : World} {K : PySem.W.Frag} {mg : Str → Option Value} {base : Heap} {Z : Zs}
theorem ok_l_take (T : Txt K mg Z) : FnOk P w K mg base CX0 1 Z.f_l_take Z.d_l_take ["_law_pot_here", "_law_under"] sp_l_take := by
  refine T.F_l_take.ok sc_l_take (fun vs H Q E h => ?_) (fun cdv A outer s H vs Q E hr h => ?_)
  · obtain ⟨p, n, u, rfl, _⟩ := h
    rfl
  · obtain ⟨p, n, u, rfl, ⟨own, mix, hp, o0, o1, m0, m1⟩, hn, u0, u1, k⟩ := h
    refine ⟨_, (pss_cons (ps_if (pt_cmpR op_gt (pe_ix ix_list (pv 0) pe_int (fun _ _ => rfl)) pe_int (nomark _)) (pss_cons (ps_set (i := 2) sc_l_take.nd rfl (Or.inl rfl) (pe_op op_mod (pe_callTy call_int1 (by rfl) T.b_int (by decide +kernel) (pa_cons (pe_ix ix_list (pv 0) pe_int (fun _ _ => rfl)) pa_nil)) (pv 1)))
      (pss_cons (ps_asg (pe_op op_fdivW (pe_ix ix_list (pv 0) pe_int (fun _ _ => rfl)) (pv 1)) (pg_sub (pv 0) pe_int set_list))
      (pss_one (ps_ret (pv 2))))) pss_nil)
      (pss_cons (ps_asg (pe_op op_add (pe_ix ix_list (pv 0) pe_int (fun _ _ => rfl)) pe_int) (pg_sub (pv 0) pe_int set_list))
      (pss_cons (ps_set (i := 3) sc_l_take.nd rfl (Or.inl rfl) (pe_ix ix_list (pe_lst (pa_cons pe_int (pa_cons pe_int (pa_cons pe_int (pa_cons pe_int (pa_cons pe_int pa_nil)))))) (pe_op op_mod (pe_callTy call_int1 (by rfl) T.b_int (by decide +kernel) (pa_cons (pe_ix ix_list (pv 0) pe_int (fun _ _ => rfl)) pa_nil)) pe_int) (fun _ _ => rfl)))
      (pss_cons (ps_set (i := 4) sc_l_take.nd rfl (Or.inl rfl) (pe_op op_mod (pe_callTy call_int1 (by rfl) T.b_int (by decide +kernel) (pa_cons (pe_op op_powW (pe_callTy call_int1 (by rfl) T.b_int (by decide +kernel) (pa_cons (pe_op op_add (pe_op op_add (pe_ix ix_list (pv 0) pe_int (fun _ _ => rfl)) (pe_op op_mul (pe_op op_mul pe_int (pe_ix ix_list (pv 0) pe_int (fun _ _ => rfl))) (pe_ix ix_list (pv 0) pe_int (fun _ _ => rfl)))) pe_int) pa_nil)) pe_int) pa_nil)) (pv 3)))
      (pss_cons (ps_set (i := 4) sc_l_take.nd rfl (Or.inl rfl) (pe_op op_mod (pe_callTy call_int1 (by rfl) T.b_int (by decide +kernel) (pa_cons (pe_op op_mul (pv 4) (pe_op op_add (pe_op op_mod (pe_callTy call_int1 (by rfl) T.b_int (by decide +kernel) (pa_cons (pv 4) pa_nil)) pe_int) (pe_op op_mul pe_int (pe_ix ix_list (pv 0) pe_int (fun _ _ => rfl))))) pa_nil)) pe_int))
      (pss_one (ps_ret (pe_op op_mod (pe_callTy call_int1 (by rfl) T.b_int (by decide +kernel) (pa_cons (pe_op op_fdivW (pv 4) pe_int) pa_nil)) (pv 1))))))))), ?_⟩
    refine ⟨_, rfl, p, _, _, _, rfl, rfl, SqL.of hp, rfl, _, _, rfl, rfl, _, rfl, ?_⟩
    refine ite2 (fun c => ?_) (fun c => ?_)
    · have c' : 0 < own := of_decide_eq_true c
      have q0 : 0 ≤ own / u := Int.ediv_nonneg o0 (Int.le_of_lt u0)
      have q1 : own / u < 10 ^ 300 := Int.lt_of_le_of_lt (Int.ediv_le_self _ o0) o1
      refine ⟨_, rfl, p, _, _, _, rfl, rfl, SqL.of hp, rfl, .inl ⟨_, rfl, _, rfl, _, _, rfl, rfl, u0, ?_⟩⟩
      refine ⟨_, rfl, p, _, _, _, rfl, rfl, SqL.of hp, rfl, _, rfl, _, _, rfl, rfl, wide_div u0 (b := 200) (lt200 u0 u1) (by decide) (by decide), _, rfl, p, _, _, _, rfl, rfl, hp, rfl, _, rfl, ?_⟩
      exact k _ n _ (Int.emod_nonneg _ (by omega)) (Int.emod_lt_of_pos _ u0) (Nat.le_succ _) ⟨own / u, mix, upd_same, q0, q1, m0, m1⟩ Keep.rfl'.upd
    · refine ⟨_, rfl, p, _, _, _, rfl, rfl, SqL.of hp, rfl, _, _, rfl, rfl, _, rfl, p, _, _, _, rfl, rfl, hp, rfl, ?_⟩
      obtain ⟨H1, hH1⟩ : ∃ H1, H1 = upd H p (.lst [V.int own, V.int mix, V.int ((n : Int) + 1)]) := ⟨_, rfl⟩
      have hp1 : H1 p = some (.lst [V.int own, V.int mix, V.int ((n : Int) + 1)]) := by rw [hH1]; exact upd_same
      have kp1 : Keep p H H1 := by rw [hH1]; exact Keep.rfl'.upd
      refine Eq.mp (congrArg _ hH1) ?_
      -- the primes
      refine ⟨by show 5 ≤ sizeLine; decide, fun q hq => ?_⟩
      have npq : p ≠ q := ne_of_none hp1 hq
      have hp2 : (upd H1 q (.lst [V.int 2147483647, V.int 2147483629, V.int 2147483587, V.int 2147483579, V.int 2147483563])) p = some (.lst [V.int own, V.int mix, V.int ((n : Int) + 1)]) := by rw [upd_ne npq]; exact hp1
      refine ⟨_, rfl, p, _, _, _, rfl, rfl, SqL.of hp2, rfl, .inl ⟨_, rfl, _, _, rfl, rfl, by show (0 : Int) < 5; decide, ?_⟩⟩
      obtain ⟨v, hv, v0, v1⟩ := prime_at (((n : Int) + 1) % 5) (Int.emod_nonneg _ (by decide)) (Int.emod_lt_of_pos _ (by decide))
      refine ⟨q, _, _, _, rfl, rfl, SqL.of upd_same, hv, ?_⟩
      generalize hH2 : upd H1 q (.lst [V.int 2147483647, V.int 2147483629, V.int 2147483587, V.int 2147483579, V.int 2147483563]) = H2 at hp2 ⊢
      have kp2 : Keep p H H2 := by rw [← hH2]; exact kp1.new hq
      -- mixed
      refine ⟨_, rfl, p, _, _, _, rfl, rfl, SqL.of hp2, rfl, _, rfl, p, _, _, _, rfl, rfl, SqL.of hp2, rfl, _, _, rfl, rfl, .inl (by constructor <;> decide), _, rfl, p, _, _, _, rfl, rfl, SqL.of hp2, rfl, _, _, rfl, rfl, .inr (by constructor <;> omega), _, _, rfl, rfl, _, _, rfl, rfl, .inl ⟨_, rfl, ?_⟩⟩
      have b1 : 0 ≤ 100169 * ((n : Int) + 1) * ((n : Int) + 1) ∧ 100169 * ((n : Int) + 1) * ((n : Int) + 1) ≤ 100169 * 1000000 * 1000000 := by
        have h1 : 0 ≤ (n : Int) + 1 := by omega
        have h2 : (n : Int) + 1 ≤ 1000000 := by omega
        refine ⟨Int.mul_nonneg (Int.mul_nonneg (by decide) h1) h1, ?_⟩
        exact Int.mul_le_mul (Int.mul_le_mul_of_nonneg_left h2 (by decide)) h2 h1 (by decide)
      generalize hz : 100169 * ((n : Int) + 1) * ((n : Int) + 1) = z at b1 ⊢
      have b2 : 0 ≤ mix + z + 53 ∧ mix + z + 53 < 2 ^ 62 := by constructor <;> omega
      generalize mix + z + 53 = y at b2 ⊢
      refine ⟨_, _, rfl, rfl, ⟨by decide, ?_⟩, .inl ⟨_, rfl, ?_⟩⟩
      · have := bits62 b2.1 b2.2
        show ((Builtin.Int.intBits y : Nat) : Int) * 3 ≤ 2 ^ 27
        omega
      refine ⟨_, rfl, _, _, rfl, rfl, by omega, ?_⟩
      have b3 : 0 ≤ y ^ (3 : Int).toNat % v ∧ y ^ (3 : Int).toNat % v < 2147483648 := ⟨Int.emod_nonneg _ (by omega), Int.lt_of_lt_of_le (Int.emod_lt_of_pos _ (by omega)) (by omega)⟩
      refine ⟨_, rfl, _, rfl, .inl ⟨_, rfl, _, _, rfl, rfl, by show (0 : Int) < 10039; decide, _, rfl, p, _, _, _, rfl, rfl, SqL.of hp2, rfl, _, _, rfl, rfl, .inl (by constructor <;> decide), _, _, rfl, rfl, _, _, rfl, rfl, .inl (by constructor <;> omega), .inl ⟨_, rfl, _, _, rfl, rfl, (by decide : (0 : Int) < 2305843009213693907), ?_⟩⟩⟩
      refine ⟨_, rfl, _, _, rfl, rfl, wide_div (j := 127) (by decide) (b := 200) (by decide) (by decide) (by decide), .inl ⟨_, rfl, _, rfl, _, _, rfl, rfl, u0, ?_⟩⟩
      exact k _ (n + 1) _ (Int.emod_nonneg _ (by omega)) (Int.emod_lt_of_pos _ u0) (Nat.le_refl _) ⟨own, mix, hp2, o0, o1, m0, m1⟩ kp2
end
end TT

set_option Elab.async false
set_option linter.all false
set_option maxRecDepth 100000
set_option maxHeartbeats 4000000
namespace TT
open PySem PySem.Spec PyProof.Rows L2
def sp_l_of : Sp := fun vs H Q _ => ∃ (p a : Addr) (n : Nat) (xs : List V), vs = [.ref p, .ref a] ∧ Pot H p n ∧ n < 1000000 ∧ H a = some (.lst xs) ∧ a ≠ p ∧ 0 < xs.length ∧ xs.length ≤ 1000 ∧
  ∀ (v : V) (n' : Nat) (H' : Hp), v ∈ xs → n' ≤ n + 1 → Pot H' p n' → Keep p H H' → Q v H'
def sp_l_cells (K : PySem.W.Frag) : Sp := fun vs H Q _ => ∃ (a : Addr) (ns : List Int) (most : Int), vs = [.ref a, .int most] ∧ SqL K H a (ns.map V.int) ∧ ns.length ≤ 63 ∧ 1 ≤ most ∧ most ≤ 63 ∧
  ∀ (q : Addr) (m : Int), H q = none → 1 ≤ m → m ≤ 63 → Q (.ref q) (upd H q (.lst (rgV 0 m)))
def sp_l_pot (K : PySem.W.Frag) : Sp := fun vs H Q _ => ∃ (a : Addr) (ns : List Int) (i : Int), vs = [.ref a, .int i] ∧ SqL K H a (ns.map V.int) ∧ ns.length ≤ 63 ∧ 0 ≤ i ∧ i < 100 ∧
  ∀ (p : Addr) (H' : Hp), H p = none → Same H H' → Pot H' p 0 → Q (.ref p) H'
theorem at_mem {xs : List V} {i : Int} (h0 : 0 ≤ i) (h : i < (xs.length : Int)) : ∃ v, atI xs i = some v ∧ v ∈ xs := by
  obtain ⟨j, rfl⟩ : ∃ j : Nat, i = (j : Int) := ⟨i.toNat, by omega⟩
  have hj : j < xs.length := by omega
  exact ⟨xs[j], atI_nat (List.getElem?_eq_getElem hj), List.getElem_mem hj⟩
theorem ite01 (b : Bool) : -(2 ^ 64) < (if b = true then (1 : Int) else 0) ∧ (if b = true then (1 : Int) else 0) < 2 ^ 64 := by cases b <;> constructor <;> decide
theorem share {T : Int → Prop} {G : Prop} (h : (∀ z, T z) → G) (t : ∀ z, T z) : G := h t
section
variable {P : Program} {w : World} {K : PySem.W.Frag} {mg : Str → Option Value} {base : Heap} {Z : Zs}
theorem ok_l_of (T : Txt K mg Z) : FnOk P w K mg base CX0 2 Z.f_l_of Z.d_l_of ["_law_pot_here", "_law_some"] sp_l_of := by
  refine T.F_l_of.ok sc_l_of (fun vs H Q E h => ?_) (fun cdv A outer s H vs Q E hr h => ?_)
  · obtain ⟨p, a, n, xs, rfl, _⟩ := h
    rfl
  · obtain ⟨p, a, n, xs, rfl, hp, hn, ha, hne, l0, l1, k⟩ := h
    refine ⟨_, (pss_one (ps_ret (pe_ix ix_list (pv 1) (pe_call (ok_l_take T) (hr.mono (by decide)) rfl T.g_l_take T.k_l_take T.bn_l_take .nil pass0 (pa_cons (pv 0) (pa_cons (pe_callB  call_len (by rfl) T.b_len (by decide +kernel) (pa_cons (pv 1) pa_nil)) pa_nil))) (fun _ _ => rfl)))), ?_⟩
    have big : (xs.length : Int) < 10 ^ 60 := by
      have : (1000 : Int) < 10 ^ 60 := by decide
      omega
    refine ⟨_, rfl, _, rfl, _, rfl, _, _, rfl, .inl ⟨_, SqL.of ha, rfl⟩, p, n, _, rfl, hp, hn, by omega, big, fun d n' H' d0 d1 hn' hp' kp => ?_⟩
    obtain ⟨v, hv, hm⟩ := at_mem d0 d1
    exact ⟨a, xs, d, v, rfl, rfl, SqL.of (kp _ _ hne ha), hv, k v n' H' hm hn' hp' kp⟩
theorem ok_l_cells (T : Txt K mg Z) : FnOk P w K mg base CX0 1 Z.f_l_cells Z.d_l_cells ["_law_script", "_law_most"] (sp_l_cells K) := by
  refine T.F_l_cells.ok sc_l_cells (fun vs H Q E h => ?_) (fun cdv A outer s H vs Q E hr h => ?_)
  · obtain ⟨a, ns, m, rfl, _⟩ := h
    rfl
  · obtain ⟨a, ns, m, rfl, hS, hl, m0, m1, k⟩ := h
    refine ⟨_, (pss_one (ps_ret (pe_listRg rfl rfl T.b_list (prg_1 rfl T.b_range (pe_callB  (call_max2 rfl) (by rfl) T.b_max (by decide +kernel) (pa_cons pe_int (pa_cons (pe_callB  (call_min2 rfl) (by rfl) T.b_min (by decide +kernel) (pa_cons (pv 1) (pa_cons (pe_callB  call_len (by rfl) T.b_len (by decide +kernel) (pa_cons (pv 0) pa_nil)) pa_nil))) pa_nil))))))), ?_⟩
    refine ⟨_, rfl, _, rfl, _, _, rfl, .inl ⟨_, hS, rfl⟩, _, _, rfl, _, _, rfl, ?_⟩
    rw [List.length_map]
    have b : 1 ≤ (if (if (ns.length : Int) < m then (ns.length : Int) else m) > 1 then (if (ns.length : Int) < m then (ns.length : Int) else m) else 1) ∧ (if (if (ns.length : Int) < m then (ns.length : Int) else m) > 1 then (if (ns.length : Int) < m then (ns.length : Int) else m) else 1) ≤ 63 := by
      constructor <;> split <;> first | omega | (split <;> omega)
    exact ⟨_, rfl, RgOk.of_le (by decide) (by omega) (by decide) (by omega), fun q hq => k q _ hq b.1 b.2⟩
theorem own_bound (x : Int) (b : Bool) : 0 ≤ x % ((10 : Int) ^ (60 : Int).toNat) ^ (5 : Int).toNat * (if b = true then 1 else 0) ∧ x % ((10 : Int) ^ (60 : Int).toNat) ^ (5 : Int).toNat * (if b = true then 1 else 0) < 10 ^ 300 := by
  have e : ((10 : Int) ^ (60 : Int).toNat) ^ (5 : Int).toNat = 10 ^ 300 := by decide
  rw [e]
  have h1 := Int.emod_nonneg x (b := 10 ^ 300) (by decide)
  have h2 := Int.emod_lt_of_pos x (b := 10 ^ 300) (by decide)
  cases b
  · simp only [Bool.false_eq_true, if_false, Int.mul_zero]
    exact ⟨Int.le_refl _, by decide⟩
  · simp only [if_true, Int.mul_one]
    exact ⟨h1, h2⟩
theorem ok_l_pot (T : Txt K mg Z) : FnOk P w K mg base CX0 1 Z.f_l_pot Z.d_l_pot ["_law_script", "_law_k"] (sp_l_pot K) := by
  refine T.F_l_pot.ok sc_l_pot (fun vs H Q E h => ?_) (fun cdv A outer s H vs Q E hr h => ?_)
  · obtain ⟨a, ns, i, rfl, _⟩ := h
    rfl
  · obtain ⟨a, ns, i, rfl, hS, hl, i0, i1, k⟩ := h
    refine ⟨_, (pss_cons (ps_set (i := 2) sc_l_pot.nd rfl (Or.inl rfl) (pe_ifExp (pt_cmpR op_lt (pv 1) (pe_callB  call_len (by rfl) T.b_len (by decide +kernel) (pa_cons (pv 0) pa_nil)) (nomark _)) (pe_ix ix_list (pv 0) (pv 1) (fun _ _ => rfl)) (pe_op op_add (pe_op op_mul pe_int (pv 1)) pe_int)))
      (pss_cons (ps_set (i := 3) sc_l_pot.nd rfl (Or.inl rfl) (pe_op op_mul (pe_op op_mod (pe_callTy call_int1 (by rfl) T.b_int (by decide +kernel) (pa_cons (pe_callB  call_abs (by rfl) T.b_abs (by decide +kernel) (pa_cons (pv 2) pa_nil)) pa_nil)) (pe_op op_powW (pe_op op_powW pe_int pe_int) pe_int)) (pe_callTy call_int1 (by rfl) T.b_int (by decide +kernel) (pa_cons (pe_cmpR op_ge (pe_callB  call_abs (by rfl) T.b_abs (by decide +kernel) (pa_cons (pv 2) pa_nil)) (pe_op op_powW pe_int pe_int) (nomark _)) pa_nil))))
      (pss_cons (ps_set (i := 4) sc_l_pot.nd rfl (Or.inl rfl) (pe_op op_mod (pe_callTy call_int1 (by rfl) T.b_int (by decide +kernel) (pa_cons (pv 2) pa_nil)) pe_int))
      (pss_one (ps_ret (pe_lst (pa_cons (pv 3) (pa_cons (pe_op op_mod (pe_callTy call_int1 (by rfl) T.b_int (by decide +kernel) (pa_cons (pe_op op_add (pe_op op_add (pe_op op_mul (pv 4) pe_int) (pe_op op_mul (pe_op op_mul pe_int (pv 1)) (pv 1))) pe_int) pa_nil)) pe_int) (pa_cons pe_int pa_nil))))))))), ?_⟩
    refine ⟨_, rfl, _, rfl, _, _, rfl, .inl ⟨_, hS, rfl⟩, _, _, rfl, rfl, _, rfl, ?_⟩
    rw [List.length_map]
    refine' share (fun tail => ite2 (fun c => ?b1) (fun c => ?b2)) ?b3
    case b1 =>
      have c' : i < (ns.length : Int) := of_decide_eq_true c
      obtain ⟨v, hv, hm⟩ := at_mem (xs := ns.map V.int) i0 (by rw [List.length_map]; exact c')
      obtain ⟨z, _, rfl⟩ := List.mem_map.mp hm
      exact ⟨_, rfl, _, rfl, a, _, _, _, rfl, rfl, hS, hv, tail z⟩
    case b2 => exact ⟨_, rfl, _, _, rfl, rfl, .inl (by constructor <;> decide), _, _, rfl, rfl, tail _⟩
    case b3 =>
      intro z
      refine ⟨_, rfl, _, rfl, .inl ⟨_, rfl, _, _, rfl, rfl, ⟨by decide, by decide +kernel⟩, _, _, rfl, rfl, ⟨by decide, by decide +kernel⟩, _, _, rfl, rfl, (by decide +kernel : (0 : Int) < ((10 : Int) ^ (60 : Int).toNat) ^ (5 : Int).toNat), ?_⟩⟩
      refine ⟨_, rfl, _, rfl, _, _, rfl, rfl, ⟨by decide, by decide +kernel⟩, _, _, rfl, rfl, .inr ⟨_, rfl, _, _, rfl, rfl, .inr (ite01 _), ?_⟩⟩
      have ob := own_bound (if z < 0 then -z else z) (decide ((10 : Int) ^ (18 : Int).toNat ≤ (if z < 0 then -z else z)))
      refine ⟨_, rfl, .inl ⟨_, rfl, _, _, rfl, rfl, by show (0 : Int) < 2305843009213693951; decide, ?_⟩⟩
      refine ⟨_, rfl, _, rfl, _, _, rfl, rfl, .inr (by constructor <;> decide), _, rfl, _, _, rfl, rfl, .inl (by constructor <;> decide), _, rfl, _, _, rfl, rfl, .inr (by constructor <;> omega), _, _, rfl, rfl, _, _, rfl, rfl, .inl ⟨_, rfl, _, _, rfl, rfl, by show (0 : Int) < 2305843009213693921; decide, ?_⟩⟩
      refine ⟨by show 3 ≤ sizeLine; decide, fun p hp => k p _ hp (Same.new (Same.refl H) hp) ⟨_, _, upd_same, ob.1, ob.2, Int.emod_nonneg _ (by decide), ?_⟩⟩
      exact Int.lt_trans (Int.emod_lt_of_pos _ (by decide)) (by decide)
end
end TT

set_option Elab.async false
set_option linter.all false
set_option maxRecDepth 100000
set_option maxHeartbeats 4000000
namespace TT
open PySem PySem.Spec PyProof.Rows L2
theorem Pot.new {H : Hp} {p q : Addr} {n : Nat} {o : HO} (h : Pot H p n) (hq : H q = none) : Pot (upd H q o) p n := by
  obtain ⟨a, m, e, r⟩ := h
  exact ⟨a, m, by rw [upd_ne (ne_of_none e hq)]; exact e, r⟩
theorem free_of {H H' : Hp} {p q : Addr} {n m : Nat} (k : Keep p H H') (hp : Pot H p n) (hq : H' q = none) (hp' : Pot H' p m) : H q = none := by
  cases e : H q with
  | none => rfl
  | some o =>
    have ne : q ≠ p := by
      rintro rfl
      obtain ⟨_, _, z, _⟩ := hp'
      rw [hq] at z; cases z
    rw [k q o ne e] at hq
    cases hq
/-! ### rows: the law's own picture of a tie -/
/-- the six values of a tie -/
structure Row where
  f : Int
  s : Int
  l : Int
  a : Int
  d : Bool
  b : Bool
/-- such as a tie may have: places within 10 ^ 30, amounts below 10 ^ 36 -/
structure Row.Ok (r : Row) : Prop where
  f0 : 0 ≤ r.f
  s0 : 0 ≤ r.s
  l0 : 1 ≤ r.l
  fe : r.f + r.l ≤ 10 ^ 30
  se : r.s + r.l ≤ 10 ^ 30
  al : -(10 ^ 60) < r.a
  ah : r.a < 10 ^ 60
  bk : r.b = true → 1 < r.l
def Row.vs (r : Row) : List V := [.int r.f, .int r.s, .int r.l, .int r.a, .bl r.d, .bl r.b]
def Row.dat (r : Row) : PyData := .tuple [.int r.f, .int r.s, .int r.l, .int r.a, .bool r.d, .bool r.b]
/-- a row as a tuple stands at q -/
def RowAt (H : Hp) (q : Addr) (r : Row) : Prop := H q = some (.tup r.vs)
theorem Keep.row {p q : Addr} {H H' : Hp} {r : Row} {n : Nat} (k : Keep p H H') (hp : Pot H p n) (h : RowAt H q r) : RowAt H' q r := by
  refine k _ _ ?_ h
  obtain ⟨_, _, e, _⟩ := hp
  exact ne_of h e (fun z => by cases z)
def sp_l_amount : Sp := fun vs H Q _ => ∃ (p : Addr) (n : Nat), vs = [.ref p] ∧ Pot H p n ∧ n < 1000000 ∧
  ∀ (v : Int) (n' : Nat) (H' : Hp), -(10 ^ 36) < v → v < 10 ^ 36 → n' ≤ n + 1 → Pot H' p n' → Keep p H H' → Q (.int v) H'
def sp_l_row : Sp := fun vs H Q _ => ∃ (p : Addr) (n : Nat) (z : Int), vs = [.ref p, .int z] ∧ Pot H p n ∧ n + 6 < 1000000 ∧ 1 ≤ z ∧ z ≤ 1000 ∧
  ∀ (r : Row) (q : Addr) (n' : Nat) (H' : Hp), r.Ok → r.f + r.l ≤ z → r.s + r.l ≤ z → -(10 ^ 36) < r.a → r.a < 10 ^ 36 → n' ≤ n + 6 → Pot H' p n' → Keep p H H' → RowAt H' q r → H q = none → Q (.ref q) H'
section
variable {P : Program} {w : World} {K : PySem.W.Frag} {mg : Str → Option Value} {base : Heap} {Z : Zs}
theorem ok_l_amount (T : Txt K mg Z) : FnOk P w K mg base CX0 3 Z.f_l_amount Z.d_l_amount ["_law_pot_here"] sp_l_amount := by
  refine T.F_l_amount.ok sc_l_amount (fun vs H Q E h => ?_) (fun cdv A outer s H vs Q E hr h => ?_)
  · obtain ⟨p, n, rfl, _⟩ := h
    rfl
  · obtain ⟨p, n, rfl, hp, hn, k⟩ := h
    refine ⟨_, (pss_one (ps_ret (pe_call (ok_l_of T) (hr.mono (by decide)) rfl T.g_l_of T.k_l_of T.bn_l_of .nil pass0 (pa_cons (pv 0) (pa_cons (pe_lst (pa_cons pe_int (pa_cons pe_int (pa_cons pe_int (pa_cons (pe_un un_neg pe_int) (pa_cons pe_int (pa_cons pe_int (pa_cons (pe_un un_neg pe_int) (pa_cons pe_int (pa_cons (pe_op op_powW pe_int pe_int) pa_nil)))))))))) pa_nil))))), ?_⟩
    refine ⟨_, rfl, _, rfl, _, rfl, _, _, rfl, rfl, ⟨by decide, by decide +kernel⟩, by show 9 ≤ sizeLine; decide, fun a ha => ?_⟩
    have hpa : p ≠ a := by
      obtain ⟨_, _, e, _⟩ := hp
      exact ne_of_none e ha
    have hp2 : Pot (upd H a (.lst [.int 0, .int 0, .int 1, .int (-1), .int 2, .int 5, .int (-7), .int 12, .int ((10 : Int) ^ (35 : Int).toNat)])) p n := by
      obtain ⟨o, m, e, r⟩ := hp
      exact ⟨o, m, by rw [upd_ne hpa]; exact e, r⟩
    refine ⟨p, a, n, _, rfl, hp2, hn, upd_same, hpa.symm, by decide, by decide, fun v n' H' hv hn' hp' kp => ?_⟩
    have kp' : Keep p H H' := (Keep.new Keep.rfl' ha).trans kp
    simp only [List.mem_cons, List.not_mem_nil, or_false] at hv
    rcases hv with rfl | rfl | rfl | rfl | rfl | rfl | rfl | rfl | rfl <;> exact k _ n' H' (by decide) (by decide) hn' hp' kp'
theorem ok_l_row (T : Txt K mg Z) : FnOk P w K mg base CX0 4 Z.f_l_row Z.d_l_row ["_law_pot_here", "_law_size"] sp_l_row := by
  refine T.F_l_row.ok sc_l_row (fun vs H Q E h => ?_) (fun cdv A outer s H vs Q E hr h => ?_)
  · obtain ⟨p, n, z, rfl, _⟩ := h
    rfl
  · obtain ⟨p, n, z, rfl, hp, hn, z0, z1, k⟩ := h
    refine ⟨_, (pss_cons (ps_set (i := 2) sc_l_row.nd rfl (Or.inl rfl) (pe_op op_add pe_int (pe_call (ok_l_take T) (hr.mono (by decide)) rfl T.g_l_take T.k_l_take T.bn_l_take .nil pass0 (pa_cons (pv 0) (pa_cons (pv 1) pa_nil)))))
      (pss_cons (ps_par (i := 3) (j := 4) (by rfl) sc_l_row.nd rfl rfl (by decide) rfl rfl (pa_cons (pe_call (ok_l_take T) (hr.mono (by decide)) rfl T.g_l_take T.k_l_take T.bn_l_take .nil pass0 (pa_cons (pv 0) (pa_cons (pe_op op_add (pe_op op_sub (pv 1) (pv 2)) pe_int) pa_nil))) (pa_cons (pe_call (ok_l_take T) (hr.mono (by decide)) rfl T.g_l_take T.k_l_take T.bn_l_take .nil pass0 (pa_cons (pv 0) (pa_cons (pe_op op_add (pe_op op_sub (pv 1) (pv 2)) pe_int) pa_nil))) pa_nil)) (by rfl))
      (pss_cons (ps_par3 (i := 5) (j := 6) (l := 7) rfl sc_l_row.nd rfl rfl rfl (by decide) (by decide) (by decide) rfl rfl rfl (pa_cons (pe_call (ok_l_amount T) (hr.mono (by decide)) rfl T.g_l_amount T.k_l_amount T.bn_l_amount .nil pass0 (pa_cons (pv 0) pa_nil)) (pa_cons (pe_cmpR op_eq (pe_call (ok_l_take T) (hr.mono (by decide)) rfl T.g_l_take T.k_l_take T.bn_l_take .nil pass0 (pa_cons (pv 0) (pa_cons pe_int pa_nil))) pe_int (nomark _)) (pa_cons (pe_cmpR op_eq (pe_call (ok_l_take T) (hr.mono (by decide)) rfl T.g_l_take T.k_l_take T.bn_l_take .nil pass0 (pa_cons (pv 0) (pa_cons pe_int pa_nil))) pe_int (nomark _)) pa_nil))) (by rfl))
      (pss_one (ps_ret (pe_tup (pa_cons (pv 3) (pa_cons (pv 4) (pa_cons (pv 2) (pa_cons (pv 5) (pa_cons (pv 6) (pa_cons (pe_and (pv 7) (pe_one (pe_cmpR op_gt (pv 2) pe_int (nomark _)))) pa_nil)))))))))))), ?_⟩
    have big : (1001 : Int) < 10 ^ 60 := by decide
    refine ⟨_, rfl, _, rfl, p, n, _, rfl, hp, by omega, by omega, by omega, fun d1 n1 H1 a0 a1 hn1 hp1 k1 => ?_⟩
    refine ⟨_, _, rfl, rfl, ?_⟩
    refine ⟨_, rfl, _, rfl, _, rfl, _, _, rfl, rfl, _, _, rfl, rfl, p, n1, _, rfl, hp1, by omega, by show 0 < z - (1 + d1) + 1; omega, by show z - (1 + d1) + 1 < 10 ^ 60; omega, fun d2 n2 H2 b0 b1 hn2 hp2 k2 => ?_⟩
    refine ⟨_, rfl, _, rfl, _, rfl, _, _, rfl, rfl, _, _, rfl, rfl, p, n2, _, rfl, hp2, by omega, by show 0 < z - (1 + d1) + 1; omega, by show z - (1 + d1) + 1 < 10 ^ 60; omega, fun d3 n3 H3 c0 c1 hn3 hp3 k3 => ?_⟩
    refine ⟨_, _, rfl, ?_⟩
    refine ⟨_, rfl, p, n3, rfl, hp3, by omega, fun am n4 H4 e0 e1 hn4 hp4 k4 => ?_⟩
    refine ⟨_, rfl, p, n4, _, rfl, hp4, by omega, by decide, by decide, fun d5 n5 H5 _ _ hn5 hp5 k5 => ?_⟩
    refine ⟨rfl, ?_⟩
    refine ⟨_, rfl, p, n5, _, rfl, hp5, by omega, by decide, by decide, fun d6 n6 H6 _ _ hn6 hp6 k6 => ?_⟩
    refine ⟨rfl, ?_⟩
    refine ⟨_, _, _, rfl, ?_⟩
    refine ⟨_, rfl, _, rfl, _, rfl, _, rfl, _, rfl, _, rfl, _, rfl, ?_⟩
    have rok : ∀ bk : Bool, (bk = true → 1 < 1 + d1) → Row.Ok ⟨d2, d3, 1 + d1, am, decide (V.int d5 = V.int 0), bk⟩ := fun bk hb =>
      ⟨b0, c0, by show 1 ≤ 1 + d1; omega, by show d2 + (1 + d1) ≤ 10 ^ 30; omega, by show d3 + (1 + d1) ≤ 10 ^ 30; omega, by show -(10 ^ 60) < am; omega, by show am < 10 ^ 60; omega, hb⟩
    have kp : Keep p H H6 := ((((k1.trans k2).trans k3).trans k4).trans k5).trans k6
    refine ite2 (fun c => ?_) (fun c => ?_)
    · refine ⟨_, rfl, _, _, rfl, rfl, by show 6 ≤ sizeLine; decide, fun q hq => ?_⟩
      have nq : H q = none := free_of kp hp hq hp6
      refine k _ q n6 _ (rok (decide (1 < 1 + d1)) fun h => of_decide_eq_true h) (by show d2 + (1 + d1) ≤ z; omega) (by show d3 + (1 + d1) ≤ z; omega) e0 e1 (by omega) (hp6.new hq) (kp.new hq) upd_same nq
    · refine ⟨by show 6 ≤ sizeLine; decide, fun q hq => ?_⟩
      have nq : H q = none := free_of kp hp hq hp6
      refine k _ q n6 _ (rok false fun h => by cases h) (by show d2 + (1 + d1) ≤ z; omega) (by show d3 + (1 + d1) ≤ z; omega) e0 e1 (by omega) (hp6.new hq) (kp.new hq) upd_same nq
end
end TT

set_option Elab.async false
set_option linter.all false
set_option maxRecDepth 100000
set_option maxHeartbeats 4000000
namespace TT
open PySem PySem.Spec PyProof.Rows L2
/-! ### integers -/
/-- whether a value is an int and no bool -/
def Whole (K : PySem.W.Frag) (H : Hp) (x : V) (b : Bool) : Prop := ∃ (t : Value) (b1 b2 : Bool), TyX K H x t ∧ PySem.W.kitOne K t (.type "int") = some b1 ∧ PySem.W.kitOne K t (.type "bool") = some b2 ∧ (b1 && !b2) = b
theorem whole_int {K : PySem.W.Frag} {H : Hp} (i : Int) : Whole K H (.int i) true := ⟨_, true, false, .base (.int i), kit_ty (by decide +kernel), kit_ty (by decide +kernel), rfl⟩
def sp_is_whole (K : PySem.W.Frag) : Sp := fun vs H Q _ => ∃ (x : V) (b : Bool), vs = [x] ∧ Whole K H x b ∧ Q (.bl b) H
def sp_is_from (K : PySem.W.Frag) : Sp := fun vs H Q _ => (∃ v l : Int, vs = [.int v, .int l] ∧ Q (.bl (decide (l ≤ v))) H) ∨ ∃ x l : V, vs = [x, l] ∧ Whole K H x false ∧ Q (.bl false) H
def sp_is_between (K : PySem.W.Frag) : Sp := fun vs H Q _ => (∃ v l g : Int, vs = [.int v, .int l, .int g] ∧ Q (.bl (decide (l ≤ v) && decide (v ≤ g))) H) ∨ ∃ x l g : V, vs = [x, l, g] ∧ Whole K H x false ∧ Q (.bl false) H
/-- written(n), n below 10 ^ 64 in size: as Python writes it -/
def shownInt (n : Int) : Str := if n < 0 then Str.ofString "-" ++ Str.ofString (toString (-n)) else Str.ofString (toString n)
def sp_written0 : Sp := fun vs H Q _ => ∃ n : Int, vs = [.int n] ∧ 0 ≤ n ∧ n < 10 ^ 64 ∧ ∀ H', Same H H' → Q (.str (Str.ofString (toString n))) H'
def sp_written : Sp := fun vs H Q _ => ∃ n : Int, vs = [.int n] ∧ -(10 ^ 64) < n ∧ n < 10 ^ 64 ∧ ∀ H', Same H H' → Q (.str (shownInt n)) H'
theorem FnOk.or {P : Program} {w : World} {K : PySem.W.Frag} {mg : Str → Option Value} {base : Heap} {CX : CXT} {k : Nat} {f : Addr} {fd : FuncData} {ps : List Str} {sp sp' : Sp} (F : FnOk P w K mg base CX k f fd ps sp) (G : FnOk P w K mg base CX k f fd ps sp') :
    FnOk P w K mg base CX k f fd ps (fun vs H Q E => sp vs H Q E ∨ sp' vs H Q E) :=
  ⟨fun vs H Q E h => h.elim (F.len _ _ _ _) (G.len _ _ _ _), fun A outer s H args us vs Q E r e b v h => h.elim (F.run A outer s H args us vs Q E r e b v) (G.run A outer s H args us vs Q E r e b v)⟩
theorem log_lt {n : Int} (h0 : 0 ≤ n) (h : n < 10 ^ 64) : n.natAbs.log2 < 1920 := PySem.Flt.log2_lt_of (by decide) (by
  have : (10 : Int) ^ 64 < 2 ^ 1920 := by decide +kernel
  omega)
theorem ge_chunk {n : Int} (h : n < 10 ^ 64) : decide ((10000000000000000000000000000000000000000000000000000000000000000 : Int) ≤ n) = false := decide_eq_false (by
  have e : (10 : Int) ^ 64 = 10000000000000000000000000000000000000000000000000000000000000000 := by decide +kernel
  omega)
theorem join1 (x : Str) : Txt.join (Str.ofString "") [x] = x := by
  first | rfl | simp [Txt.join]
section
variable {P : Program} {w : World} {K : PySem.W.Frag} {mg : Str → Option Value} {base : Heap} {Z : Zs}
theorem ok_is_whole (T : Txt K mg Z) : FnOk P w K mg base CX0 1 Z.f_is_whole Z.d_is_whole ["value"] (sp_is_whole K) := by
  refine T.F_is_whole.ok sc_is_whole (fun vs H Q E h => ?_) (fun cdv A outer s H vs Q E hr h => ?_)
  · obtain ⟨x, b, rfl, _⟩ := h
    rfl
  · obtain ⟨x, b, rfl, ⟨t, b1, b2, ty, e1, e2, e3⟩, k⟩ := h
    refine ⟨_, (pss_one (ps_ret (pe_and (pe_callB  call_isi (by rfl) T.b_isinstance (by decide +kernel) (pa_cons (pv 0) (pa_cons (pe_bltn (v := .ty "int") rfl T.b_int (by decide +kernel) rfl) pa_nil))) (pe_one (pe_not (pe_callB  call_isi (by rfl) T.b_isinstance (by decide +kernel) (pa_cons (pv 0) (pa_cons (pe_bltn (v := .ty "bool") rfl T.b_bool (by decide +kernel) rfl) pa_nil)))))))), ?_⟩
    refine ⟨_, rfl, _, _, t, _, b1, rfl, .ty "int", ty, e1, _, rfl, ?_⟩
    subst e3
    cases b1 with
    | true => exact iteT ⟨_, rfl, _, _, t, _, b2, rfl, .ty "bool", ty, e2, _, rfl, k⟩
    | false => exact iteF k
theorem ok_is_from (T : Txt K mg Z) : FnOk P w K mg base CX0 2 Z.f_is_from Z.d_is_from ["value", "least"] (sp_is_from K) := by
  refine T.F_is_from.ok sc_is_from (fun vs H Q E h => ?_) (fun cdv A outer s H vs Q E hr h => ?_)
  · rcases h with ⟨v, l, rfl, _⟩ | ⟨x, l, rfl, _⟩ <;> rfl
  · rcases h with ⟨v, l, rfl, k⟩ | ⟨x, l, rfl, hw, k⟩
    · refine ⟨_, (pss_one (ps_ret (pe_and (pe_call (ok_is_whole T) (hr.mono (by decide)) rfl T.g_is_whole T.k_is_whole T.bn_is_whole .nil pass0 (pa_cons (pv 0) pa_nil)) (pe_one (pe_cmpR op_ge (pv 0) (pv 1) (nomark _)))))), ?_⟩
      exact ⟨_, rfl, _, true, rfl, whole_int v, true, rfl, iteT ⟨_, rfl, _, rfl, _, _, rfl, rfl, k⟩⟩
    · refine ⟨_, (pss_one (ps_ret (pe_and (pe_call (ok_is_whole T) (hr.mono (by decide)) rfl T.g_is_whole T.k_is_whole T.bn_is_whole .nil pass0 (pa_cons (pv 0) pa_nil)) (pe_one (pe_cmpR op_ge (pv 0) (pv 1) (nomark _)))))), ?_⟩
      exact ⟨_, rfl, _, false, rfl, hw, false, rfl, iteF k⟩
theorem ok_is_between (T : Txt K mg Z) : FnOk P w K mg base CX0 3 Z.f_is_between Z.d_is_between ["value", "least", "greatest"] (sp_is_between K) := by
  refine T.F_is_between.ok sc_is_between (fun vs H Q E h => ?_) (fun cdv A outer s H vs Q E hr h => ?_)
  · rcases h with ⟨v, l, g, rfl, _⟩ | ⟨x, l, g, rfl, _⟩ <;> rfl
  · rcases h with ⟨v, l, g, rfl, k⟩ | ⟨x, l, g, rfl, hw, k⟩
    · refine ⟨_, (pss_one (ps_ret (pe_and (pe_call (ok_is_from T) (hr.mono (by decide)) rfl T.g_is_from T.k_is_from T.bn_is_from .nil pass0 (pa_cons (pv 0) (pa_cons (pv 1) pa_nil))) (pe_one (pe_cmpR op_le (pv 0) (pv 2) (nomark _)))))), ?_⟩
      refine ⟨_, rfl, _, rfl, .inl ⟨v, l, rfl, _, rfl, ?_⟩⟩
      cases e : decide (l ≤ v) with
      | true =>
        rw [e] at k
        exact iteT ⟨_, rfl, _, rfl, _, _, rfl, rfl, k⟩
      | false =>
        rw [e] at k
        exact iteF k
    · refine ⟨_, (pss_one (ps_ret (pe_and (pe_call (ok_is_from T) (hr.mono (by decide)) rfl T.g_is_from T.k_is_from T.bn_is_from .nil pass0 (pa_cons (pv 0) (pa_cons (pv 1) pa_nil))) (pe_one (pe_cmpR op_le (pv 0) (pv 2) (nomark _)))))), ?_⟩
      exact ⟨_, rfl, _, rfl, .inr ⟨x, l, rfl, hw, false, rfl, iteF k⟩⟩
theorem ok_written0 (T : Txt K mg Z) : FnOk P w K mg base CX0 1 Z.f_written Z.d_written ["number"] sp_written0 := by
  refine T.F_written.ok sc_written (fun vs H Q E h => ?_) (fun cdv A outer s H vs Q E hr h => ?_)
  · obtain ⟨n, rfl, _⟩ := h
    rfl
  · obtain ⟨n, rfl, n0, n1, k⟩ := h
    refine ⟨_, (pss_cons (ps_if (pt_cmpR op_lt (pv 0) pe_int (nomark _)) pss_never pss_nil)
      (pss_cons (ps_set (i := 1) sc_written.nd rfl (Or.inl rfl) (pv 0))
      (pss_cons (ps_set (i := 2) sc_written.nd rfl (Or.inl rfl) (pe_lst pa_nil))
      (pss_cons (ps_while PassesOwn.never (pt_cmpR op_ge (pv 1) (pe_glob (v := .int 10000000000000000000000000000000000000000000000000000000000000000) rfl T.c__CHUNK ⟨_, rfl⟩) (nomark _)) pss_never)
      (pss_cons (ps_expr (pe_bm PySem.F.plainAttrs_list PySem.F.slot_list_append PySem.F.type_list_append mt_append (pv 2) (pa_cons (pe_callTy call_str_int (by rfl) T.b_str (by decide +kernel) (pa_cons (pv 1) pa_nil)) pa_nil)))
      (pss_one (ps_ret (pe_join pe_str (pe_revL (pv 2)))))))))), ?_⟩
    refine ⟨_, rfl, _, _, rfl, rfl, _, rfl, ?_⟩
    rw [decide_eq_false (by omega : ¬ n < 0)]
    refine iteF ⟨_, rfl, by show 0 ≤ sizeLine; exact Nat.zero_le _, fun q hq => ?_⟩
    refine while_by (fun σ H2 => σ = [some (.int n), some (.int n), some (.ref q)] ∧ H2 = upd H q (.lst [])) (fun _ _ => 0) ⟨rfl, rfl⟩ ?_ ?_
    · rintro σ H2 ⟨rfl, rfl⟩
      refine ⟨_, rfl, _, _, rfl, rfl, _, rfl, ?_⟩
      rw [ge_chunk n1]
      refine iteF ?_
      refine ⟨_, rfl, .inl ⟨rfl, _, SqL.of upd_same⟩, _, rfl, _, rfl, log_lt n0 n1, q, _, _, rfl, rfl, upd_same, (by show 0 < sizeLine; decide), ?_⟩
      have n640 : (Str.ofString (toString n)).length ≤ 64 := toString_length_le n0 (by decide) n1
      refine ⟨⟨_, rfl⟩, _, rfl, q, _, rfl, SqL.of upd_same, fun p2 hp2 => ⟨_, p2, [Str.ofString (toString n)], rfl, rfl, .inl (SqL.of upd_same), ?_, ?_⟩⟩
      · show (Str.ofString (toString n)).length + 0 + 1 * 0 ≤ 16777216
        omega
      · rw [join1]
        refine k _ (Same.new (fun b o e => ?_) hp2)
        rw [upd_ne (ne_of_none e hq), upd_ne (ne_of_none e hq)]
        exact e
    · rintro σ H2 Q1 Q2 hQ ⟨v, e, i, j, e1, e2, b, e3, q1⟩
      exact ⟨v, e, i, j, e1, e2, b, e3, hQ _ _ q1⟩
theorem ok_written (T : Txt K mg Z) : FnOk P w K mg base CX0 2 Z.f_written Z.d_written ["number"] sp_written := by
  have neg : FnOk P w K mg base CX0 2 Z.f_written Z.d_written ["number"] (fun vs H Q _ => ∃ n : Int, vs = [.int n] ∧ -(10 ^ 64) < n ∧ n < 0 ∧ ∀ H', Same H H' → Q (.str (shownInt n)) H') := by
    refine T.F_written.ok sc_written (fun vs H Q E h => ?_) (fun cdv A outer s H vs Q E hr h => ?_)
    · obtain ⟨n, rfl, _⟩ := h
      rfl
    · obtain ⟨n, rfl, n0, n1, k⟩ := h
      refine ⟨_, (pss_cons (ps_if (pt_cmpR op_lt (pv 0) pe_int (nomark _)) (pss_one (ps_ret (pe_joined (.cons pe_str (.cons (pe_fmt (pe_call (ok_written0 T) (hr.mono (by decide)) rfl T.g_written T.k_written T.bn_written .nil pass0 (pa_cons (pe_un un_neg (pv 0)) pa_nil))) .nil))))) pss_nil) pss_never), ?_⟩
      refine ⟨_, rfl, _, _, rfl, rfl, _, rfl, ?_⟩
      rw [decide_eq_true (by omega : n < 0)]
      have sz : (Str.ofString (toString (-n))).length ≤ 64 := toString_length_le (by omega) (by decide) (by omega)
      have sl : sizeLine = 16777216 := sizeLine_eq
      refine iteT ⟨_, rfl, by decide, _, rfl, _, rfl, -n, rfl, by omega, by omega, fun H' sm => .inl ⟨_, rfl, by omega, _, rfl, ?_, ?_⟩⟩
      · rw [Str.length_append, Str.length_append]
        have : Str.empty.length = 0 := rfl
        have : (Str.ofString "-").length = 1 := by decide
        omega
      · have e : Str.empty ++ Str.ofString "-" ++ Str.ofString (toString (-n)) = shownInt n := by
          unfold shownInt
          rw [if_pos n1]
          rfl
        rw [e]
        exact k H' sm
  have pos : FnOk P w K mg base CX0 2 Z.f_written Z.d_written ["number"] sp_written0 := (ok_written0 T).mono (by decide)
  refine (FnOk.or neg pos).imp fun vs H Q E h => ?_
  obtain ⟨n, rfl, n0, n1, k⟩ := h
  by_cases c : n < 0
  · exact .inl ⟨n, rfl, n0, c, k⟩
  · refine .inr ⟨n, rfl, by omega, n1, fun H' sm => ?_⟩
    have := k H' sm
    rw [shownInt, if_neg c] at this
    exact this
end
end TT

set_option Elab.async false
set_option linter.all false
set_option maxRecDepth 100000
set_option maxHeartbeats 4000000
namespace TT
open PySem PySem.Spec PyProof.Rows L2
/-! ### ties -/
def way (b : Bool) : Str := if b = true then Str.ofString "down" else Str.ofString "up"
def backs (b : Bool) : Str := if b = true then Str.ofString " back" else Str.ofString ""
def tieText (r : Row) : Str := Str.empty ++ Str.ofString (toString r.f) ++ Str.ofString " " ++ Str.ofString (toString r.s) ++ Str.ofString " " ++ Str.ofString (toString r.l) ++ Str.ofString " " ++ way r.d ++ Str.ofString " " ++ shownInt r.a ++ backs r.b
/-- the attributes of a tie, in the sequence in which __init__ stores them -/
def fs1 (r : Row) : List (Str × V) := putF "first" (.int r.f) []
def fs2 (r : Row) : List (Str × V) := putF "second" (.int r.s) (fs1 r)
def fs3 (r : Row) : List (Str × V) := putF "length" (.int r.l) (fs2 r)
def fs4 (r : Row) : List (Str × V) := putF "amount" (.int r.a) (fs3 r)
def fs5 (r : Row) : List (Str × V) := putF "down" (.bl r.d) (fs4 r)
def fs6 (r : Row) : List (Str × V) := putF "backward" (.bl r.b) (fs5 r)
def tfs (r : Row) : List (Str × V) := putF "text" (.str (tieText r)) (fs6 r)
theorem len_putF {f : Str} {v : V} {fs : List (Str × V)} {n : Nat} (h : fs.length ≤ n) : (putF f v fs).length ≤ n + 1 := Nat.le_trans (length_putF f v fs) (Nat.succ_le_succ h)
theorem len1 (r : Row) : (fs1 r).length ≤ 1 := len_putF (Nat.le_refl 0)
theorem len2 (r : Row) : (fs2 r).length ≤ 2 := len_putF (len1 r)
theorem len3 (r : Row) : (fs3 r).length ≤ 3 := len_putF (len2 r)
theorem len4 (r : Row) : (fs4 r).length ≤ 4 := len_putF (len3 r)
theorem len5 (r : Row) : (fs5 r).length ≤ 5 := len_putF (len4 r)
theorem len6 (r : Row) : (fs6 r).length ≤ 6 := len_putF (len5 r)
theorem tfs_lookup (r : Row) (g : Str) : (tfs r).lookup g = if g = "text" then some (.str (tieText r)) else if g = "backward" then some (.bl r.b) else if g = "down" then some (.bl r.d) else if g = "amount" then some (.int r.a) else
    if g = "length" then some (.int r.l) else if g = "second" then some (.int r.s) else if g = "first" then some (.int r.f) else none := by
  unfold tfs fs6 fs5 fs4 fs3 fs2 fs1
  rw [lookup_putF, lookup_putF, lookup_putF, lookup_putF, lookup_putF, lookup_putF, lookup_putF]
  rfl
theorem fs6_backward (r : Row) : (fs6 r).lookup ("backward" : Str) = some (.bl r.b) := by
  unfold fs6
  rw [lookup_putF, if_pos rfl]
theorem tfs_text (r : Row) : (tfs r).lookup ("text" : Str) = some (.str (tieText r)) := by rw [tfs_lookup, if_pos rfl]
theorem tfs_backward (r : Row) : (tfs r).lookup ("backward" : Str) = some (.bl r.b) := by rw [tfs_lookup, if_neg (by decide +kernel), if_pos rfl]
theorem tfs_down (r : Row) : (tfs r).lookup ("down" : Str) = some (.bl r.d) := by rw [tfs_lookup, if_neg (by decide +kernel), if_neg (by decide +kernel), if_pos rfl]
theorem tfs_amount (r : Row) : (tfs r).lookup ("amount" : Str) = some (.int r.a) := by rw [tfs_lookup, if_neg (by decide +kernel), if_neg (by decide +kernel), if_neg (by decide +kernel), if_pos rfl]
theorem tfs_length (r : Row) : (tfs r).lookup ("length" : Str) = some (.int r.l) := by rw [tfs_lookup, if_neg (by decide +kernel), if_neg (by decide +kernel), if_neg (by decide +kernel), if_neg (by decide +kernel), if_pos rfl]
theorem tfs_second (r : Row) : (tfs r).lookup ("second" : Str) = some (.int r.s) := by rw [tfs_lookup, if_neg (by decide +kernel), if_neg (by decide +kernel), if_neg (by decide +kernel), if_neg (by decide +kernel), if_neg (by decide +kernel), if_pos rfl]
theorem tfs_first (r : Row) : (tfs r).lookup ("first" : Str) = some (.int r.f) := by rw [tfs_lookup, if_neg (by decide +kernel), if_neg (by decide +kernel), if_neg (by decide +kernel), if_neg (by decide +kernel), if_neg (by decide +kernel), if_neg (by decide +kernel), if_pos rfl]
/-- a tie of the six values stands at q -/
def TieAt (C : Addr) (H : Hp) (q : Addr) (r : Row) : Prop := ∃ dx, H q = some (.ins C dx (tfs r))
def sp_check_parts : Sp := fun vs H Q _ => ∃ f s l : Int, vs = [.int f, .int s, .int l] ∧ 0 ≤ f ∧ 0 ≤ s ∧ 1 ≤ l ∧ f + l ≤ 10 ^ 30 ∧ s + l ≤ 10 ^ 30 ∧ Q .non H
def sp_check_leading : Sp := fun vs H Q _ => ∃ (a : Int) (d b : Bool), vs = [.int a, .bl d, .bl b] ∧ Q .non H
/-- a tie of these values is made -/
def sp_T_init (C : Addr) : Sp := fun vs H Q _ => ∃ (p dx : Addr) (r : Row) (b : Bool), vs = [.ref p, .int r.f, .int r.s, .int r.l, .int r.a, .bl r.d, .bl b] ∧ r.Ok ∧ r.b = (b && decide (1 < r.l)) ∧ H p = some (.ins C dx []) ∧
  ∀ H', H' p = some (.ins C dx (tfs r)) → Keep p H H' → Q .non H'
theorem share0 {T G : Prop} (h : T → G) (t : T) : G := h t
local macro_rules | `(tactic| walk_at "len") => `(tactic| ((try simp only [Str.length_append]); omega))
theorem shown_len {n : Int} (h0 : -(10 ^ 64) < n) (h1 : n < 10 ^ 64) : (shownInt n).length ≤ 66 := by
  unfold shownInt
  split
  · have := toString_length_le (v := -n) (by omega) (k := 64) (by decide) (by omega)
    have e : (Str.ofString "-").length = 1 := by decide
    rw [Str.length_append]
    omega
  · have := toString_length_le (v := n) (by omega) (k := 64) (by decide) h1
    omega
section
variable {P : Program} {w : World} {K : PySem.W.Frag} {mg : Str → Option Value} {base : Heap} {Z : Zs}
theorem ok_check_parts (T : Txt K mg Z) : FnOk P w K mg base CX0 3 Z.f_check_parts Z.d_check_parts ["first", "second", "length"] sp_check_parts := by
  refine T.F_check_parts.ok sc_check_parts (fun vs H Q E h => ?_) (fun cdv A outer s H vs Q E hr h => ?_)
  · obtain ⟨f, g, l, rfl, _⟩ := h
    rfl
  · obtain ⟨f, g, l, rfl, f0, g0, l0, fe, ge, k⟩ := h
    refine ⟨_, (pss_cons (ps_if (pt_not (pt_val (pe_call (ok_is_from T) (hr.mono (by decide)) rfl T.g_is_from T.k_is_from T.bn_is_from .nil pass0 (pa_cons (pv 0) (pa_cons pe_int pa_nil))))) (pss_one ps_never) pss_nil)
      (pss_cons (ps_if (pt_not (pt_val (pe_call (ok_is_from T) (hr.mono (by decide)) rfl T.g_is_from T.k_is_from T.bn_is_from .nil pass0 (pa_cons (pv 1) (pa_cons pe_int pa_nil))))) (pss_one ps_never) pss_nil)
      (pss_one (ps_if (PW.pt (pw_or (pt_not (pt_val (pe_call (ok_is_from T) (hr.mono (by decide)) rfl T.g_is_from T.k_is_from T.bn_is_from .nil pass0 (pa_cons (pv 2) (pa_cons pe_int pa_nil))))) (pw_or1 (pt_cmpR op_gt (pe_op op_add (pe_callB  (call_max2 rfl) (by rfl) T.b_max (by decide +kernel) (pa_cons (pv 0) (pa_cons (pv 1) pa_nil))) (pv 2)) (pe_glob (v := .int 1000000000000000000000000000000) rfl T.c_GREATEST ⟨_, rfl⟩) (nomark _))))) (pss_one ps_never) pss_nil)))), ?_⟩
    refine ⟨_, rfl, .inl ⟨f, 0, rfl, true, by rw [decide_eq_true f0], iteF ?_⟩⟩
    refine ⟨_, rfl, .inl ⟨g, 0, rfl, true, by rw [decide_eq_true g0], iteF ?_⟩⟩
    refine ⟨_, rfl, .inl ⟨l, 1, rfl, true, by rw [decide_eq_true l0], iteF ?_⟩⟩
    refine ⟨_, rfl, _, rfl, _, _, rfl, _, rfl, _, _, rfl, rfl, _, _, rfl, rfl, _, rfl, ?_⟩
    rw [decide_eq_false]
    · exact iteF k
    · have e : (10 : Int) ^ 30 = 1000000000000000000000000000000 := by decide +kernel
      split <;> omega
theorem ok_check_leading (T : Txt K mg Z) : FnOk P w K mg base CX0 2 Z.f_check_leading Z.d_check_leading ["amount", "down", "backward"] sp_check_leading := by
  refine T.F_check_leading.ok sc_check_leading (fun vs H Q E h => ?_) (fun cdv A outer s H vs Q E hr h => ?_)
  · obtain ⟨a, d, b, rfl, _⟩ := h
    rfl
  · obtain ⟨a, d, b, rfl, k⟩ := h
    refine ⟨_, (pss_cons (ps_if (pt_not (pt_val (pe_call (ok_is_whole T) (hr.mono (by decide)) rfl T.g_is_whole T.k_is_whole T.bn_is_whole .nil pass0 (pa_cons (pv 0) pa_nil)))) (pss_one ps_never) pss_nil)
      (pss_cons (ps_if (pt_not (pt_val (pe_callB  call_isi (by rfl) T.b_isinstance (by decide +kernel) (pa_cons (pv 1) (pa_cons (pe_bltn (v := .ty "bool") rfl T.b_bool (by decide +kernel) rfl) pa_nil))))) (pss_one ps_never) pss_nil)
      (pss_one (ps_if (pt_not (pt_val (pe_callB  call_isi (by rfl) T.b_isinstance (by decide +kernel) (pa_cons (pv 2) (pa_cons (pe_bltn (v := .ty "bool") rfl T.b_bool (by decide +kernel) rfl) pa_nil))))) (pss_one ps_never) pss_nil)))), ?_⟩
    refine ⟨_, rfl, _, true, rfl, whole_int a, true, rfl, iteF ?_⟩
    refine ⟨_, rfl, _, _, _, _, true, rfl, .ty "bool", .base (.bl d), kit_ty (by decide +kernel), true, rfl, iteF ?_⟩
    exact ⟨_, rfl, _, _, _, _, true, rfl, .ty "bool", .base (.bl b), kit_ty (by decide +kernel), true, rfl, iteF k⟩
theorem ok_T_init (T : Txt K mg Z) : FnOk P w K mg base CX0 4 Z.f_T_init Z.d_T_init ["self", "first", "second", "length", "amount", "down", "backward"] (sp_T_init Z.cC) := by
  refine T.F_T_init.ok sc_T_init (fun vs H Q E h => ?_) (fun cdv A outer s H vs Q E hr h => ?_)
  · obtain ⟨p, dx, r, b, rfl, _⟩ := h
    rfl
  · obtain ⟨p, dx, r, b, rfl, ok, hb, hp, k⟩ := h
    refine ⟨_, (pss_cons (ps_expr (pe_call (ok_check_parts T) (hr.mono (by decide)) rfl T.g_check_parts T.k_check_parts T.bn_check_parts .nil pass0 (pa_cons (pv 1) (pa_cons (pv 2) (pa_cons (pv 3) pa_nil)))))
      (pss_cons (ps_expr (pe_call (ok_check_leading T) (hr.mono (by decide)) rfl T.g_check_leading T.k_check_leading T.bn_check_leading .nil pass0 (pa_cons (pv 4) (pa_cons (pv 5) (pa_cons (pv 6) pa_nil)))))
      (pss_cons (ps_fld (pv 0) (pv 1) rfl)
      (pss_cons (ps_fld (pv 0) (pv 2) rfl)
      (pss_cons (ps_fld (pv 0) (pv 3) rfl)
      (pss_cons (ps_fld (pv 0) (pv 4) rfl)
      (pss_cons (ps_fld (pv 0) (pv 5) rfl)
      (pss_cons (ps_fld (pv 0) (pe_and (pv 6) (pe_one (pe_cmpR op_gt (pv 3) pe_int (nomark _)))) rfl)
      (pss_cons (ps_set (i := 7) sc_T_init.nd rfl (Or.inl rfl) (pe_ifExp (pt_val (pv 5)) pe_str pe_str))
      (pss_cons (ps_set (i := 8) sc_T_init.nd rfl (Or.inl rfl) (pe_ifExp (pt_val (pe_fld (pv 0) rfl)) pe_str pe_str))
      (pss_one (ps_fld (pv 0) (pe_joined (.cons (pe_fmt (pv 1)) (.cons pe_str (.cons (pe_fmt (pv 2)) (.cons pe_str (.cons (pe_fmt (pv 3)) (.cons pe_str (.cons (pe_fmt (pv 7)) (.cons pe_str (.cons (pe_fmt (pe_call (ok_written T) (hr.mono (by decide)) rfl T.g_written T.k_written T.bn_written .nil pass0 (pa_cons (pv 4) pa_nil))) (.cons (pe_fmt (pv 8)) .nil))))))))))) rfl)))))))))))), ?_⟩
    refine ⟨_, rfl, _, rfl, _, rfl, _, _, _, rfl, ok.f0, ok.s0, ok.l0, ok.fe, ok.se, ?_⟩
    refine ⟨_, rfl, _, rfl, _, rfl, _, _, _, rfl, ?_⟩
    refine ⟨_, rfl, _, rfl, p, _, dx, _, rfl, hp, T.cl, T.n_first, (by decide : 0 < 1000), ?_⟩
    refine ⟨_, rfl, _, rfl, p, _, dx, _, rfl, upd_same, T.cl, T.n_second, Nat.lt_of_le_of_lt (len1 r) (by decide), ?_⟩
    refine ⟨_, rfl, _, rfl, p, _, dx, _, rfl, upd_same, T.cl, T.n_length, Nat.lt_of_le_of_lt (len2 r) (by decide), ?_⟩
    refine ⟨_, rfl, _, rfl, p, _, dx, _, rfl, upd_same, T.cl, T.n_amount, Nat.lt_of_le_of_lt (len3 r) (by decide), ?_⟩
    refine ⟨_, rfl, _, rfl, p, _, dx, _, rfl, upd_same, T.cl, T.n_down, Nat.lt_of_le_of_lt (len4 r) (by decide), ?_⟩
    refine ⟨_, rfl, b, rfl, ?_⟩
    refine' share0 (fun tail => ite2 (fun c => ?b1) (fun c => ?b2)) ?b3
    case b1 =>
      refine ⟨_, rfl, _, _, rfl, rfl, ?_⟩
      have e : decide (1 < r.l) = r.b := by rw [hb, c] <;> rfl
      dsimp only
      rw [e]
      exact tail
    case b2 =>
      have e : V.bl false = V.bl r.b := by
        cases b with
        | true => exact absurd rfl c
        | false => rw [hb] <;> rfl
      dsimp only
      rw [e]
      exact tail
    case b3 =>
      have sl : sizeLine = 16777216 := sizeLine_eq
      have l30 : (10 : Int) ^ 30 < 10 ^ 31 := by decide +kernel
      have l64 : (10 : Int) ^ 60 < 10 ^ 64 := by decide +kernel
      have hf := ok.f0; have hs := ok.s0; have hl := ok.l0; have hfe := ok.fe; have hse := ok.se
      have ll1 := ok.al; have ll2 := ok.ah
      have zf : (Str.ofString (toString r.f)).length ≤ 31 := toString_length_le hf (by decide) (by omega)
      have zs : (Str.ofString (toString r.s)).length ≤ 31 := toString_length_le hs (by decide) (by omega)
      have zl : (Str.ofString (toString r.l)).length ≤ 31 := toString_length_le (by omega) (by decide) (by omega)
      have za : (shownInt r.a).length ≤ 66 := shown_len (by omega) (by omega)
      have z0 : Str.empty.length = 0 := rfl
      have z1 : (Str.ofString " ").length = 1 := by decide
      have zw : (Str.ofString "down").length = 4 := by decide
      have zu : (Str.ofString "up").length = 2 := by decide
      have zb : (Str.ofString " back").length = 5 := by decide
      have ze : (Str.ofString "").length = 0 := by decide
      have gf : r.f.natAbs.log2 < 1920 := log_lt hf (by omega)
      have gs : r.s.natAbs.log2 < 1920 := log_lt hs (by omega)
      have gl : r.l.natAbs.log2 < 1920 := log_lt (by omega) (by omega)
      refine ⟨_, rfl, p, _, dx, _, rfl, upd_same, T.cl, T.n_backward, Nat.lt_of_le_of_lt (len5 r) (by decide), _, rfl, r.d, rfl, ?_⟩
      refine ite2 (fun c1 => ?_) (fun c1 => ?_)
      all_goals
        refine ⟨_, rfl, p, _, dx, _, _, rfl, upd_same, T.cl, T.n_backward, fs6_backward r, r.b, rfl, ?_⟩
        refine ite2 (fun c2 => ?_) (fun c2 => ?_)
      all_goals
        refine ⟨_, rfl, .inr ⟨r.f, rfl, gf, _, rfl, by walk_at "len", _, rfl, by walk_at "len", ?_⟩⟩
        refine ⟨_, rfl, .inr ⟨r.s, rfl, gs, _, rfl, by walk_at "len", _, rfl, by walk_at "len", ?_⟩⟩
        refine ⟨_, rfl, .inr ⟨r.l, rfl, gl, _, rfl, by walk_at "len", _, rfl, by walk_at "len", ?_⟩⟩
        refine ⟨_, rfl, .inl ⟨_, rfl, by walk_at "len", _, rfl, by walk_at "len", _, rfl, by walk_at "len", ?_⟩⟩
        refine ⟨_, rfl, r.a, rfl, by omega, by omega, fun H' sm => .inl ⟨_, rfl, by walk_at "len", _, rfl, by walk_at "len", ?_⟩⟩
        refine ⟨_, rfl, .inl ⟨_, rfl, by walk_at "len", _, rfl, by walk_at "len", ?_⟩⟩
        refine ⟨_, rfl, p, _, dx, _, rfl, sm _ _ upd_same, T.cl, T.n_text, Nat.lt_of_le_of_lt (len6 r) (by decide), ?_⟩
        refine k _ ?_ ?_
        · have e : tieText r = Str.empty ++ Str.ofString (toString r.f) ++ Str.ofString " " ++ Str.ofString (toString r.s) ++ Str.ofString " " ++ Str.ofString (toString r.l) ++ Str.ofString " " ++ way r.d ++ Str.ofString " " ++ shownInt r.a ++ backs r.b := rfl
          simp only [way, backs, c1, c2, if_true, if_false, Bool.false_eq_true] at e
          unfold tfs
          rw [e]
          exact upd_same
        · intro q o n h
          rw [upd_ne n]
          refine sm _ _ ?_
          rw [upd_ne n, upd_ne n, upd_ne n, upd_ne n, upd_ne n, upd_ne n]
          exact h
end
end TT

namespace TT
open PySem PySem.Spec PyProof.Rows L2
/-! ### the errors are made -/
/-- in a dict of its own, that was not there -/
def sp_E_init (K : PySem.W.Frag) (Z : Zs) : Sp := fun vs H Q _ => ∃ (a C : Addr) (v : V), vs = [.ref a, v] ∧ H a = some (exo a C none) ∧ ExcT K (Z.c 1) Z.f_E_init C ∧
  ∀ (d : Addr) (H' : Hp), Keep a H H' → H d = none → H' a = some (exo a C (some d)) → H' d = some (exd d [("value", v)]) → Q .non H'
/-- what a def lets out: C of v -/
def Out (E : XK) (C : Addr) (v : V) (H : Hp) : Prop := ∀ (d : Addr) (H' : Hp), Same H H' → H d = none → H' d = some (.xd [("value", v)]) → E (.ref C) (some d) H'
section
variable {P : Program} {w : World} {K : PySem.W.Frag} {mg : Str → Option Value} {base : Heap} {Z : Zs}
theorem ok_E_init (T : Txt K mg Z) : FnOk P w K mg base CX0 1 Z.f_E_init Z.d_E_init ["self", "value"] (sp_E_init K Z) := by
  refine T.F_E_init.ok sc_E_init (fun vs H Q E h => ?_) (fun cdv A outer s H vs Q E hr h => ?_)
  · obtain ⟨a, C, v, rfl, _⟩ := h
    rfl
  · obtain ⟨a, C, v, rfl, ha, X, k⟩ := h
    refine ⟨_, (pss_cons (ps_expr (pe_veinit rfl T.b_ValueError T.z_ve (pa_cons (pv 0) (pa_cons (pv 1) pa_nil))))
      (pss_one (ps_ost (pv 0) (pv 1)))), ?_⟩
    refine ⟨_, rfl, _, rfl, a, C, [v], rfl, by show 1 ≤ 1000; decide, X.ox, ha, ?_⟩
    refine ⟨_, rfl, _, rfl, a, C, rfl, X.ox, X.nv, .inl ⟨ha, fun d hd hne => ?_⟩⟩
    refine k d _ (fun b o n e => ?_) hd upd_same ?_
    · rw [upd_ne n, upd_ne (ne_of_none e hd)]
      exact e
    · rw [upd_ne hne]
      exact upd_same
/-- raise C(x): what its reading asks -/
theorem mkR {C : Addr} {x : V} {E : XK} {H : Hp} (T : ExcT K (Z.c 1) Z.f_E_init C) (h : Out E C x H) :
    ([x] : List V).length ≤ 1000 ∧ ∀ a, H a = none → sp_E_init K Z (.ref a :: ([x] ++ [])) (upd H a (exo a C none))
      (fun v H2 => v = .non ∧ ∃ (d : Addr) (fs : List (Str × V)), H2 a = some (exo a C (some d)) ∧ H2 d = some (exd d fs) ∧ H d = none ∧ E (.ref C) (some d) (upd (del H2 a) d (.xd fs))) (fun _ _ _ => False) := by
  refine ⟨by show 1 ≤ 1000; decide, fun a ha => ⟨a, C, x, rfl, upd_same, T, fun d H' k hd e1 e2 => ⟨rfl, d, _, e1, e2, ?_, ?_⟩⟩⟩
  · by_cases c : d = a
    · rw [c]; exact ha
    · rw [upd_ne c] at hd; exact hd
  · have nd : d ≠ a := by
      rintro rfl
      rw [upd_same] at hd
      cases hd
    rw [upd_ne nd] at hd
    refine h d _ (fun b o e => ?_) hd upd_same
    have nb := ne_of_none e ha
    rw [upd_ne (ne_of_none e hd), del_ne nb]
    exact k b o nb (by rw [upd_ne nb]; exact e)
/-- caught as a TuneError, it stands behind the suite -/
theorem Out.met {C : Addr} {v : V} {H : Hp} {G : VK} (T : ExcT K (Z.c 1) Z.f_E_init C) (Te : ExcT K (Z.c 1) Z.f_E_init (Z.c 1)) (h : ∀ a H', Same H H' → Met H' a C [("value", v)] → G (.ref a) H') :
    Out (fun cls d H' => PySem.W.exmOne K cls (.ref (Z.c 1)) = some true ∧ ∀ a, H' a = none → G (.ref a) (upd H' a (exk a cls d))) C v H := fun d H' s hd e => by
  refine ⟨T.exm Te, fun a ha => h a _ (fun b o z => ?_) ⟨d, upd_same, ?_⟩⟩
  · rw [upd_ne (ne_of_none (s _ _ z) ha)]; exact s _ _ z
  · rw [upd_ne (ne_of_none e ha)]; exact e
end
/-- _law_met_error(look): None, or the error -/
def sp_met (K : PySem.W.Frag) (Z : Zs) : (XK → Hp → VK → Prop) → List V → Hp → VK → Prop := fun tl vs H Q =>
  vs = [] ∧ ∃ G : VK, (∀ v H', G v H' → Q v H') ∧ tl (fun cls d H' => PySem.W.exmOne K cls (.ref (Z.c 1)) = some true ∧ ∀ a, H' a = none → G (.ref a) (upd H' a (exk a cls d))) H (fun _ H' => G .non H')
section
variable {P : Program} {w : World} {K : PySem.W.Frag} {mg : Str → Option Value} {base : Heap} {Z : Zs} {k : Nat}
theorem ok_l_met_error (T : Txt K mg Z) : LOk P w K mg base (k + 2) k Z.f_l_met_error Z.d_l_met_error ["_law_look"] (sp_met K Z) := by
  refine okL T.F_l_met_error sc_l_met_error (fun tl vs H Q h => ?_) (fun cdv A outer s H vs Q f tl g hr R h => ?_)
  · obtain ⟨rfl, _⟩ := h
    rfl
  · obtain ⟨rfl, G, hG, t⟩ := h
    refine ⟨_, pss_cons (ps_set (i := 1) sc_l_met_error.nd rfl (Or.inl rfl) pe_non)
      (pss_cons (ps_try_kept (i := 2) (c := .ref (Z.c 1)) rfl rfl rfl sc_l_met_error.nd rfl rfl ⟨by rfl, by decide, .inl T.g_TuneError⟩ (fun W pn xe tk _ => pss_one (ps_expr (pe_lookS (i := 0) tk R rfl hr rfl (.inl rfl))))
        (fun a oe cls d pn _ _ => pss_one (ps_set (i := 1) sc_l_met_error.nd rfl (Or.inl rfl) (pv 2))))
      (pss_one (ps_ret (pv 1)))), ?_⟩
    exact ⟨_, _, fun cls d H' e => ⟨e.1, fun a ha => ⟨_, rfl, fun ha' => ⟨_, rfl, hG _ _ (e.2 a ha')⟩⟩⟩, fun v H' q => ⟨_, rfl, hG _ _ q⟩, rfl, t⟩
end
end TT

namespace TT
open PySem PySem.Spec PyProof.Rows L2
/-- v is an int i, or none -/
inductive IsI (K : PySem.W.Frag) (H : Hp) : V → Option Int → Prop
  | int (i : Int) : IsI K H (.int i) (some i)
  | no {v : V} (h : Whole K H v false) : IsI K H v none
section
variable {P : Program} {w : World} {K : PySem.W.Frag} {mg : Str → Option Value} {base : Heap} {Z : Zs}
end
end TT


namespace TT
open PySem PySem.Spec PyProof.Rows L2
theorem Same.fresh {H H' : Hp} {q : Addr} (s : Same H H') (n : H' q = none) : H q = none := by
  cases h : H q with
  | none => rfl
  | some o => rw [s _ _ h] at n; cases n
theorem Same.updN {H H1 : Hp} {q : Addr} {o : HO} (s : Same H H1) (n : H q = none) : Same H (L2.upd H1 q o) := fun b u e => by
  rw [upd_ne (ne_of_none e n)]
  exact s _ _ e
end TT

set_option Elab.async false
set_option linter.all false
set_option maxRecDepth 100000
set_option maxHeartbeats 4000000
namespace TT
open PySem PySem.Spec PyProof.Rows L2
theorem fnR_of {P : Program} {w : World} {K : PySem.W.Frag} {mg : Str → Option Value} {base : Heap} {CX : CXT} {k : Nat} {f : Addr} {fd : FuncData} {ps : List Str} {sp : Sp} (F : FnOk P w K mg base CX k f fd ps sp) (hb : Binds K fd ps []) : FnR P w K mg base CX k f sp := by
  intro A outer s H us vs Q E hr e0 rv h
  have n : us.length = ps.length := rv.length ▸ F.len _ _ _ _ h
  have b := hb s us (e0.mod.kin.keeps fun b o e => (e0.bs b o e).1) (by rw [List.append_nil]; exact n)
  rw [List.append_nil] at b
  exact F.run A outer s H ⟨us, []⟩ us vs Q E hr e0 b rv h
def partner (r : Row) (p : Int) : Int := if r.b = true then r.s + r.l - 1 - (p - r.f) else r.s + (p - r.f)
def led (r : Row) (n : Int) : Int := if r.d = true then r.a - n else r.a + n
def Row.back (r : Row) : Row := ⟨r.s, r.f, r.l, if r.d = true then r.a else -r.a, r.d, r.b⟩
theorem Row.Ok.back {r : Row} (h : r.Ok) : r.back.Ok := by
  obtain ⟨f0, s0, l0, fe, se, al, ah, bk⟩ := h
  refine ⟨s0, f0, l0, se, fe, ?_, ?_, bk⟩
  · show -(10 ^ 60) < if r.d = true then r.a else -r.a
    split <;> omega
  · show (if r.d = true then r.a else -r.a) < 10 ^ 60
    split <;> omega
theorem Same.tie {C q : Addr} {H H' : Hp} {r : Row} (k : Same H H') (h : TieAt C H q r) : TieAt C H' q r := by
  obtain ⟨dx, e⟩ := h
  exact ⟨dx, k _ _ e⟩
theorem Same.row {q : Addr} {H H' : Hp} {r : Row} (k : Same H H') (h : RowAt H q r) : RowAt H' q r := k _ _ h
/-- behind the making of a tie -/
theorem made {H H' : Hp} {x dx C : Addr} (nx : H x = none) (nd : H dx = none) (k : Keep x (upd (upd H dx (.own x)) x (.ins C dx [])) H') : Same H H' := fun b o e => by
  refine k b o (ne_of_none e nx) ?_
  rw [upd_ne (ne_of_none e nx), upd_ne (ne_of_none e nd)]
  exact e
def sp_l_tie (C : Addr) : Sp := fun vs H Q _ => ∃ (q : Addr) (r : Row), vs = [.ref q] ∧ RowAt H q r ∧ r.Ok ∧ ∀ x H', H x = none → Same H H' → TieAt C H' x r → Q (.ref x) H'
def sp_l_row_of (C : Addr) : Sp := fun vs H Q _ => ∃ (q : Addr) (r : Row), vs = [.ref q] ∧ TieAt C H q r ∧ ∀ x, H x = none → Q (.ref x) (upd H x (.tup r.vs))
/-- two ties of the same values are equal -/
def TieEq (C : Addr) (a b : Addr) (H : Hp) : Prop := ∃ r, TieAt C H a r ∧ TieAt C H b r
section
variable {P : Program} {w : World} {K : PySem.W.Frag} {mg : Str → Option Value} {base : Heap} {Z : Zs}
theorem mkT (T : Txt K mg Z) : Mk K Z.cC Z.f_T_init := ⟨T.mkC, T.a_T_init, T.i_T_init, T.kC⟩
/-- Tie(first, second, length, amount, down=.., backward=..) -/
theorem kb_tie (T : Txt K mg Z) : ∃ its mv : List Value, KBn K Z.d_T_init ["self", "first", "second", "length", "amount", "down", "backward"] 5 ["down", "backward"] (fun us ws => us ++ ws) (fun vs zs => vs ++ zs) := by
  obtain ⟨its, mv, h⟩ := T.F_T_init.kbinds (ps := ["self", "first", "second", "length", "amount", "down", "backward"]) 5 ["down", "backward"] [] (fun us _ _ ws => us ++ ws) (by decide) (by decide) (fun q hq => by cases hq)
    (fun r1 _ _ r4 => r1.append r4) (fun T D doc pm an cdv ct us its mv ws l1 l2 l3 l4 => by
      match us, its, mv, ws, l1, l2, l3, l4 with
      | [_, _, _, _, _], [_], [], [_, _], _, _, _, _ => exact ⟨_, rfl, rfl⟩)
  exact ⟨its, mv, h⟩
theorem ok_l_tie (T : Txt K mg Z) : FnOk P w K mg base CX0 6 Z.f_l_tie Z.d_l_tie ["_law_row_here"] (sp_l_tie Z.cC) := by
  refine T.F_l_tie.ok sc_l_tie (fun vs H Q E h => ?_) (fun cdv A outer s H vs Q E hr h => ?_)
  · obtain ⟨q, r, rfl, _⟩ := h
    rfl
  · obtain ⟨q, r, rfl, hq, ok, k⟩ := h
    obtain ⟨its, mv, kb⟩ := kb_tie T
    refine ⟨_, (pss_one (ps_ret (pe_makeK (mkT T) (ok_T_init T) (hr.mono (by decide)) rfl T.g_C kb pass0 (pa_cons (pe_ix ix_tup (pv 0) pe_int (fun _ _ => rfl)) (pa_cons (pe_ix ix_tup (pv 0) pe_int (fun _ _ => rfl)) (pa_cons (pe_ix ix_tup (pv 0) pe_int (fun _ _ => rfl)) (pa_cons (pe_ix ix_tup (pv 0) pe_int (fun _ _ => rfl)) pa_nil)))) (pk_cons (pe_ix ix_tup (pv 0) pe_int (fun _ _ => rfl)) (pk_cons (pe_ix ix_tup (pv 0) pe_int (fun _ _ => rfl)) pk_nil))))), ?_⟩
    refine ⟨_, rfl, q, _, _, _, rfl, rfl, SqT.of hq, rfl, _, rfl, q, _, _, _, rfl, rfl, SqT.of hq, rfl, _, rfl, q, _, _, _, rfl, rfl, SqT.of hq, rfl, _, rfl, q, _, _, _, rfl, rfl, SqT.of hq, rfl, ?_⟩
    refine ⟨_, rfl, q, _, _, _, rfl, rfl, SqT.of hq, rfl, _, rfl, q, _, _, _, rfl, rfl, SqT.of hq, rfl, rfl, rfl, fun x dx nx nd ne => ?_⟩
    refine ⟨x, dx, r, r.b, rfl, ok, ?_, upd_same, fun H' hx kp => ⟨rfl, k x H' nx (made nx nd kp) ⟨dx, hx⟩⟩⟩
    cases hb : r.b with
    | true => rw [decide_eq_true (ok.bk hb)] <;> rfl
    | false => rfl
theorem ok_l_row_of (T : Txt K mg Z) : FnOk P w K mg base CX0 1 Z.f_l_row_of Z.d_l_row_of ["_law_tie_here"] (sp_l_row_of Z.cC) := by
  refine T.F_l_row_of.ok sc_l_row_of (fun vs H Q E h => ?_) (fun cdv A outer s H vs Q E hr h => ?_)
  · obtain ⟨q, r, rfl, _⟩ := h
    rfl
  · obtain ⟨q, r, rfl, ⟨dx, hq⟩, k⟩ := h
    refine ⟨_, (pss_one (ps_ret (pe_tup (pa_cons (pe_fld (pv 0) rfl) (pa_cons (pe_fld (pv 0) rfl) (pa_cons (pe_fld (pv 0) rfl) (pa_cons (pe_fld (pv 0) rfl) (pa_cons (pe_fld (pv 0) rfl) (pa_cons (pe_fld (pv 0) rfl) pa_nil))))))))), ?_⟩
    refine ⟨_, rfl, q, _, dx, _, _, rfl, hq, T.cl, T.n_first, tfs_first r, _, rfl, q, _, dx, _, _, rfl, hq, T.cl, T.n_second, tfs_second r, _, rfl, q, _, dx, _, _, rfl, hq, T.cl, T.n_length, tfs_length r, _, rfl, q, _, dx, _, _, rfl, hq, T.cl, T.n_amount, tfs_amount r, _, rfl, q, _, dx, _, _, rfl, hq, T.cl, T.n_down, tfs_down r, _, rfl, q, _, dx, _, _, rfl, hq, T.cl, T.n_backward, tfs_backward r, by show 6 ≤ sizeLine; decide, fun x hx => k x hx⟩
end
end TT


set_option maxHeartbeats 4000000
namespace TT
open PySem PySem.Spec PyProof.Rows L2 LamX TL
/-! ### numbers read -/
def sp_number_of : Sp := fun vs H Q _ => ∃ d : Str, vs = [.str d] ∧ allDig (tl d) = true ∧ d.length ≤ 63 ∧ Q (.int ((NumText.digitsVal (tl d) : Nat) : Int)) H
/-- a number, or None -/
def numV : Option Int → V
  | some n => .int n
  | none => .non
def sp_number_in : Sp := fun vs H Q _ => ∃ w : Str, vs = [.str w] ∧ w.length ≤ 63 ∧ Q (numV (numRead w)) H
theorem small_none : ∀ n : Nat, n < 65 → Builtin.Range.small (n : Int) (n : Int) 64 = true := by decide +kernel
theorem range_none {n : Int} (h0 : 0 ≤ n) (h1 : n ≤ 64) : RgC n n 64 0 := by
  obtain ⟨m, rfl⟩ : ∃ m : Nat, n = (m : Int) := ⟨n.toNat, by omega⟩
  refine ⟨by decide, by decide, small_none m (by omega), ?_⟩
  unfold Builtin.Range.rangeSize
  simp
theorem shareS {T : Str → Prop} {G : Prop} (C : Str → Prop) (h : (∀ g, C g → T g) → G) (t : ∀ g, C g → T g) : G := h t
theorem cut_all {d : Str} {n : Int} (h : n = (d.length : Int)) : cutS d none (some n) = d := by
  subst h
  refine ext_tl ?_
  have hl := len_tl d
  have e2 : HT.sIx d.length d.length (some (d.length : Int)) = d.length := by
    show (if ((d.length : Nat) : Int) < 0 then (((d.length : Nat) : Int) + (d.length : Int)).toNat else min ((d.length : Nat) : Int).toNat d.length) = d.length
    rw [if_neg (by omega)]
    omega
  unfold cutS
  show (((tl d).drop (HT.sIx d.length 0 none)).take (HT.sIx d.length d.length (some (d.length : Int)) - HT.sIx d.length 0 none)) = tl d
  rw [e2]
  show ((tl d).drop 0).take (d.length - 0) = tl d
  rw [List.drop_zero]
  exact List.take_of_length_le (by omega)
section
variable {P : Program} {w : World} {K : PySem.W.Frag} {mg : Str → Option Value} {base : Heap} {Z : Zs}
theorem ok_number_of (T : Txt K mg Z) : FnOk P w K mg base CX0 1 Z.f_number_of Z.d_number_of ["digits"] sp_number_of := by
  refine T.F_number_of.ok sc_number_of (fun vs H Q E h => ?_) (fun cdv A outer s H vs Q E hr h => ?_)
  · obtain ⟨d, rfl, _⟩ := h
    rfl
  · obtain ⟨d, rfl, hd, hl, k⟩ := h
    have sl : sizeLine = 16777216 := sizeLine_eq
    refine ⟨_, (pss_cons (ps_set (i := 1) sc_number_of.nd rfl (Or.inl rfl) (pe_op op_mod (pe_callB  call_len_str (by rfl) T.b_len (by decide +kernel) (pa_cons (pv 0) pa_nil)) (pe_glob (v := .int 64) rfl T.c__DIGITS ⟨_, rfl⟩)))
      (pss_cons (ps_set (i := 2) sc_number_of.nd rfl (Or.inl rfl) (pe_callTy call_int_str (by rfl) T.b_int (by decide +kernel) (pa_cons (pe_op op_add_str pe_str (pe_slice sl_str (pv 0) po_none (po_some (pv 1)))) pa_nil)))
      (pss_cons (ps_for PassesOwn.never rfl (pi_range3 rfl T.b_range (pa_cons (pv 1) (pa_cons (pe_callB  call_len_str (by rfl) T.b_len (by decide +kernel) (pa_cons (pv 0) pa_nil)) (pa_cons (pe_glob (v := .int 64) rfl T.c__DIGITS ⟨_, rfl⟩) pa_nil)))) (pg_name (i := 3) sc_number_of.nd rfl (Or.inl rfl)) (pss_one (ps_set (i := 2) sc_number_of.nd rfl (Or.inl rfl) (pe_op op_add (pe_op op_mul (pv 2) (pe_glob (v := .int 10000000000000000000000000000000000000000000000000000000000000000) rfl T.c__CHUNK ⟨_, rfl⟩)) (pe_callTy call_int_str (by rfl) T.b_int (by decide +kernel) (pa_cons (pe_slice sl_str (pv 0) (po_some (pv 3)) (po_some (pe_op op_add (pv 3) (pe_glob (v := .int 64) rfl T.c__DIGITS ⟨_, rfl⟩)))) pa_nil))))))
      (pss_one (ps_ret (pv 2)))))), ?_⟩
    refine ⟨_, rfl, _, rfl, by omega, _, _, rfl, rfl, by show (0 : Int) < 64; decide, ?_⟩
    have hm : ((d.length : Nat) : Int) % 64 = (d.length : Int) := by omega
    have l0 : (Str.ofString "0").length = 1 := by decide
    refine ⟨_, rfl, _, rfl, _, rfl, d, rfl, by omega, ?_⟩
    rw [cut_all hm]
    refine ⟨_, _, rfl, rfl, by omega, _, _, rfl, int_zero hd (by omega), by rw [Str.length_append]; omega, ?_⟩
    refine ⟨_, rfl, _, rfl, _, rfl, by omega, _, _, _, 0, rfl, by rw [hm]; exact range_none (by omega) (by omega), ?_⟩
    refine for_rangeC (n := 0) (fun _ σ H' => σ = [some (.str d), some (.int (((d.length : Nat) : Int) % 64)), some (.int ((NumText.digitsVal (tl d) : Nat) : Int)), none] ∧ H' = H) ⟨rfl, rfl⟩ (fun i σ H' hi => absurd hi (Nat.not_lt_zero i)) ?_
    rintro σ H' ⟨rfl, rfl⟩
    exact ⟨_, rfl, k⟩
theorem ok_number_in (T : Txt K mg Z) : FnOk P w K mg base CX0 2 Z.f_number_in Z.d_number_in ["word"] sp_number_in := by
  refine T.F_number_in.ok sc_number_in (fun vs H Q E h => ?_) (fun cdv A outer s H vs Q E hr h => ?_)
  · obtain ⟨d, rfl, _⟩ := h
    rfl
  · obtain ⟨d, rfl, hl, k⟩ := h
    have sl : sizeLine = 16777216 := sizeLine_eq
    refine ⟨_, (pss_cons (ps_set (i := 1) sc_number_in.nd rfl (Or.inl rfl) (pe_ifExp (pt_val (pe_m1 PySem.F.slot_str_startswith PySem.F.type_str_startswith mt_startswith (pv 0) pe_str)) (pe_slice sl_str (pv 0) (po_some pe_int) po_none) (pv 0)))
      (pss_cons (ps_if (PW.pt (pw_or (pt_not (pt_val (pe_m0 PySem.F.slot_str_isascii PySem.F.type_str_isascii mt_isascii (pv 1)))) (pw_or1 (pt_not (pt_val (pe_m0 PySem.F.slot_str_isdigit PySem.F.type_str_isdigit mt_isdigit (pv 1))))))) (pss_one (ps_ret pe_non)) pss_nil)
      (pss_cons (ps_if (PW.pt (pw_and (pt_val (pe_m1 PySem.F.slot_str_startswith PySem.F.type_str_startswith mt_startswith (pv 1) pe_str)) (pw_and1 (pt_cmpR op_ne (pv 0) pe_str (nomark _))))) (pss_one (ps_ret pe_non)) pss_nil)
      (pss_cons (ps_set (i := 2) sc_number_in.nd rfl (Or.inl rfl) (pe_call (ok_number_of T) (hr.mono (by decide)) rfl T.g_number_of T.k_number_of T.bn_number_of .nil pass0 (pa_cons (pv 1) pa_nil)))
      (pss_one (ps_ret (pe_ifExp (pt_cmpR op_eq (pv 1) (pv 0) (nomark _)) (pv 2) (pe_un un_neg (pv 2))))))))), ?_⟩
    have sm : Txt.startswith d (Str.ofString "-") = ((tl d).head? == some 45) := by
      rw [show Str.ofString "-" = ⟨#[45]⟩ by decide +kernel]
      exact starts_one d 45
    refine ⟨_, rfl, ⟨_, rfl⟩, _, _, rfl, rfl, _, rfl, ?_⟩
    refine' shareS (fun g => tl g = digs d) (fun tail => ite2 (fun c => ?b1) (fun c => ?b2)) ?b3
    case b1 =>
      rw [sm] at c
      refine ⟨_, rfl, _, rfl, d, rfl, by omega, ?_⟩
      obtain ⟨g, hg⟩ : ∃ g, g = cutS d (some 1) none := ⟨_, rfl⟩
      rw [← hg]
      refine tail g ?_
      rw [hg, cut_one]
      unfold digs
      rw [if_pos (by simpa using c)]
    case b2 =>
      rw [sm] at c
      refine ⟨_, rfl, tail d ?_⟩
      unfold digs
      rw [if_neg (by simpa using c)]
    case b3 =>
      intro g hg
      have hlg : g.length ≤ 63 := by
        rw [len_tl, hg]
        have := len_tl d
        unfold digs
        split
        · rw [List.length_drop]
          omega
        · omega
      have same : decide (V.str g = V.str d) = !decide ((tl d).head? = some 45) := by
        rw [str_eq_tl, hg]
        unfold digs
        by_cases c : (tl d).head? = some 45
        · rw [if_pos c, decide_eq_true c]
          rw [decide_eq_false]
          · rfl
          · intro z
            have := congrArg List.length z
            rw [List.length_drop] at this
            cases e : tl d with
            | nil => rw [e] at c; simp at c
            | cons a l => rw [e] at this; simp at this
        · rw [if_neg c, decide_eq_false c, decide_eq_true rfl]
          rfl
      refine ⟨_, rfl, ⟨_, rfl⟩, _, rfl, rfl, trivial, _, rfl, ?_⟩
      by_cases ad : allDig (tl g) = true
      case neg =>
        have nr : numRead d = none := by
          unfold numRead
          rw [← hg, if_neg ad]
        rw [nr] at k
        cases ha : Txt.isascii g with
        | false => exact iteT (iteT k)
        | true =>
          refine iteF ⟨_, rfl, ⟨_, rfl⟩, _, rfl, rfl, trivial, _, rfl, ?_⟩
          rw [isdigit_ascii g ha, show allDig (tl g) = false by simpa using ad]
          exact iteT k
      case pos =>
        rw [ascii_of ad]
        refine iteF ⟨_, rfl, ⟨_, rfl⟩, _, rfl, rfl, trivial, _, rfl, ?_⟩
        rw [isdigit_ascii g (ascii_of ad), ad]
        have s0 : Txt.startswith g (Str.ofString "0") = ((tl g).head? == some 48) := by
          rw [show Str.ofString "0" = ⟨#[48]⟩ by decide +kernel]
          exact starts_one g 48
        have e0 : decide (V.str d = V.str (Str.ofString "0")) = decide (tl d = [48]) := by
          rw [str_eq_tl]
          rfl
        refine iteF ⟨_, rfl, ⟨_, rfl⟩, _, _, rfl, rfl, _, rfl, ?_⟩
        rw [s0]
        have fin : ¬ ((digs d).head? = some 48 ∧ tl d ≠ [48]) → Q (.int (if (tl d).head? = some 45 then -((NumText.digitsVal (tl g) : Nat) : Int) else ((NumText.digitsVal (tl g) : Nat) : Int))) H := fun no => by
          unfold numRead at k
          rw [← hg, if_pos ad, if_neg (by rw [hg]; exact no)] at k
          exact k
        by_cases c45 : (tl d).head? = some 45
        all_goals
          have same' := same
          first
            | rw [decide_eq_true c45] at same'
            | rw [decide_eq_false c45] at same'
          first
            | rw [if_pos c45] at fin
            | rw [if_neg c45] at fin
          by_cases z : (tl g).head? = some 48
          · rw [show ((tl g).head? == some 48) = true by rw [z]; rfl]
            refine iteT ⟨_, rfl, rfl, _, rfl, ?_⟩
            rw [e0]
            by_cases z2 : tl d = [48]
            · rw [decide_eq_true z2]
              refine iteF ⟨_, rfl, g, rfl, ad, hlg, _, rfl, _, rfl, rfl, _, rfl, ?_⟩
              rw [same']
              first
                | exact iteF ⟨_, rfl, _, rfl, fin fun q => q.2 z2⟩
                | exact iteT ⟨_, rfl, fin fun q => q.2 z2⟩
            · rw [decide_eq_false z2]
              have nr : numRead d = none := by
                unfold numRead
                rw [← hg, if_pos ad, if_pos ⟨z, z2⟩]
              rw [nr] at k
              exact iteT k
          · rw [show ((tl g).head? == some 48) = false by simpa using z]
            refine iteF (iteF ⟨_, rfl, g, rfl, ad, hlg, _, rfl, _, rfl, rfl, _, rfl, ?_⟩)
            rw [same']
            first
              | exact iteF ⟨_, rfl, _, rfl, fin fun q => z (hg ▸ q.1)⟩
              | exact iteT ⟨_, rfl, fin fun q => z (hg ▸ q.1)⟩
end
end TT

set_option maxHeartbeats 4000000
namespace TT
open PySem PySem.Spec PyProof.Rows L2 LamX TL
/-! ### texts of ties read -/
def six (r : Row) (bk : Bool) : List V := [.int r.f, .int r.s, .int r.l, .int r.a, .bl r.d, .bl bk]
def wordsOf (r : Row) (bk : Bool) : List Str := [Str.ofString (toString r.f), Str.ofString (toString r.s), Str.ofString (toString r.l), way r.d, shownInt r.a] ++ (if bk = true then [Str.ofString "back"] else [])
def rowText (r : Row) (bk : Bool) : Str := Txt.join (Str.ofString " ") (wordsOf r bk)
theorem nat_of {n : Int} (h : 0 ≤ n) : ∃ m : Nat, n = (m : Int) := ⟨n.toNat, by omega⟩
theorem tl_int {n : Int} (h : 0 ≤ n) : tl (Str.ofString (toString n)) = numL n.toNat := by
  obtain ⟨m, rfl⟩ := nat_of h
  rw [tl_num] <;> rfl
theorem read_int {n : Int} (h : 0 ≤ n) : numRead (Str.ofString (toString n)) = some n := by
  obtain ⟨m, rfl⟩ := nat_of h
  exact numRead_nat m
theorem read_shown (n : Int) : numRead (shownInt n) = some n := by
  unfold shownInt
  split
  · obtain ⟨m, hm⟩ := nat_of (n := -n) (by omega)
    rw [hm, numRead_neg (by omega)]
    congr 1
    omega
  · exact read_int (by omega)
theorem shown_free {n : Int} {c : Nat} (h : c < 45 ∨ 57 < c) : c ∉ tl (shownInt n) := by
  unfold shownInt
  split
  · rw [tl_append, tl_int (by omega)]
    intro z
    rcases List.mem_append.mp z with z | z
    · have : tl (Str.ofString "-") = [45] := by decide +kernel
      rw [this] at z
      simp at z
      omega
    · exact numL_free (by omega) z
  · rw [tl_int (by omega)]
    exact numL_free (by omega)
theorem shown_len60 {n : Int} (h0 : -(10 ^ 60) < n) (h1 : n < 10 ^ 60) : (shownInt n).length ≤ 61 := by
  unfold shownInt
  split
  · have := toString_length_le (v := -n) (by omega) (k := 60) (by decide) (by omega)
    have e : (Str.ofString "-").length = 1 := by decide
    rw [Str.length_append]
    omega
  · have := toString_length_le (v := n) (by omega) (k := 60) (by decide) h1
    omega
theorem tieText_eq (r : Row) : tieText r = rowText r r.b := by
  refine ext_tl ?_
  unfold tieText rowText wordsOf backs
  rw [show Txt.join (Str.ofString " ") ([Str.ofString (toString r.f), Str.ofString (toString r.s), Str.ofString (toString r.l), way r.d, shownInt r.a] ++ (if r.b = true then [Str.ofString "back"] else [])) = _ from join_eq _ _, tl_join]
  have e0 : tl Str.empty = [] := rfl
  have e1 : tl (Str.ofString " back") = tl (Str.ofString " ") ++ tl (Str.ofString "back") := by decide +kernel
  cases r.b <;> simp [tl_append, joinL, e0, e1, show tl (Str.ofString "") = [] from rfl]
theorem word_free {r : Row} (ok : r.Ok) {bk : Bool} {c : Nat} (hc : c = 32 ∨ c = 10) : ∀ p ∈ wordsOf r bk, c ∉ tl p := by
  intro p hp
  have hf := ok.f0; have hs := ok.s0; have hl := ok.l0
  have fr : ∀ {n : Int}, 0 ≤ n → c ∉ tl (Str.ofString (toString n)) := fun h => by
    rw [tl_int h]
    exact numL_free (by omega)
  unfold wordsOf at hp
  rcases List.mem_append.mp hp with hp | hp
  · simp only [List.mem_cons, List.not_mem_nil, or_false] at hp
    rcases hp with rfl | rfl | rfl | rfl | rfl
    · exact fr hf
    · exact fr hs
    · exact fr (by omega)
    · unfold way
      split <;> rcases hc with rfl | rfl <;> decide +kernel
    · exact shown_free (by omega)
  · split at hp
    · rw [List.mem_singleton.mp hp]
      rcases hc with rfl | rfl <;> decide +kernel
    · cases hp
theorem sp_tl : tl (Str.ofString " ") = [32] := by decide +kernel
theorem split_row {r : Row} (ok : r.Ok) (bk : Bool) : Txt.split (rowText r bk) (Str.ofString " ") = wordsOf r bk :=
  split_join (s := 32) (S := []) sp_tl (by decide +kernel) (by unfold wordsOf; simp) (word_free ok (.inl rfl))
def sp_values_in : Sp := fun vs H Q _ => ∃ (r : Row) (bk : Bool), vs = [.str (rowText r bk)] ∧ r.Ok ∧ ∀ x H', H x = none → Same H H' → H' x = some (.tup (six r bk)) → Q (.ref x) H'
theorem row_len {r : Row} (ok : r.Ok) (bk : Bool) : (rowText r bk).length ≤ 200 := by
  have j := StrLaws.join_length_le (Str.ofString " ") (wordsOf r bk)
  have e : rowText r bk = (Str.ofString " ").join (wordsOf r bk) := join_eq _ _
  have hf := ok.f0; have hs := ok.s0; have hl := ok.l0; have hfe := ok.fe; have hse := ok.se
  have l30 : (10 : Int) ^ 30 < 10 ^ 31 := by decide +kernel
  have zf : (Str.ofString (toString r.f)).length ≤ 31 := toString_length_le hf (by decide) (by omega)
  have zs : (Str.ofString (toString r.s)).length ≤ 31 := toString_length_le hs (by decide) (by omega)
  have zl : (Str.ofString (toString r.l)).length ≤ 31 := toString_length_le (by omega) (by decide) (by omega)
  have za := shown_len60 ok.al ok.ah
  have zw : (way r.d).length ≤ 4 := by
    unfold way
    split <;> decide
  have z1 : (Str.ofString " ").length = 1 := by decide
  have zb : (Str.ofString "back").length = 4 := by decide
  rw [e]
  refine Nat.le_trans j ?_
  rw [z1]
  unfold wordsOf
  cases bk <;> simp only [Bool.false_eq_true, if_true, if_false, List.cons_append, List.nil_append, List.append_nil, List.map_cons, List.map_nil, List.sum_cons, List.sum_nil, List.length_cons, List.length_nil] <;> omega
/-- Tie.of, of a text that tells a tie -/
def sp_T_of (C : Addr) : Sp := fun vs H Q _ => ∃ (r : Row) (bk : Bool), vs = [.str (rowText r bk)] ∧ r.Ok ∧ r.b = (bk && decide (1 < r.l)) ∧ ∀ x H', H x = none → Same H H' → TieAt C H' x r → Q (.ref x) H'
section
variable {P : Program} {w : World} {K : PySem.W.Frag} {mg : Str → Option Value} {base : Heap} {Z : Zs}
theorem ok_values_in (T : Txt K mg Z) : FnOk P w K mg base CX0 3 Z.f_values_in Z.d_values_in ["text"] sp_values_in := by
  refine T.F_values_in.ok sc_values_in (fun vs H Q E h => ?_) (fun cdv A outer s H vs Q E hr h => ?_)
  · obtain ⟨r, bk, rfl, _⟩ := h
    rfl
  · obtain ⟨r, bk, rfl, ok, k⟩ := h
    have sl : sizeLine = 16777216 := sizeLine_eq
    have rl := row_len ok bk
    refine ⟨_, (pss_cons (ps_if (pt_not (pt_val (pe_callB  call_isi (by rfl) T.b_isinstance (by decide +kernel) (pa_cons (pv 0) (pa_cons (pe_bltn (v := .ty "str") rfl T.b_str (by decide +kernel) rfl) pa_nil))))) (pss_one (ps_ret pe_non)) pss_nil)
      (pss_cons (ps_set (i := 1) sc_values_in.nd rfl (Or.inl rfl) (pe_split (pv 0) pe_str))
      (pss_cons (ps_set (i := 2) sc_values_in.nd rfl (Or.inl rfl) (pe_and (pe_cmpR op_eq (pe_callB  call_len (by rfl) T.b_len (by decide +kernel) (pa_cons (pv 1) pa_nil)) pe_int (nomark _)) (pe_one (pe_cmpR op_eq (pe_ix ix_list (pv 1) pe_int (fun _ _ => rfl)) pe_str (nomark _)))))
      (pss_cons (ps_if (PW.pt (pw_or (PW.pt (pw_and (pt_cmpR op_ne (pe_callB  call_len (by rfl) T.b_len (by decide +kernel) (pa_cons (pv 1) pa_nil)) pe_int (nomark _)) (pw_and1 (pt_not (pt_val (pv 2)))))) (pw_or1 (pt_cmpR op_notIn_seq (pe_ix ix_list (pv 1) pe_int (fun _ _ => rfl)) (pe_tup (pa_cons pe_str (pa_cons pe_str pa_nil))) (by with_unfolding_all rfl))))) (pss_one (ps_ret pe_non)) pss_nil)
      (pss_cons (ps_setLc (i := 3) (own := [("word", 4)]) rfl sc_values_in.nd rfl rfl (sw_true rfl rfl rfl (by decide +kernel)) (pi_tup (pe_tup (pa_cons (pe_ix ix_list (pv 1) pe_int (fun _ _ => rfl)) (pa_cons (pe_ix ix_list (pv 1) pe_int (fun _ _ => rfl)) (pa_cons (pe_ix ix_list (pv 1) pe_int (fun _ _ => rfl)) (pa_cons (pe_ix ix_list (pv 1) pe_int (fun _ _ => rfl)) pa_nil)))))) (blkOk_by (own := [("word", 4)]) (N := ["text", "words", "backward", "numbers", "word"]) (sc := defScope s_values_in) (by decide +kernel)) (fun _ _ _ _ _ => (pg_name (i := 4) sc_values_in.nd rfl (Or.inl rfl))) (fun _ _ _ _ _ => pts_nil) (fun _ _ _ _ _ => (pe_call (ok_number_in T) (hr.mono (by decide)) rfl T.g_number_in T.k_number_in T.bn_number_in .nil pass0 (pa_cons (pv 4) pa_nil))))
      (pss_cons (ps_if (pt_cmpR op_in_seq pe_non (pv 3) (by with_unfolding_all rfl)) (pss_one (ps_ret pe_non)) pss_nil)
      (pss_one (ps_ret (pe_tup (StX.pa_star (pv 3) (pa_cons (pe_cmpR op_eq (pe_ix ix_list (pv 1) pe_int (fun _ _ => rfl)) pe_str (nomark _)) (pa_cons (pv 2) pa_nil)))))))))))), ?_⟩
    refine ⟨_, rfl, _, _, _, _, true, rfl, .ty "str", .base (.str _), kit_ty (by decide +kernel), true, rfl, iteF ?_⟩
    have l1 : (Str.ofString " ").length = 1 := by decide
    refine ⟨_, rfl, ⟨_, rfl⟩, _, _, rfl, rfl, by decide, by omega, fun wl hwl => ?_⟩
    rw [split_row ok bk]
    have hf := ok.f0; have hs := ok.s0; have hl := ok.l0; have hfe := ok.fe; have hse := ok.se
    have l30 : (10 : Int) ^ 30 < 10 ^ 31 := by decide +kernel
    have zf : (Str.ofString (toString r.f)).length ≤ 31 := toString_length_le hf (by decide) (by omega)
    have zs : (Str.ofString (toString r.s)).length ≤ 31 := toString_length_le hs (by decide) (by omega)
    have zl : (Str.ofString (toString r.l)).length ≤ 31 := toString_length_le (by omega) (by decide) (by omega)
    have za := shown_len60 ok.al ok.ah
    have dn : decide (V.str (way r.d) = V.str (Str.ofString "down")) = r.d := by
      unfold way
      cases r.d
      · decide +kernel
      · decide +kernel
    have nw : (!inV (V.str (way r.d)) [V.str (Str.ofString "up"), V.str (Str.ofString "down")]) = false := by
      unfold way
      cases r.d
      · decide +kernel
      · decide +kernel
    have sW := Same.new (o := .lst ((wordsOf r bk).map V.str)) (Same.refl H) hwl
    have atW : upd H wl (.lst ((wordsOf r bk).map V.str)) wl = some (.lst ((wordsOf r bk).map V.str)) := upd_same
    generalize upd H wl (.lst ((wordsOf r bk).map V.str)) = H1 at sW atW ⊢
    have b5 : ∀ n : Nat, n = 5 → V.bl (decide (V.int (n : Int) = V.int 6)) = V.bl false := fun n e => by subst e; decide
    have b6 : ∀ n : Nat, n = 6 → V.bl (decide (V.int (n : Int) = V.int 6)) = V.bl true := fun n e => by subst e; decide
    have c5 : ∀ n : Nat, n = 5 → (V.bl !decide (V.int (n : Int) = V.int 5)) = V.bl false := fun n e => by subst e; decide
    have c6 : ∀ n : Nat, n = 6 → (V.bl !decide (V.int (n : Int) = V.int 5)) = V.bl true := fun n e => by subst e; decide
    cases bk
    case' false =>
      refine ⟨_, rfl, _, _, rfl, .inl ⟨_, SqL.of atW, rfl⟩, rfl, false, b5 _ rfl, iteF ?_⟩
      refine ⟨_, rfl, _, _, rfl, .inl ⟨_, SqL.of atW, rfl⟩, rfl, false, c5 _ rfl, iteF ?_⟩
    case' true =>
      refine ⟨_, rfl, _, _, rfl, .inl ⟨_, SqL.of atW, rfl⟩, rfl, true, b6 _ rfl, iteT ⟨_, rfl, wl, _, _, _, rfl, rfl, SqL.of atW, rfl, rfl, ?_⟩⟩
      rw [show decide (V.str (Str.ofString "back") = V.str (Str.ofString "back")) = true by decide +kernel]
      refine ⟨_, rfl, _, _, rfl, .inl ⟨_, SqL.of atW, rfl⟩, rfl, true, c6 _ rfl, iteT ⟨_, rfl, true, rfl, ?_⟩⟩
      show if false = true then _ else _
      refine iteF ?_
    all_goals
      refine ⟨_, rfl, wl, _, _, _, rfl, rfl, SqL.of atW, rfl, by show 2 ≤ sizeLine; decide, fun t0 ht0 => ⟨t0, _, rfl, .inr (SqT.of upd_same), rfl, rfl, false, by rw [← nw] <;> rfl, iteF ?_⟩⟩
      have s2 := Same.new (o := .tup [.str (Str.ofString "up"), .str (Str.ofString "down")]) (Same.refl H1) ht0
      have at2 := s2 _ _ atW
      generalize upd H1 t0 (.tup [.str (Str.ofString "up"), .str (Str.ofString "down")]) = H2 at s2 at2 ⊢
      refine ⟨_, rfl, wl, _, _, _, rfl, rfl, SqL.of at2, rfl, _, rfl, wl, _, _, _, rfl, rfl, SqL.of at2, rfl, _, rfl, wl, _, _, _, rfl, rfl, SqL.of at2, rfl, _, rfl, wl, _, _, _, rfl, rfl, SqL.of at2, rfl, by show 4 ≤ sizeLine; decide, fun t1 ht1 => ⟨t1, rfl, ⟨_, SqT.of upd_same⟩, fun D hD => ?_⟩⟩
      have s3 := Same.new (o := .tup [.str (Str.ofString (toString r.f)), .str (Str.ofString (toString r.s)), .str (Str.ofString (toString r.l)), .str (shownInt r.a)]) (Same.refl H2) ht1
      have at3 : upd H2 t1 (.tup [.str (Str.ofString (toString r.f)), .str (Str.ofString (toString r.s)), .str (Str.ofString (toString r.l)), .str (shownInt r.a)]) t1 = some (.tup [.str (Str.ofString (toString r.f)), .str (Str.ofString (toString r.s)), .str (Str.ofString (toString r.l)), .str (shownInt r.a)]) := upd_same
      have hD' : upd H2 t1 (.tup [.str (Str.ofString (toString r.f)), .str (Str.ofString (toString r.s)), .str (Str.ofString (toString r.l)), .str (shownInt r.a)]) D = none := hD
      clear hD
      generalize upd H2 t1 (.tup [.str (Str.ofString (toString r.f)), .str (Str.ofString (toString r.s)), .str (Str.ofString (toString r.l)), .str (shownInt r.a)]) = H3 at s3 at3 hD' ⊢
      have sD := Same.new (o := .lst []) (Same.refl H3) hD'
      refine lc_tup (xs := [.str (Str.ofString (toString r.f)), .str (Str.ofString (toString r.s)), .str (Str.ofString (toString r.l)), .str (shownInt r.a)]) (fun i H' => H' D = some (.lst ([V.int r.f, V.int r.s, V.int r.l, V.int r.a].take i)) ∧ Same H3 H') ⟨upd_same, sD⟩ (fun i H' _ h => SqT.of (h.2 _ _ at3)) ?_ ?_
      · rintro i x H' hi ⟨hDi, sm⟩
        refine ⟨rfl, ?_⟩
        unfold tYes
        refine iteT ?_
        have step : ∀ (n : Int) (xs : List V), H' D = some (.lst xs) → xs.length < sizeLine → True := fun _ _ _ _ => trivial
        have i4 : i < 4 := (List.getElem?_eq_some_iff.mp hi).1
        have put : ∀ (o : HO) (b : Addr) (u : HO), H3 b = some u → upd H' D o b = some u := fun o b u eb => by
          rw [upd_ne (ne_of_none eb hD')]
          exact sm b u eb
        rcases i with _ | _ | _ | _ | i
        · obtain rfl := Option.some.inj hi
          refine ⟨_, rfl, _, rfl, by omega, ?_⟩
          rw [read_int hf]
          exact ⟨_, hDi, by show 0 < sizeLine; decide, upd_same, put _⟩
        · obtain rfl := Option.some.inj hi
          refine ⟨_, rfl, _, rfl, by omega, ?_⟩
          rw [read_int hs]
          exact ⟨_, hDi, by show 1 < sizeLine; decide, upd_same, put _⟩
        · obtain rfl := Option.some.inj hi
          refine ⟨_, rfl, _, rfl, by omega, ?_⟩
          rw [read_int (by omega)]
          exact ⟨_, hDi, by show 2 < sizeLine; decide, upd_same, put _⟩
        · obtain rfl := Option.some.inj hi
          refine ⟨_, rfl, _, rfl, by omega, ?_⟩
          rw [read_shown]
          exact ⟨_, hDi, by show 3 < sizeLine; decide, upd_same, put _⟩
        · omega
      · rintro H4 ⟨hD4, s4⟩
        have at4 := s4 _ _ (s3 _ _ at2)
        refine ⟨_, rfl, D, _, rfl, .inl (SqL.of hD4), rfl, rfl, false, rfl, iteF ?_⟩
        refine ⟨_, rfl, D, _, rfl, .inr (SqL.of hD4), _, rfl, wl, _, _, _, rfl, rfl, SqL.of at4, rfl, rfl, ?_⟩
        rw [dn]
        refine ⟨_, rfl, by show 6 ≤ sizeLine; decide, fun x hx => ?_⟩
        have sN := ((sW.trans s2).trans s3).trans s4
        exact k x _ (L2.Same.free sN hx) (Same.new sN hx) upd_same
theorem ok_T_of (T : Txt K mg Z) : FnOk P w K mg base CX0 6 Z.f_T_of Z.d_T_of ["text"] (sp_T_of Z.cC) := by
  refine T.F_T_of.ok sc_T_of (fun vs H Q E h => ?_) (fun cdv A outer s H vs Q E hr h => ?_)
  · obtain ⟨r, bk, rfl, _⟩ := h
    rfl
  · obtain ⟨r, bk, rfl, ok, hb, k⟩ := h
    obtain ⟨its, mv, kb⟩ := kb_tie T
    refine ⟨_, (pss_cons (ps_set (i := 1) sc_T_of.nd rfl (Or.inl rfl) (pe_call (ok_values_in T) (hr.mono (by decide)) rfl T.g_values_in T.k_values_in T.bn_values_in .nil pass0 (pa_cons (pv 0) pa_nil)))
      (pss_cons (ps_if (pt_cmpR op_isN (pv 1) pe_non (nomark _)) (pss_one ps_never) pss_nil)
      (pss_cons (ps_asg (pv 1) (pg_tup rfl (pgs_cons (pg_name (i := 2) sc_T_of.nd rfl (Or.inl rfl)) (pgs_cons (pg_name (i := 3) sc_T_of.nd rfl (Or.inl rfl)) (pgs_cons (pg_name (i := 4) sc_T_of.nd rfl (Or.inl rfl)) (pgs_cons (pg_name (i := 5) sc_T_of.nd rfl (Or.inl rfl)) (pgs_cons (pg_name (i := 6) sc_T_of.nd rfl (Or.inl rfl)) (pgs_cons (pg_name (i := 7) sc_T_of.nd rfl (Or.inl rfl)) pgs_nil))))))))
      (pss_cons (ps_try_thru0 (pss_one (ps_set (i := 8) sc_T_of.nd rfl (Or.inl rfl) (pe_makeK (mkT T) (ok_T_init T) (hr.mono (by decide)) rfl T.g_C kb pass0 (pa_cons (pv 2) (pa_cons (pv 3) (pa_cons (pv 4) (pa_cons (pv 5) pa_nil)))) (pk_cons (pv 6) (pk_cons (pv 7) pk_nil))))))
      (pss_one (ps_ret (pv 8))))))), ?_⟩
    refine ⟨_, rfl, r, bk, rfl, ok, fun x H1 nx s1 hx => ?_⟩
    refine ⟨_, rfl, rfl, _, rfl, iteF ?_⟩
    refine ⟨_, rfl, x, _, rfl, SqT.of hx, rfl, _, _, rfl, _, _, rfl, _, _, rfl, _, _, rfl, _, _, rfl, _, _, rfl, rfl, ?_⟩
    refine ⟨_, rfl, _, rfl, _, rfl, _, rfl, _, rfl, _, rfl, rfl, rfl, fun y dx ny nd ne => ?_⟩
    refine ⟨y, dx, r, bk, rfl, ok, hb, upd_same, fun H' hy kp => ⟨rfl, _, rfl, ?_⟩⟩
    have s2 : Same H1 H' := made ny nd kp
    exact k y H' (L2.Same.free s1 ny) (s1.trans s2) ⟨dx, hy⟩
end
end TT

namespace TT
open PySem PySem.Spec PyProof.Rows L2 LamX
/-! ### heaps in which tables may have grown, and the pot drawn from -/
/-- all but the pot and the tables stays -/
def KeepN (p : Addr) (H H' : Hp) : Prop := ∀ b o, b ≠ p → H b = some o → (∀ ps, o ≠ .tbl ps) → H' b = some o
theorem KeepN.of {p : Addr} {H H' : Hp} (k : Keep p H H') : KeepN p H H' := fun b o n e _ => k b o n e
theorem KeepN.then {p : Addr} {H H1 H2 : Hp} (a : KeepN p H H1) (b : KeepN p H1 H2) : KeepN p H H2 := fun c o n e t => b c o n (a c o n e t) t
theorem KeepN.ext {p : Addr} {H H1 : Hp} (e : ExtN H H1) : KeepN p H H1 := fun c o _ h t => e c o h t
theorem Tabs.keep {p : Addr} {n : Nat} {T : List (Addr × Str)} {H H' : Hp} (k : Keep p H H') (hp : Pot H p n) (t : Tabs T H) : Tabs T H' := fun q hq => by
  obtain ⟨own, mix, hpp, _⟩ := hp
  obtain ⟨ps, h1, h2, h3⟩ := t q hq
  refine ⟨ps, k _ _ (ne_of h1 hpp fun z => by cases z) h1, h2, fun pos cv hc => ?_⟩
  obtain ⟨c, e1, e2⟩ := h3 pos cv hc
  exact ⟨c, e1, k _ _ (ne_of e2 hpp fun z => by unfold CodeO at z; cases z) e2⟩
/-- a list's object is written: the tables stay -/
theorem Tabs.lst {T : List (Addr × Str)} {H : Hp} {D : Addr} {xs : List V} {o : HO} (hD : H D = some (.lst xs)) (t : Tabs T H) : Tabs T (upd H D o) := fun q hq => by
  obtain ⟨ps, h1, h2, h3⟩ := t q hq
  refine ⟨ps, by rw [upd_ne (ne_of h1 hD fun z => by cases z)]; exact h1, h2, fun pos cv hc => ?_⟩
  obtain ⟨c, e1, e2⟩ := h3 pos cv hc
  exact ⟨c, e1, by rw [upd_ne (ne_of e2 hD fun z => by unfold CodeO at z; cases z)]; exact e2⟩
theorem Pot.extN {H H' : Hp} {p : Addr} {n : Nat} (e : ExtN H H') (hp : Pot H p n) : Pot H' p n := by
  obtain ⟨own, mix, h, r⟩ := hp
  exact ⟨own, mix, e _ _ h (fun ps z => nomatch z), r⟩
theorem shareT {T : Addr → Hp → Prop} {G : Prop} (C : Addr → Hp → Prop) (h : (∀ q H, C q H → T q H) → G) (t : ∀ q H, C q H → T q H) : G := h t
theorem shareB {T : Bool → Prop} {G : Prop} (C : Bool → Prop) (h : (∀ b, C b → T b) → G) (t : ∀ b, C b → T b) : G := h t
theorem Row.Ok.far {r : Row} (h : r.Ok) {z : Int} (z0 : 0 ≤ z) (hf : r.f + z + r.l ≤ 10 ^ 30) (hs : r.s + z + r.l ≤ 10 ^ 30) : Row.Ok { r with f := r.f + z, s := r.s + z } :=
  ⟨by show 0 ≤ r.f + z; have := h.f0; omega, by show 0 ≤ r.s + z; have := h.s0; omega, h.l0, hf, hs, h.al, h.ah, h.bk⟩
theorem Pot.off {H : Hp} {p q : Addr} {n : Nat} {o : HO} (hp : Pot H p n) (hq : H q = some o) (h : ∀ xs, o ≠ .lst xs) : q ≠ p := by
  rintro rfl
  obtain ⟨a, m, e, _⟩ := hp
  rw [hq] at e
  exact h _ (Option.some.inj e)
theorem rg_mem {a b : Int} {x : V} (h : x ∈ rgV a b) : ∃ z : Int, x = .int z ∧ a ≤ z ∧ z < b := by
  unfold rgV at h
  obtain ⟨j, hj, rfl⟩ := List.mem_map.mp h
  have := List.mem_range.mp hj
  exact ⟨a + (j : Int), rfl, by omega, by omega⟩
/-- the error that is met, since H -/
def Caught (H : Hp) (C : Addr) (v : V) : VK := fun u H2 => ∃ a, u = V.ref a ∧ Same H H2 ∧ Met H2 a C [("value", v)]
/-- what look's reading is asked, so that met_error gives G -/
def met (K : PySem.W.Frag) (CE : Addr) (tl : XK → Hp → VK → Prop) (H : Hp) (G : VK) : Prop := tl (fun cls dd H' => PySem.W.exmOne K cls (.ref CE) = some true ∧ ∀ a, H' a = none → G (.ref a) (upd H' a (exk a cls dd))) H (fun _ H' => G .non H')
end TT

set_option maxHeartbeats 4000000
namespace TT
open PySem PySem.Spec PyProof.Rows L2 LamX TL
/-! ### the law's texts and figures -/
/-- str of any integer -/
theorem str_int (n : Int) : Str.ofString (toString n) = shownInt n := by
  unfold shownInt
  cases n with
  | ofNat m => exact (if_neg (show ¬ Int.ofNat m < 0 from Int.not_lt.mpr (Int.natCast_nonneg m))).symm
  | negSucc m =>
    rw [if_pos (Int.negSucc_lt_zero m)]
    refine ext_tl ?_
    rw [tl_append, tl_str, tl_str, tl_str]
    have e : -(Int.negSucc m) = ((m + 1 : Nat) : Int) := rfl
    rw [e]
    have e1 : toString (Int.negSucc m) = "-" ++ toString (m + 1) := rfl
    have e2 : toString (((m + 1 : Nat)) : Int) = toString (m + 1) := rfl
    rw [e1, e2, String.toList_append, List.map_append]
def sp_l_text_of : Sp := fun vs H Q _ => ∃ (q : Addr) (r : Row), vs = [.ref q] ∧ RowAt H q r ∧ r.Ok ∧ ∀ H', Same H H' → Q (.str (rowText r r.b)) H'
theorem log_le {i : Int} (h0 : -(10 ^ 60) < i) (h1 : i < 10 ^ 60) : i.natAbs.log2 < 1920 := by
  have a : i.natAbs < 10 ^ 60 := by omega
  have b : 10 ^ 60 < 2 ^ 1920 := by decide +kernel
  by_cases z : i.natAbs = 0
  · rw [z]
    decide
  · exact (Nat.log2_lt z).mpr (Nat.lt_trans a b)
theorem words_sum {r : Row} (ok : r.Ok) (bk : Bool) : ((wordsOf r bk).map (·.length)).sum + (wordsOf r bk).length * (Str.ofString " ").length ≤ 300 := by
  have hf := ok.f0; have hs := ok.s0; have hl := ok.l0; have hfe := ok.fe; have hse := ok.se
  have l30 : (10 : Int) ^ 30 < 10 ^ 31 := by decide +kernel
  have zf : (Str.ofString (toString r.f)).length ≤ 31 := toString_length_le hf (by decide) (by omega)
  have zs : (Str.ofString (toString r.s)).length ≤ 31 := toString_length_le hs (by decide) (by omega)
  have zl : (Str.ofString (toString r.l)).length ≤ 31 := toString_length_le (by omega) (by decide) (by omega)
  have za := shown_len60 ok.al ok.ah
  have zw : (way r.d).length ≤ 4 := by
    unfold way
    split <;> decide
  have z1 : (Str.ofString " ").length = 1 := by decide
  have zb : (Str.ofString "back").length = 4 := by decide
  rw [z1]
  unfold wordsOf
  cases bk <;> simp only [Bool.false_eq_true, if_true, if_false, List.cons_append, List.nil_append, List.append_nil, List.map_cons, List.map_nil, List.sum_cons, List.sum_nil, List.length_cons, List.length_nil] <;> omega
section
variable {P : Program} {w : World} {K : PySem.W.Frag} {mg : Str → Option Value} {base : Heap} {Z : Zs}
theorem ok_l_text_of (T : Txt K mg Z) : FnOk P w K mg base CX0 1 Z.f_l_text_of Z.d_l_text_of ["_law_row_here"] sp_l_text_of := by
  refine T.F_l_text_of.ok sc_l_text_of (fun vs H Q E h => ?_) (fun cdv A outer s H vs Q E hr h => ?_)
  · obtain ⟨q, r, rfl, _⟩ := h
    rfl
  · obtain ⟨q, r, rfl, hq, ok, k⟩ := h
    refine ⟨_, (pss_cons (ps_set (i := 1) sc_l_text_of.nd rfl (Or.inl rfl) (pe_lst (pa_cons (pe_callTy call_str_int (by rfl) T.b_str (by decide +kernel) (pa_cons (pe_ix ix_tup (pv 0) pe_int (fun _ _ => rfl)) pa_nil)) (pa_cons (pe_callTy call_str_int (by rfl) T.b_str (by decide +kernel) (pa_cons (pe_ix ix_tup (pv 0) pe_int (fun _ _ => rfl)) pa_nil)) (pa_cons (pe_callTy call_str_int (by rfl) T.b_str (by decide +kernel) (pa_cons (pe_ix ix_tup (pv 0) pe_int (fun _ _ => rfl)) pa_nil)) (pa_cons (pe_ifExp (pt_val (pe_ix ix_tup (pv 0) pe_int (fun _ _ => rfl))) pe_str pe_str) (pa_cons (pe_callTy call_str_int (by rfl) T.b_str (by decide +kernel) (pa_cons (pe_ix ix_tup (pv 0) pe_int (fun _ _ => rfl)) pa_nil)) pa_nil)))))))
      (pss_one (ps_ret (pe_join pe_str (pe_op op_cat (pv 1) (pe_ifExp (pt_val (pe_ix ix_tup (pv 0) pe_int (fun _ _ => rfl))) (pe_lst (pa_cons pe_str pa_nil)) (pe_lst pa_nil))))))), ?_⟩
    have sl : sizeLine = 16777216 := sizeLine_eq
    have rl := row_len ok r.b
    have h1 := ok.f0; have h2 := ok.s0; have h3 := ok.l0; have h4 := ok.fe; have h5 := ok.se
    have e60 : (10 : Int) ^ 30 < 10 ^ 60 := by decide +kernel
    have hq' : H q = some (.tup [.int r.f, .int r.s, .int r.l, .int r.a, .bl r.d, .bl r.b]) := hq
    have at_ := SqT.of (K := K) hq'
    refine ⟨_, rfl, q, _, _, _, rfl, rfl, at_, rfl, _, rfl, log_le (by omega) (by omega), _, rfl, q, _, _, _, rfl, rfl, at_, rfl, _, rfl, log_le (by omega) (by omega), _, rfl, q, _, _, _, rfl, rfl, at_, rfl, _, rfl, log_le (by omega) (by omega), ?_⟩
    have ws := words_sum ok r.b
    clear rl
    obtain ⟨rf, rs, rl, ra, rd, rb⟩ := r
    dsimp only at *
    have step : ∀ (H' : Hp), Same H H' → Q (.str (Txt.join (Str.ofString " ") (wordsOf ⟨rf, rs, rl, ra, rd, rb⟩ rb))) H' := k
    cases rd <;> cases rb
    all_goals
      refine ⟨_, rfl, q, _, _, _, rfl, rfl, at_, rfl, _, rfl, ?_⟩
      first
        | refine iteT ?_
        | refine iteF ?_
      refine ⟨_, rfl, q, _, _, _, rfl, rfl, at_, rfl, _, rfl, log_le ok.al ok.ah, ?_⟩
      rw [str_int ra]
      refine ⟨by show 5 ≤ sizeLine; decide, fun w hw => ⟨⟨_, rfl⟩, _, rfl, ?_⟩⟩
      have sw : ∀ o, Same H (upd H w o) := fun o => Same.new (Same.refl H) hw
      refine ⟨_, rfl, q, _, _, _, rfl, rfl, SqT.of (sw _ _ _ hq'), rfl, _, rfl, ?_⟩
      first
        | (refine iteT ⟨by show 1 ≤ sizeLine; decide, fun u hu => ⟨w, u, _, _, rfl, rfl, (by rw [upd_ne (ne_of_none upd_same hu)]; exact upd_same), upd_same, by show 5 + 1 ≤ sizeLine; decide, fun p hp => ⟨_, p, _, rfl, rfl, .inl (SqL.of upd_same), Nat.le_trans ws (by decide), step _ (Same.new (Same.new (sw _) hu) hp)⟩⟩⟩)
        | (refine iteF ⟨by show 0 ≤ sizeLine; decide, fun u hu => ⟨w, u, _, _, rfl, rfl, (by rw [upd_ne (ne_of_none upd_same hu)]; exact upd_same), upd_same, by show 5 + 0 ≤ sizeLine; decide, fun p hp => ⟨_, p, _, rfl, rfl, .inl (SqL.of upd_same), Nat.le_trans ws (by decide), step _ (Same.new (Same.new (sw _) hu) hp)⟩⟩⟩)
end
end TT


namespace TT
open PySem PySem.Spec PyProof.Rows L2 LamX
/-! ### == of ties, with either answer -/
def eqB (r r' : Row) : Bool := PyData.eqv r.dat r'.dat
theorem eqB_eq (r r' : Row) : eqB r r' = ((r.f == r'.f) && ((r.s == r'.s) && ((r.l == r'.l) && ((r.a == r'.a) && ((r.d == r'.d) && ((r.b == r'.b) && true)))))) := by
  unfold eqB Row.dat
  simp only [PyData.eqv, PyData.eqvAll]
theorem dec_int (i j : Int) : decide (V.int i = V.int j) = (i == j) := by
  by_cases c : i = j
  · subst c
    simp
  · rw [decide_eq_false (fun e => c (V.int.inj e))]
    simp [c]
theorem dec_bl (i j : Bool) : decide (V.bl i = V.bl j) = (i == j) := by cases i <;> cases j <;> simp
def sp_T_eqB (Z : Zs) : Sp := fun vs H Q _ => ∃ (a : Addr) (y : V) (r : Row), vs = [.ref a, y] ∧ TieAt Z.cC H a r ∧ ((∃ b r', y = .ref b ∧ TieAt Z.cC H b r' ∧ Q (.bl (eqB r r')) H) ∨ ∃ b xs, y = .ref b ∧ H b = some (.tup xs) ∧ Q (.bl false) H)
section
variable {P : Program} {w : World} {K : PySem.W.Frag} {mg : Str → Option Value} {base : Heap} {Z : Zs}
theorem ok_T_eqB (T : Txt K mg Z) : FnOk P w K mg base CX0 1 Z.f_T_eq Z.d_T_eq ["self", "other"] (sp_T_eqB Z) := by
  refine T.F_T_eq.ok sc_T_eq (fun vs H Q E h => ?_) (fun cdv A outer s H vs Q E hr h => ?_)
  · obtain ⟨a, y, r, rfl, _⟩ := h
    rfl
  · obtain ⟨a, y, r, rfl, ⟨da, ha⟩, h⟩ := h
    refine ⟨_, (pss_one (ps_ret (pe_and (pe_callB  call_isi (by rfl) T.b_isinstance (by decide +kernel) (pa_cons (pv 1) (pa_cons (pe_glob (v := .ref Z.cC) rfl T.g_C rfl) pa_nil))) (pe_and (pe_cmpR op_eq (pe_fld (pv 0) rfl) (pe_fld (pv 1) rfl) (nomark _)) (pe_and (pe_cmpR op_eq (pe_fld (pv 0) rfl) (pe_fld (pv 1) rfl) (nomark _)) (pe_and (pe_cmpR op_eq (pe_fld (pv 0) rfl) (pe_fld (pv 1) rfl) (nomark _)) (pe_and (pe_cmpR op_eq (pe_fld (pv 0) rfl) (pe_fld (pv 1) rfl) (nomark _)) (pe_and (pe_cmpR op_eq (pe_fld (pv 0) rfl) (pe_fld (pv 1) rfl) (nomark _)) (pe_one (pe_cmpR op_eq (pe_fld (pv 0) rfl) (pe_fld (pv 1) rfl) (nomark _))))))))))), ?_⟩
    rcases h with ⟨b, r', rfl, ⟨db, hb⟩, k⟩ | ⟨b, xs, rfl, hb, k⟩
    · rw [eqB_eq] at k
      refine ⟨_, rfl, _, _, _, _, true, rfl, .own Z.cC, .base (.ins hb T.cl T.z_cls T.z_get T.z_tk T.z_mro), T.z_kit, true, rfl, iteT ?_⟩
      refine ⟨_, rfl, a, _, da, _, _, rfl, ha, T.cl, T.n_first, tfs_first r, _, rfl, b, _, db, _, _, rfl, hb, T.cl, T.n_first, tfs_first r', rfl, _, rfl, ?_⟩
      rw [dec_int]
      cases c1 : (r.f == r'.f)
      · rw [c1] at k
        exact iteF k
      rw [c1] at k
      refine iteT ⟨_, rfl, a, _, da, _, _, rfl, ha, T.cl, T.n_second, tfs_second r, _, rfl, b, _, db, _, _, rfl, hb, T.cl, T.n_second, tfs_second r', rfl, _, rfl, ?_⟩
      rw [dec_int]
      cases c2 : (r.s == r'.s)
      · rw [c2] at k
        exact iteF k
      rw [c2] at k
      refine iteT ⟨_, rfl, a, _, da, _, _, rfl, ha, T.cl, T.n_length, tfs_length r, _, rfl, b, _, db, _, _, rfl, hb, T.cl, T.n_length, tfs_length r', rfl, _, rfl, ?_⟩
      rw [dec_int]
      cases c3 : (r.l == r'.l)
      · rw [c3] at k
        exact iteF k
      rw [c3] at k
      refine iteT ⟨_, rfl, a, _, da, _, _, rfl, ha, T.cl, T.n_amount, tfs_amount r, _, rfl, b, _, db, _, _, rfl, hb, T.cl, T.n_amount, tfs_amount r', rfl, _, rfl, ?_⟩
      rw [dec_int]
      cases c4 : (r.a == r'.a)
      · rw [c4] at k
        exact iteF k
      rw [c4] at k
      refine iteT ⟨_, rfl, a, _, da, _, _, rfl, ha, T.cl, T.n_down, tfs_down r, _, rfl, b, _, db, _, _, rfl, hb, T.cl, T.n_down, tfs_down r', rfl, _, rfl, ?_⟩
      rw [dec_bl]
      cases c5 : (r.d == r'.d)
      · rw [c5] at k
        exact iteF k
      rw [c5] at k
      refine iteT ⟨_, rfl, a, _, da, _, _, rfl, ha, T.cl, T.n_backward, tfs_backward r, _, rfl, b, _, db, _, _, rfl, hb, T.cl, T.n_backward, tfs_backward r', rfl, ?_⟩
      rw [dec_bl]
      cases c6 : (r.b == r'.b)
      · rw [c6] at k
        exact k
      · rw [c6] at k
        exact k
    · exact ⟨_, rfl, _, _, _, _, false, rfl, .own Z.cC, .base (.tup hb), T.z_kitT, false, rfl, iteF k⟩
end
end TT

set_option Elab.async false
set_option linter.all false
set_option maxRecDepth 100000
set_option maxHeartbeats 4000000
namespace TT
open PySem PySem.Spec PyProof.Rows L2
theorem Pot.ne {H : Hp} {p q : Addr} {n : Nat} (hp : Pot H p n) (hq : H q = none) : p ≠ q := by
  obtain ⟨_, _, e, _⟩ := hp
  exact ne_of_none e hq
theorem Pot.same {H H' : Hp} {p : Addr} {n : Nat} (hp : Pot H p n) (s : Same H H') : Pot H' p n := by
  obtain ⟨a, m, e, r⟩ := hp
  exact ⟨a, m, s _ _ e, r⟩
theorem Keep.same {H H' H2 : Hp} {p : Addr} (k : Keep p H H') (s : Same H' H2) : Keep p H H2 := fun b o n e => s _ _ (k b o n e)
/-! ### odd things -/
inductive Fl : V → PyData → Prop
  | non : Fl .non .none
  | bl (b : Bool) : Fl (.bl b) (.bool b)
  | int (i : Int) : Fl (.int i) (.int i)
  | str (x : Str) : Fl (.str x) (.str x)
inductive Fls : List V → List PyData → Prop
  | nil : Fls [] []
  | cons {v : V} {d : PyData} {vs : List V} {ds : List PyData} (h : Fl v d) (t : Fls vs ds) : Fls (v :: vs) (d :: ds)
/-- v stands for d, in things other than the pot -/
inductive Odd (p : Addr) (H : Hp) : V → PyData → Prop
  | fl {v : V} {d : PyData} (h : Fl v d) : Odd p H v d
  | t {a : Addr} {xs : List V} {ds : List PyData} (n : a ≠ p) (h : H a = some (.tup xs)) (f : Fls xs ds) : Odd p H (.ref a) (.tuple ds)
  | l {a : Addr} {xs : List V} {ds : List PyData} (n : a ≠ p) (h : H a = some (.lst xs)) (f : Fls xs ds) : Odd p H (.ref a) (.list ds)
  | tt {a b : Addr} (n : a ≠ p) (m : b ≠ p) (h : H a = some (.tup [.ref b])) (h2 : H b = some (.tup [])) : Odd p H (.ref a) (.tuple [.tuple []])
  | d0 {a : Addr} (n : a ≠ p) (h : H a = some (.dK [])) : Odd p H (.ref a) (.dict [])
  | d1 {a : Addr} {k : Str} {i : Int} (n : a ≠ p) (h : H a = some (.dK [(.inr k, .int i)])) : Odd p H (.ref a) (.dict [(.str k, .int i)])
theorem Odd.keep {p : Addr} {H H' : Hp} {v : V} {d : PyData} (k : Keep p H H') (o : Odd p H v d) : Odd p H' v d := by
  cases o with
  | fl h => exact .fl h
  | t n h f => exact .t n (k _ _ n h) f
  | l n h f => exact .l n (k _ _ n h) f
  | tt n m h h2 => exact .tt n m (k _ _ n h) (k _ _ m h2)
  | d0 n h => exact .d0 n (k _ _ n h)
  | d1 n h => exact .d1 n (k _ _ n h)
def menu : List PyData := [.none, .bool true, .bool false, .int (-1), .str "", .str "0", .str "up", .str "back", .tuple [], .list [], .dict [], .tuple [.tuple []], .tuple [.int 0], .list [.int 0], .tuple [.int 0, .int 1], .str "0 1 1 up 0", .str "tie",
  .tuple [.bool true], .list [.str "0"], .dict [(.str "a", .int 0)], .str "size 1", .tuple [.str "down", .int 1]]
/-- all that repr wants of it, alone and thirty times in a list -/
def fine (d : PyData) : Bool := d.showable && decide (d.depth ≤ 60) && decide (d.shown.length ≤ 1000) && (PyData.list (List.replicate 30 d)).showable && decide ((PyData.list (List.replicate 30 d)).depth ≤ 60) && decide ((PyData.list (List.replicate 30 d)).shown.length ≤ 100000)
theorem menu_fine : menu.all fine = true := by decide +kernel
def sp_l_odd : Sp := fun vs H Q _ => ∃ (p : Addr) (n : Nat), vs = [.ref p] ∧ Pot H p n ∧ n < 1000000 ∧ ∀ (v : V) (d : PyData) (n' : Nat) (H' : Hp), d ∈ menu → Odd p H' v d → n' ≤ n + 1 → Pot H' p n' → Keep p H H' → Q v H'
section
variable {P : Program} {w : World} {K : PySem.W.Frag} {mg : Str → Option Value} {base : Heap} {Z : Zs}
theorem ok_l_odd (T : Txt K mg Z) : FnOk P w K mg base CX0 3 Z.f_l_odd Z.d_l_odd ["_law_pot_here"] sp_l_odd := by
  refine T.F_l_odd.ok sc_l_odd (fun vs H Q E h => ?_) (fun cdv A outer s H vs Q E hr h => ?_)
  · obtain ⟨p, n, rfl, _⟩ := h
    rfl
  · obtain ⟨p, n, rfl, hp, hn, k⟩ := h
    refine ⟨_, (pss_cons (ps_set (i := 1) sc_l_odd.nd rfl (Or.inl rfl) (pe_lst (pa_cons pe_non (pa_cons pe_bl (pa_cons pe_bl (pa_cons (pe_un un_neg pe_int) (pa_cons pe_str (pa_cons pe_str (pa_cons pe_str (pa_cons pe_str (pa_cons (pe_tup pa_nil) (pa_cons (pe_lst pa_nil) (pa_cons pe_dnewK (pa_cons (pe_tup (pa_cons (pe_tup pa_nil) pa_nil)) (pa_cons (pe_tup (pa_cons pe_int pa_nil)) (pa_cons (pe_lst (pa_cons pe_int pa_nil)) (pa_cons (pe_tup (pa_cons pe_int (pa_cons pe_int pa_nil))) (pa_cons pe_str (pa_cons pe_str pa_nil)))))))))))))))))))
      (pss_one (ps_ret (pe_call (ok_l_of T) (hr.mono (by decide)) rfl T.g_l_of T.k_l_of T.bn_l_of .nil pass0 (pa_cons (pv 0) (pa_cons (pe_op op_cat (pv 1) (pe_lst (pa_cons (pe_tup (pa_cons pe_bl pa_nil)) (pa_cons (pe_lst (pa_cons pe_str pa_nil)) (pa_cons (pe_disp (pps_cons pe_str pe_int pps_nil) (by rfl) (by rfl) (fun z => by cases z) (by decide)) (pa_cons pe_str (pa_cons (pe_tup (pa_cons pe_str (pa_cons pe_int pa_nil))) pa_nil))))))) pa_nil)))))), ?_⟩
    obtain ⟨G0, eG⟩ : ∃ G0, G0 = H := ⟨_, rfl⟩
    have s : Same H G0 := by rw [eG]; exact Same.refl H
    replace hp : Pot G0 p n := by rw [eG]; exact hp
    refine Eq.mp (congrArg _ eG) ?_
    refine ⟨_, rfl, ?_⟩
    refine ⟨by show 0 ≤ sizeLine; decide, fun a8 ha8 => ?_⟩
    have ne_a8 : a8 ≠ p := (hp.ne ha8).symm
    have t : Same G0 (upd G0 a8 (.tup [])) := Same.new (Same.refl G0) ha8
    replace hp := hp.same t
    replace s := s.trans t
    have ca8 : (upd G0 a8 (.tup [])) a8 = some (.tup []) := upd_same
    clear t ha8
    generalize upd G0 a8 (.tup []) = G1 at hp s ca8 ⊢
    refine ⟨by show 0 ≤ sizeLine; decide, fun a9 ha9 => ?_⟩
    have ne_a9 : a9 ≠ p := (hp.ne ha9).symm
    have t : Same G1 (upd G1 a9 (.lst [])) := Same.new (Same.refl G1) ha9
    replace ca8 := t _ _ ca8
    replace hp := hp.same t
    replace s := s.trans t
    have ca9 : (upd G1 a9 (.lst [])) a9 = some (.lst []) := upd_same
    clear t ha9
    generalize upd G1 a9 (.lst []) = G2 at ca8 hp s ca9 ⊢
    intro a10 ha10
    have ne_a10 : a10 ≠ p := (hp.ne ha10).symm
    have t : Same G2 (upd G2 a10 (.dK [])) := Same.new (Same.refl G2) ha10
    replace ca8 := t _ _ ca8
    replace ca9 := t _ _ ca9
    replace hp := hp.same t
    replace s := s.trans t
    have ca10 : (upd G2 a10 (.dK [])) a10 = some (.dK []) := upd_same
    clear t ha10
    generalize upd G2 a10 (.dK []) = G3 at ca8 ca9 hp s ca10 ⊢
    refine ⟨by show 0 ≤ sizeLine; decide, fun b11 hb11 => ?_⟩
    have ne_b11 : b11 ≠ p := (hp.ne hb11).symm
    have t : Same G3 (upd G3 b11 (.tup [])) := Same.new (Same.refl G3) hb11
    replace ca8 := t _ _ ca8
    replace ca9 := t _ _ ca9
    replace ca10 := t _ _ ca10
    replace hp := hp.same t
    replace s := s.trans t
    have cb11 : (upd G3 b11 (.tup [])) b11 = some (.tup []) := upd_same
    clear t hb11
    generalize upd G3 b11 (.tup []) = G4 at ca8 ca9 ca10 hp s cb11 ⊢
    refine ⟨by show 1 ≤ sizeLine; decide, fun a11 ha11 => ?_⟩
    have ne_a11 : a11 ≠ p := (hp.ne ha11).symm
    have t : Same G4 (upd G4 a11 (.tup [.ref b11])) := Same.new (Same.refl G4) ha11
    replace ca8 := t _ _ ca8
    replace ca9 := t _ _ ca9
    replace ca10 := t _ _ ca10
    replace cb11 := t _ _ cb11
    replace hp := hp.same t
    replace s := s.trans t
    have ca11 : (upd G4 a11 (.tup [.ref b11])) a11 = some (.tup [.ref b11]) := upd_same
    clear t ha11
    generalize upd G4 a11 (.tup [.ref b11]) = G5 at ca8 ca9 ca10 cb11 hp s ca11 ⊢
    refine ⟨by show 1 ≤ sizeLine; decide, fun a12 ha12 => ?_⟩
    have ne_a12 : a12 ≠ p := (hp.ne ha12).symm
    have t : Same G5 (upd G5 a12 (.tup [.int 0])) := Same.new (Same.refl G5) ha12
    replace ca8 := t _ _ ca8
    replace ca9 := t _ _ ca9
    replace ca10 := t _ _ ca10
    replace cb11 := t _ _ cb11
    replace ca11 := t _ _ ca11
    replace hp := hp.same t
    replace s := s.trans t
    have ca12 : (upd G5 a12 (.tup [.int 0])) a12 = some (.tup [.int 0]) := upd_same
    clear t ha12
    generalize upd G5 a12 (.tup [.int 0]) = G6 at ca8 ca9 ca10 cb11 ca11 hp s ca12 ⊢
    refine ⟨by show 1 ≤ sizeLine; decide, fun a13 ha13 => ?_⟩
    have ne_a13 : a13 ≠ p := (hp.ne ha13).symm
    have t : Same G6 (upd G6 a13 (.lst [.int 0])) := Same.new (Same.refl G6) ha13
    replace ca8 := t _ _ ca8
    replace ca9 := t _ _ ca9
    replace ca10 := t _ _ ca10
    replace cb11 := t _ _ cb11
    replace ca11 := t _ _ ca11
    replace ca12 := t _ _ ca12
    replace hp := hp.same t
    replace s := s.trans t
    have ca13 : (upd G6 a13 (.lst [.int 0])) a13 = some (.lst [.int 0]) := upd_same
    clear t ha13
    generalize upd G6 a13 (.lst [.int 0]) = G7 at ca8 ca9 ca10 cb11 ca11 ca12 hp s ca13 ⊢
    refine ⟨by show 2 ≤ sizeLine; decide, fun a14 ha14 => ?_⟩
    have ne_a14 : a14 ≠ p := (hp.ne ha14).symm
    have t : Same G7 (upd G7 a14 (.tup [.int 0, .int 1])) := Same.new (Same.refl G7) ha14
    replace ca8 := t _ _ ca8
    replace ca9 := t _ _ ca9
    replace ca10 := t _ _ ca10
    replace cb11 := t _ _ cb11
    replace ca11 := t _ _ ca11
    replace ca12 := t _ _ ca12
    replace ca13 := t _ _ ca13
    replace hp := hp.same t
    replace s := s.trans t
    have ca14 : (upd G7 a14 (.tup [.int 0, .int 1])) a14 = some (.tup [.int 0, .int 1]) := upd_same
    clear t ha14
    generalize upd G7 a14 (.tup [.int 0, .int 1]) = G8 at ca8 ca9 ca10 cb11 ca11 ca12 ca13 hp s ca14 ⊢
    refine ⟨by show 17 ≤ sizeLine; decide, fun q1 hq1 => ?_⟩
    have ne_q1 : q1 ≠ p := (hp.ne hq1).symm
    have t : Same G8 (upd G8 q1 (.lst [.non, .bl true, .bl false, .int (-1), .str "", .str "0", .str "up", .str "back", .ref a8, .ref a9, .ref a10, .ref a11, .ref a12, .ref a13, .ref a14, .str "0 1 1 up 0", .str "tie"])) := Same.new (Same.refl G8) hq1
    replace ca8 := t _ _ ca8
    replace ca9 := t _ _ ca9
    replace ca10 := t _ _ ca10
    replace cb11 := t _ _ cb11
    replace ca11 := t _ _ ca11
    replace ca12 := t _ _ ca12
    replace ca13 := t _ _ ca13
    replace ca14 := t _ _ ca14
    replace hp := hp.same t
    replace s := s.trans t
    have cq1 : (upd G8 q1 (.lst [.non, .bl true, .bl false, .int (-1), .str "", .str "0", .str "up", .str "back", .ref a8, .ref a9, .ref a10, .ref a11, .ref a12, .ref a13, .ref a14, .str "0 1 1 up 0", .str "tie"])) q1 = some (.lst [.non, .bl true, .bl false, .int (-1), .str "", .str "0", .str "up", .str "back", .ref a8, .ref a9, .ref a10, .ref a11, .ref a12, .ref a13, .ref a14, .str "0 1 1 up 0", .str "tie"]) := upd_same
    clear t hq1
    generalize upd G8 q1 (.lst [.non, .bl true, .bl false, .int (-1), .str "", .str "0", .str "up", .str "back", .ref a8, .ref a9, .ref a10, .ref a11, .ref a12, .ref a13, .ref a14, .str "0 1 1 up 0", .str "tie"]) = G9 at ca8 ca9 ca10 cb11 ca11 ca12 ca13 ca14 hp s cq1 ⊢
    refine ⟨_, rfl, _, rfl, ?_⟩
    refine ⟨by show 1 ≤ sizeLine; decide, fun a17 ha17 => ?_⟩
    have ne_a17 : a17 ≠ p := (hp.ne ha17).symm
    have t : Same G9 (upd G9 a17 (.tup [.bl true])) := Same.new (Same.refl G9) ha17
    replace ca8 := t _ _ ca8
    replace ca9 := t _ _ ca9
    replace ca10 := t _ _ ca10
    replace cb11 := t _ _ cb11
    replace ca11 := t _ _ ca11
    replace ca12 := t _ _ ca12
    replace ca13 := t _ _ ca13
    replace ca14 := t _ _ ca14
    replace cq1 := t _ _ cq1
    replace hp := hp.same t
    replace s := s.trans t
    have ca17 : (upd G9 a17 (.tup [.bl true])) a17 = some (.tup [.bl true]) := upd_same
    clear t ha17
    generalize upd G9 a17 (.tup [.bl true]) = G10 at ca8 ca9 ca10 cb11 ca11 ca12 ca13 ca14 cq1 hp s ca17 ⊢
    refine ⟨by show 1 ≤ sizeLine; decide, fun a18 ha18 => ?_⟩
    have ne_a18 : a18 ≠ p := (hp.ne ha18).symm
    have t : Same G10 (upd G10 a18 (.lst [.str "0"])) := Same.new (Same.refl G10) ha18
    replace ca8 := t _ _ ca8
    replace ca9 := t _ _ ca9
    replace ca10 := t _ _ ca10
    replace cb11 := t _ _ cb11
    replace ca11 := t _ _ ca11
    replace ca12 := t _ _ ca12
    replace ca13 := t _ _ ca13
    replace ca14 := t _ _ ca14
    replace cq1 := t _ _ cq1
    replace ca17 := t _ _ ca17
    replace hp := hp.same t
    replace s := s.trans t
    have ca18 : (upd G10 a18 (.lst [.str "0"])) a18 = some (.lst [.str "0"]) := upd_same
    clear t ha18
    generalize upd G10 a18 (.lst [.str "0"]) = G11 at ca8 ca9 ca10 cb11 ca11 ca12 ca13 ca14 cq1 ca17 hp s ca18 ⊢
    intro a19 ha19
    refine ⟨upd_same, [(.inr "a", .int 0)], rfl, by show 1 ≤ 15; decide, ?_⟩
    have ne_a19 : a19 ≠ p := (hp.ne ha19).symm
    have t : Same G11 (upd (upd G11 a19 (.dK [])) a19 (.dK (mergeK [] [(.inr "a", .int 0)]))) := Same.updN (Same.new (Same.refl G11) ha19) ha19
    replace ca8 := t _ _ ca8
    replace ca9 := t _ _ ca9
    replace ca10 := t _ _ ca10
    replace cb11 := t _ _ cb11
    replace ca11 := t _ _ ca11
    replace ca12 := t _ _ ca12
    replace ca13 := t _ _ ca13
    replace ca14 := t _ _ ca14
    replace cq1 := t _ _ cq1
    replace ca17 := t _ _ ca17
    replace ca18 := t _ _ ca18
    replace hp := hp.same t
    replace s := s.trans t
    have ca19 : (upd (upd G11 a19 (.dK [])) a19 (.dK (mergeK [] [(.inr "a", .int 0)]))) a19 = some (.dK [(.inr "a", .int 0)]) := upd_same
    clear t ha19
    generalize upd (upd G11 a19 (.dK [])) a19 (.dK (mergeK [] [(.inr "a", .int 0)])) = G12 at ca8 ca9 ca10 cb11 ca11 ca12 ca13 ca14 cq1 ca17 ca18 hp s ca19 ⊢
    refine ⟨by show 2 ≤ sizeLine; decide, fun a21 ha21 => ?_⟩
    have ne_a21 : a21 ≠ p := (hp.ne ha21).symm
    have t : Same G12 (upd G12 a21 (.tup [.str "down", .int 1])) := Same.new (Same.refl G12) ha21
    replace ca8 := t _ _ ca8
    replace ca9 := t _ _ ca9
    replace ca10 := t _ _ ca10
    replace cb11 := t _ _ cb11
    replace ca11 := t _ _ ca11
    replace ca12 := t _ _ ca12
    replace ca13 := t _ _ ca13
    replace ca14 := t _ _ ca14
    replace cq1 := t _ _ cq1
    replace ca17 := t _ _ ca17
    replace ca18 := t _ _ ca18
    replace ca19 := t _ _ ca19
    replace hp := hp.same t
    replace s := s.trans t
    have ca21 : (upd G12 a21 (.tup [.str "down", .int 1])) a21 = some (.tup [.str "down", .int 1]) := upd_same
    clear t ha21
    generalize upd G12 a21 (.tup [.str "down", .int 1]) = G13 at ca8 ca9 ca10 cb11 ca11 ca12 ca13 ca14 cq1 ca17 ca18 ca19 hp s ca21 ⊢
    refine ⟨by show 5 ≤ sizeLine; decide, fun q2 hq2 => ?_⟩
    have ne_q2 : q2 ≠ p := (hp.ne hq2).symm
    have t : Same G13 (upd G13 q2 (.lst [.ref a17, .ref a18, .ref a19, .str "size 1", .ref a21])) := Same.new (Same.refl G13) hq2
    replace ca8 := t _ _ ca8
    replace ca9 := t _ _ ca9
    replace ca10 := t _ _ ca10
    replace cb11 := t _ _ cb11
    replace ca11 := t _ _ ca11
    replace ca12 := t _ _ ca12
    replace ca13 := t _ _ ca13
    replace ca14 := t _ _ ca14
    replace cq1 := t _ _ cq1
    replace ca17 := t _ _ ca17
    replace ca18 := t _ _ ca18
    replace ca19 := t _ _ ca19
    replace ca21 := t _ _ ca21
    replace hp := hp.same t
    replace s := s.trans t
    have cq2 : (upd G13 q2 (.lst [.ref a17, .ref a18, .ref a19, .str "size 1", .ref a21])) q2 = some (.lst [.ref a17, .ref a18, .ref a19, .str "size 1", .ref a21]) := upd_same
    clear t hq2
    generalize upd G13 q2 (.lst [.ref a17, .ref a18, .ref a19, .str "size 1", .ref a21]) = G14 at ca8 ca9 ca10 cb11 ca11 ca12 ca13 ca14 cq1 ca17 ca18 ca19 ca21 hp s cq2 ⊢
    refine ⟨q1, q2, _, _, rfl, rfl, cq1, cq2, by show 17 + 5 ≤ sizeLine; decide, fun q3 hq3 => ?_⟩
    have ne_q3 : q3 ≠ p := (hp.ne hq3).symm
    have t : Same G14 (upd G14 q3 (.lst ([.non, .bl true, .bl false, .int (-1), .str "", .str "0", .str "up", .str "back", .ref a8, .ref a9, .ref a10, .ref a11, .ref a12, .ref a13, .ref a14, .str "0 1 1 up 0", .str "tie"] ++ [.ref a17, .ref a18, .ref a19, .str "size 1", .ref a21]))) := Same.new (Same.refl G14) hq3
    replace ca8 := t _ _ ca8
    replace ca9 := t _ _ ca9
    replace ca10 := t _ _ ca10
    replace cb11 := t _ _ cb11
    replace ca11 := t _ _ ca11
    replace ca12 := t _ _ ca12
    replace ca13 := t _ _ ca13
    replace ca14 := t _ _ ca14
    replace cq1 := t _ _ cq1
    replace ca17 := t _ _ ca17
    replace ca18 := t _ _ ca18
    replace ca19 := t _ _ ca19
    replace ca21 := t _ _ ca21
    replace cq2 := t _ _ cq2
    replace hp := hp.same t
    replace s := s.trans t
    refine ⟨p, q3, n, [.non, .bl true, .bl false, .int (-1), .str "", .str "0", .str "up", .str "back", .ref a8, .ref a9, .ref a10, .ref a11, .ref a12, .ref a13, .ref a14, .str "0 1 1 up 0", .str "tie"] ++ [.ref a17, .ref a18, .ref a19, .str "size 1", .ref a21], rfl, hp, hn, upd_same, ne_q3, by show 0 < 22; decide, by show 22 ≤ 1000; decide, fun v n' H' hv hn' hp' kp => ?_⟩
    have kk : Keep p H H' := (Keep.of s).trans kp
    simp only [List.cons_append, List.nil_append, List.mem_cons, List.not_mem_nil, or_false] at hv
    rcases hv with rfl | rfl | rfl | rfl | rfl | rfl | rfl | rfl | rfl | rfl | rfl | rfl | rfl | rfl | rfl | rfl | rfl | rfl | rfl | rfl | rfl | rfl
    · exact k _ .none n' H' (by simp [menu]) (.fl .non) hn' hp' kk
    · exact k _ (.bool true) n' H' (by simp [menu]) (.fl (.bl true)) hn' hp' kk
    · exact k _ (.bool false) n' H' (by simp [menu]) (.fl (.bl false)) hn' hp' kk
    · exact k _ (.int (-1)) n' H' (by simp [menu]) (.fl (.int (-1))) hn' hp' kk
    · exact k _ (.str "") n' H' (by simp [menu]) (.fl (.str "")) hn' hp' kk
    · exact k _ (.str "0") n' H' (by simp [menu]) (.fl (.str "0")) hn' hp' kk
    · exact k _ (.str "up") n' H' (by simp [menu]) (.fl (.str "up")) hn' hp' kk
    · exact k _ (.str "back") n' H' (by simp [menu]) (.fl (.str "back")) hn' hp' kk
    · exact k _ (.tuple []) n' H' (by simp [menu]) (Odd.keep kp (.t ne_a8 ca8 .nil)) hn' hp' kk
    · exact k _ (.list []) n' H' (by simp [menu]) (Odd.keep kp (.l ne_a9 ca9 .nil)) hn' hp' kk
    · exact k _ (.dict []) n' H' (by simp [menu]) (Odd.keep kp (.d0 ne_a10 ca10)) hn' hp' kk
    · exact k _ (.tuple [.tuple []]) n' H' (by simp [menu]) (Odd.keep kp (.tt ne_a11 ne_b11 ca11 cb11)) hn' hp' kk
    · exact k _ (.tuple [.int 0]) n' H' (by simp [menu]) (Odd.keep kp (.t ne_a12 ca12 (.cons (.int 0) .nil))) hn' hp' kk
    · exact k _ (.list [.int 0]) n' H' (by simp [menu]) (Odd.keep kp (.l ne_a13 ca13 (.cons (.int 0) .nil))) hn' hp' kk
    · exact k _ (.tuple [.int 0, .int 1]) n' H' (by simp [menu]) (Odd.keep kp (.t ne_a14 ca14 (.cons (.int 0) (.cons (.int 1) .nil)))) hn' hp' kk
    · exact k _ (.str "0 1 1 up 0") n' H' (by simp [menu]) (.fl (.str "0 1 1 up 0")) hn' hp' kk
    · exact k _ (.str "tie") n' H' (by simp [menu]) (.fl (.str "tie")) hn' hp' kk
    · exact k _ (.tuple [.bool true]) n' H' (by simp [menu]) (Odd.keep kp (.t ne_a17 ca17 (.cons (.bl true) .nil))) hn' hp' kk
    · exact k _ (.list [.str "0"]) n' H' (by simp [menu]) (Odd.keep kp (.l ne_a18 ca18 (.cons (.str "0") .nil))) hn' hp' kk
    · exact k _ (.dict [(.str "a", .int 0)]) n' H' (by simp [menu]) (Odd.keep kp (.d1 ne_a19 ca19)) hn' hp' kk
    · exact k _ (.str "size 1") n' H' (by simp [menu]) (.fl (.str "size 1")) hn' hp' kk
    · exact k _ (.tuple [.str "down", .int 1]) n' H' (by simp [menu]) (Odd.keep kp (.t ne_a21 ca21 (.cons (.str "down") (.cons (.int 1) .nil)))) hn' hp' kk
end
end TT
set_option Elab.async false
set_option linter.all false
set_option maxRecDepth 100000
set_option maxHeartbeats 4000000
namespace TT
open PySem PySem.Spec PyProof.Rows L2
/-! ### the texts of rows -/
theorem shown_int (i : Int) : (PyData.int i).shown = Str.ofString (toString i) := by simp [PyData.shown]
theorem bool_len (b : Bool) : ((PyData.bool b).shown).length ≤ 5 := by cases b <;> simp [PyData.shown] <;> decide
theorem int_len64 {i : Int} (h0 : -(10 ^ 64) < i) (h1 : i < 10 ^ 64) : (Str.ofString (toString i)).length ≤ 65 := by
  have h := PySem.int_text_length_le10 (a := i) (k := 64) (by decide) (by
    have e : ((10 ^ 64 : Nat) : Int) = 10 ^ 64 := by decide +kernel
    omega)
  rw [PySem.ofString_length]
  omega
theorem int_ok64 {i : Int} (h0 : -(10 ^ 64) < i) (h1 : i < 10 ^ 64) : (PyData.int i).showable = true := by
  have h : i.natAbs.log2 < 1920 := PySem.Flt.log2_lt_of (by decide) (by
    have : (10 : Int) ^ 64 < 2 ^ 1920 := by decide +kernel
    omega)
  simpa [PyData.showable] using h
theorem dat_ok {r : Row} (ok : r.Ok) : r.dat.showable = true ∧ r.dat.hasDict = false ∧ r.dat.depth ≤ 60 ∧ r.dat.shown.length ≤ sizeLine := by
  have e30 : (10 : Int) ^ 30 < 10 ^ 64 := by decide +kernel
  have e60 : (10 : Int) ^ 60 < 10 ^ 64 := by decide +kernel
  have f0 := ok.f0; have s0 := ok.s0; have l0 := ok.l0; have fe := ok.fe; have se := ok.se; have al := ok.al; have ah := ok.ah
  have bf : -(10 ^ 64) < r.f ∧ r.f < 10 ^ 64 := by constructor <;> omega
  have bs : -(10 ^ 64) < r.s ∧ r.s < 10 ^ 64 := by constructor <;> omega
  have bl : -(10 ^ 64) < r.l ∧ r.l < 10 ^ 64 := by constructor <;> omega
  have ba : -(10 ^ 64) < r.a ∧ r.a < 10 ^ 64 := by constructor <;> omega
  refine ⟨?_, ?_, ?_, ?_⟩
  · unfold Row.dat
    rw [PyData.showable]
    simp only [PyData.showableAll, int_ok64 bf.1 bf.2, int_ok64 bs.1 bs.2, int_ok64 bl.1 bl.2, int_ok64 ba.1 ba.2, Bool.true_and, Bool.and_true]
    simp [PyData.showable]
  · simp [Row.dat, PyData.hasDict, PyData.hasDictAll]
  · simp [Row.dat, PyData.depth, PyData.depthAll]
  · unfold Row.dat
    rw [PyData.shown]
    simp only [PyData.shownAll]
    have sl : sizeLine = 16777216 := sizeLine_eq
    have j := join_length_add [(PyData.int r.f).shown, (PyData.int r.s).shown, (PyData.int r.l).shown, (PyData.int r.a).shown, (PyData.bool r.d).shown, (PyData.bool r.b).shown] (by simp)
    have z1 := int_len64 bf.1 bf.2; have z2 := int_len64 bs.1 bs.2; have z3 := int_len64 bl.1 bl.2; have z4 := int_len64 ba.1 ba.2; have z5 := bool_len r.d; have z6 := bool_len r.b
    rw [← shown_int] at z1 z2 z3 z4
    unfold tupleText
    rw [Str.length_append, Str.length_append]
    simp only [piled, List.map_cons, List.map_nil, List.sum_cons, List.sum_nil] at j
    have y1 : (Str.ofString "(").length = 1 := by decide
    have y2 : (Str.ofString ")").length = 1 := by decide
    simp only [List.length_cons, List.length_nil]
    have y3 : (Str.ofString (if (0 + 1 + 1 + 1 + 1 + 1 + 1 == 1) = true then ",)" else ")")).length = 1 := by decide
    omega
theorem Row.dp {K : PySem.W.Frag} {H : Hp} {q : Addr} {r : Row} (h : H q = some (.tup r.vs)) : Dp K H (.ref q) r.dat :=
  .tup (SqT.of h) (.cons (.int _) (.cons (.int _) (.cons (.int _) (.cons (.int _) (.cons (.bl _) (.cons (.bl _) .nil))))))
/-! ### told back -/
end TT


namespace TT
open PySem PySem.Spec PyProof.Rows L2 LamX
/-! ### odd things: whether they are ints; their texts -/
def isInt : V → Option Int
  | .int i => some i
  | _ => none
theorem whole_non {K : PySem.W.Frag} {H : Hp} : Whole K H .non false := ⟨_, false, false, .base .non, kit_ty (by decide +kernel), kit_ty (by decide +kernel), rfl⟩
theorem whole_bl {K : PySem.W.Frag} {H : Hp} (b : Bool) : Whole K H (.bl b) false := ⟨_, true, true, .base (.bl b), kit_ty (by decide +kernel), kit_ty (by decide +kernel), rfl⟩
theorem whole_str {K : PySem.W.Frag} {H : Hp} (x : Str) : Whole K H (.str x) false := ⟨_, false, false, .base (.str x), kit_ty (by decide +kernel), kit_ty (by decide +kernel), rfl⟩
theorem whole_tup {K : PySem.W.Frag} {H : Hp} {a : Addr} {xs : List V} (h : H a = some (.tup xs)) : Whole K H (.ref a) false := ⟨_, false, false, .base (.tup h), kit_ty (by decide +kernel), kit_ty (by decide +kernel), rfl⟩
theorem whole_lst {K : PySem.W.Frag} {H : Hp} {a : Addr} {xs : List V} (h : H a = some (.lst xs)) : Whole K H (.ref a) false := ⟨_, false, false, .base (.lst h), kit_ty (by decide +kernel), kit_ty (by decide +kernel), rfl⟩
theorem whole_dK {K : PySem.W.Frag} {H : Hp} {a : Addr} {kvs : List (Key × V)} (h : H a = some (.dK kvs)) : Whole K H (.ref a) false := ⟨_, false, false, .base (.dK h), kit_ty (by decide +kernel), kit_ty (by decide +kernel), rfl⟩
theorem Odd.isI {K : PySem.W.Frag} {p : Addr} {H : Hp} {v : V} {d : PyData} (o : Odd p H v d) : IsI K H v (isInt v) := by
  cases o with
  | fl h =>
    cases h with
    | non => exact .no whole_non
    | bl b => exact .no (whole_bl b)
    | int i => exact .int i
    | str x => exact .no (whole_str x)
  | t n h f => exact .no (whole_tup h)
  | l n h f => exact .no (whole_lst h)
  | tt n m h h2 => exact .no (whole_tup h)
  | d0 n h => exact .no (whole_dK h)
  | d1 n h => exact .no (whole_dK h)
theorem IsI.whole {K : PySem.W.Frag} {H : Hp} {v : V} {o : Option Int} (h : IsI K H v o) : Whole K H v o.isSome := by
  cases h with
  | int i => exact whole_int i
  | no h => exact h
/-- what repr wants -/
structure Shown (d : PyData) : Prop where
  ok : d.showable = true
  dep : d.depth ≤ 60
  len : d.shown.length ≤ sizeLine
theorem shown_menu {d : PyData} (h : d ∈ menu) : Shown d := by
  have hf := List.all_eq_true.mp menu_fine d h
  unfold fine at hf
  simp only [Bool.and_eq_true, decide_eq_true_eq] at hf
  have sl : sizeLine = 16777216 := sizeLine_eq
  obtain ⟨⟨⟨⟨⟨f1, f2⟩, f3⟩, f4⟩, f5⟩, f6⟩ := hf
  exact ⟨f1, f2, by omega⟩
theorem shown_i {i : Int} (h0 : -(10 ^ 64) < i) (h1 : i < 10 ^ 64) : Shown (.int i) := by
  refine ⟨int_ok64 h0 h1, by simp [PyData.depth], ?_⟩
  rw [shown_int]
  have := int_len64 h0 h1
  have sl : sizeLine = 16777216 := sizeLine_eq
  omega
theorem shown_os {x : String} (h : x.length ≤ 1000) : Shown (.str (Str.ofString x)) := by
  have sl : sizeLine = 16777216 := sizeLine_eq
  refine ⟨by simp [PyData.showable], by simp [PyData.depth], ?_⟩
  have b : (PyData.str (Str.ofString x)).leavesShort 13 = true := by
    simp only [PyData.leavesShort, List.all_eq_true, decide_eq_true_eq]
    intro c hc
    rw [Str.ofString_eq_toList] at hc
    simp only [List.toList_toArray, List.mem_map] at hc
    obtain ⟨ch, _, rfl⟩ := hc
    have h1 : ch.toNat < 1114112 := by
      have := ch.valid
      unfold UInt32.isValidChar Nat.isValidChar at this
      show ch.val.toNat < 1114112
      omega
    omega
  have q := PyData.shown_le 13 (by decide) _ b
  have w : (PyData.str (Str.ofString x)).weight ≤ 1000 := by
    show (Str.ofString x).length ≤ 1000
    rw [PySem.ofString_length]
    exact h
  omega
theorem dig_len {n : Int} (h0 : 0 ≤ n) (h1 : n < 10 ^ 64) : (toString n : String).length ≤ 1000 := by
  have h := int_len64 (i := n) (by have : (0 : Int) < 10 ^ 64 := by decide +kernel
                                   omega) h1
  rw [PySem.ofString_length] at h
  omega
theorem shown_t1 {i : Int} (h0 : -(10 ^ 64) < i) (h1 : i < 10 ^ 64) : Shown (.tuple [.int i]) := by
  have s := shown_i h0 h1
  refine ⟨?_, ?_, ?_⟩
  · have := s.ok
    simp only [PyData.showable, PyData.showableAll, Bool.and_true] at this ⊢
    exact this
  · simp [PyData.depth, PyData.depthAll]
  · have l := int_len64 h0 h1
    have j := tupleText_len_le [(PyData.int i).shown]
    rw [PyData.shown]
    simp only [PyData.shownAll]
    rw [shown_int] at j ⊢
    simp only [List.map_cons, List.map_nil, List.sum_cons, List.sum_nil, List.length_cons, List.length_nil] at j
    have sl : sizeLine = 16777216 := sizeLine_eq
    omega
theorem isInt_some {v : V} {i : Int} (h : isInt v = some i) : v = .int i := by
  cases v <;> simp [isInt] at h
  rw [h]
theorem all_rep (n : Nat) : (List.replicate n true).all id = true := by simp
theorem ExtN.keep {p : Addr} {H H' : Hp} (h : ∀ b o, b ≠ p → H b = some o → (∀ ps, o ≠ .tbl ps) → H' b = some o) {v : V} {d : PyData} (o : Odd p H v d) : Odd p H' v d := by
  cases o with
  | fl h => exact .fl h
  | t n e f => exact .t n (h _ _ n e fun _ z => by cases z) f
  | l n e f => exact .l n (h _ _ n e fun _ z => by cases z) f
  | tt n m e e2 => exact .tt n m (h _ _ n e fun _ z => by cases z) (h _ _ m e2 fun _ z => by cases z)
  | d0 n e => exact .d0 n (h _ _ n e fun _ z => by cases z)
  | d1 n e => exact .d1 n (h _ _ n e fun _ z => by cases z)
theorem Odd.extN {p : Addr} {H H' : Hp} (h : ExtN H H') {v : V} {d : PyData} (o : Odd p H v d) : Odd p H' v d := ExtN.keep (fun b u _ e n => h b u e n) o
/-- repr of an odd thing -/
theorem fls_dp {K : PySem.W.Frag} {H : Hp} {vs : List V} {ds : List PyData} (f : Fls vs ds) : DpAll K H vs ds ∧ PyData.hasDictAll ds = false := by
  induction f with
  | nil => exact ⟨.nil, by simp [PyData.hasDictAll]⟩
  | cons h t ih =>
    refine ⟨.cons (by cases h <;> constructor) ih.1, ?_⟩
    cases h <;> simp [PyData.hasDictAll, PyData.hasDict, ih.2]
theorem Odd.dp {K : PySem.W.Frag} {p : Addr} {H : Hp} {v : V} {d : PyData} (o : Odd p H v d) : DpD K H v d := by
  cases o with
  | fl h => exact .dp (by cases h <;> constructor) (by cases h <;> simp [PyData.hasDict])
  | t n h f => exact .dp (.tup (SqT.of h) (fls_dp f).1) (by simp only [PyData.hasDict]; exact (fls_dp (K := K) (H := H) f).2)
  | l n h f => exact .dp (.lst (SqL.of h) (fls_dp f).1) (by simp only [PyData.hasDict]; exact (fls_dp (K := K) (H := H) f).2)
  | tt n m h h2 => exact .tt h h2
  | d0 n h => exact .d0 h
  | d1 n h => exact .d1 h
end TT

set_option maxHeartbeats 4000000
namespace TT
open PySem PySem.Spec PyProof.Rows L2 LamX TL
/-! ### books, by what they tell -/
structure Lore where
  z : Int
  ts : List Row
  ns : List (Int × Int)
def sizeL (z : Int) : Str := Str.ofString "size " ++ Str.ofString (toString z)
def tieL (r : Row) : Str := Str.ofString "tie " ++ rowText r r.b
def noteL (p : Int × Int) : Str := Str.ofString "note " ++ Str.ofString (toString p.1) ++ Str.ofString " " ++ shownInt p.2
def Lore.lines (b : Lore) : List Str := sizeL b.z :: (b.ts.map tieL ++ b.ns.map noteL)
def Lore.text (b : Lore) : Str := Txt.join (Str.ofString "\n") b.lines
/-- a tie of a book of this size -/
structure Row.In (r : Row) (z : Int) : Prop where
  ok : r.Ok
  fz : r.f + r.l ≤ z
  sz : r.s + r.l ≤ z
/-- a note of a book of this size -/
structure NoteIn (p : Int × Int) (z : Int) : Prop where
  p0 : 0 ≤ p.1
  pz : p.1 < z
  lo : -(10 ^ 60) < p.2
  hi : p.2 < 10 ^ 60
/-- numbers that can be written -/
structure Lore.Fine (b : Lore) : Prop where
  z0 : 1 ≤ b.z
  z1 : b.z ≤ 10 ^ 30
  ts : ∀ r ∈ b.ts, r.In b.z
  ns : ∀ p ∈ b.ns, NoteIn p b.z
structure Lore.Ok (b : Lore) : Prop where
  fine : b.Fine
  tn : b.ts.length ≤ 12
  nn : b.ns.length ≤ 12
  nd : (b.ns.map (·.1)).Nodup
theorem nl_tl : tl (Str.ofString "\n") = [10] := by decide +kernel
theorem num_free {n : Int} (h : 0 ≤ n) {c : Nat} (hc : c < 48 ∨ 57 < c) : c ∉ tl (Str.ofString (toString n)) := by
  rw [tl_int h]
  exact numL_free hc
theorem rowText_free {r : Row} (ok : r.Ok) (bk : Bool) : 10 ∉ tl (rowText r bk) := by
  unfold rowText
  rw [show Txt.join (Str.ofString " ") (wordsOf r bk) = _ from join_eq _ _, tl_join]
  have w := word_free ok (bk := bk) (c := 10) (.inr rfl)
  have e1 : tl (Str.ofString " ") = [32] := sp_tl
  rw [e1]
  intro h
  have key : ∀ l : List Str, (∀ p ∈ l, 10 ∉ tl p) → 10 ∉ joinL [32] (l.map tl) := by
    intro l
    induction l with
    | nil => intro _ z; simp [joinL] at z
    | cons a t ih =>
      intro hl z
      cases t with
      | nil => exact hl a (by simp) (by simpa [joinL] using z)
      | cons b t =>
        have z' : 10 ∈ tl a ++ ([32] ++ joinL [32] ((b :: t).map tl)) := z
        rcases List.mem_append.mp z' with z' | z'
        · exact hl a (by simp) z'
        · rcases List.mem_append.mp z' with z' | z'
          · simp at z'
          · exact ih (fun p hp => hl p (List.mem_cons_of_mem _ hp)) z'
  exact key _ w h
theorem line_free {b : Lore} (h : b.Fine) : ∀ p ∈ b.lines, 10 ∉ tl p := by
  intro p hp
  unfold Lore.lines at hp
  have es : 10 ∉ tl (Str.ofString "size ") := by decide +kernel
  have et : 10 ∉ tl (Str.ofString "tie ") := by decide +kernel
  have en : 10 ∉ tl (Str.ofString "note ") := by decide +kernel
  have eb : 10 ∉ tl (Str.ofString " ") := by decide +kernel
  rcases List.mem_cons.mp hp with rfl | hp
  · unfold sizeL
    rw [tl_append, List.mem_append]
    rintro (z | z)
    · exact es z
    · exact num_free (by have := h.z0; omega) (.inl (by decide)) z
  · rcases List.mem_append.mp hp with hp | hp
    · obtain ⟨r, hr, rfl⟩ := List.mem_map.mp hp
      unfold tieL
      rw [tl_append, List.mem_append]
      rintro (z | z)
      · exact et z
      · exact rowText_free (h.ts r hr).ok _ z
    · obtain ⟨r, hr, rfl⟩ := List.mem_map.mp hp
      unfold noteL
      rw [tl_append, tl_append, tl_append]
      simp only [List.mem_append]
      rintro (((z | z) | z) | z)
      · exact en z
      · exact num_free (h.ns r hr).p0 (.inl (by decide)) z
      · exact eb z
      · exact shown_free (.inl (by decide)) z
theorem split_text {b : Lore} (h : b.Fine) : Txt.split b.text (Str.ofString "\n") = b.lines :=
  split_join (s := 10) (S := []) nl_tl (by decide +kernel) (by unfold Lore.lines; simp) (line_free h)
theorem num_len {n : Int} (h0 : 0 ≤ n) (h1 : n ≤ 10 ^ 30) : (Str.ofString (toString n)).length ≤ 31 := by
  have l30 : (10 : Int) ^ 30 < 10 ^ 31 := by decide +kernel
  exact toString_length_le h0 (by decide) (by omega)
theorem size_len {b : Lore} (h : b.Fine) : (sizeL b.z).length ≤ 40 := by
  unfold sizeL
  have z0 := h.z0
  have := num_len (n := b.z) (by omega) h.z1
  have e : (Str.ofString "size ").length = 5 := by decide
  rw [Str.length_append]
  omega
theorem tie_len {r : Row} (h : r.Ok) : (tieL r).length ≤ 210 := by
  unfold tieL
  have := row_len h r.b
  have e : (Str.ofString "tie ").length = 4 := by decide
  rw [Str.length_append]
  omega
theorem note_len {p : Int × Int} {z : Int} (h : NoteIn p z) (hz : z ≤ 10 ^ 30) : (noteL p).length ≤ 210 := by
  unfold noteL
  have p1 := h.pz
  have := num_len h.p0 (by omega)
  have := shown_len60 h.lo h.hi
  have e : (Str.ofString "note ").length = 5 := by decide
  have e2 : (Str.ofString " ").length = 1 := by decide
  rw [Str.length_append, Str.length_append, Str.length_append]
  omega
theorem lines_each {b : Lore} (h : b.Fine) : ∀ p ∈ b.lines, p.length ≤ 210 := by
  intro p hp
  unfold Lore.lines at hp
  rcases List.mem_cons.mp hp with rfl | hp
  · have := size_len h
    omega
  · rcases List.mem_append.mp hp with hp | hp
    · obtain ⟨r, hr, rfl⟩ := List.mem_map.mp hp
      exact tie_len (h.ts r hr).ok
    · obtain ⟨r, hr, rfl⟩ := List.mem_map.mp hp
      exact note_len (h.ns r hr) h.z1
theorem sum_le {l : List Str} {k : Nat} (h : ∀ p ∈ l, p.length ≤ k) : (l.map (·.length)).sum ≤ l.length * k := by
  induction l with
  | nil => simp
  | cons a t ih =>
    have h1 := h a (by simp)
    have h2 := ih fun p hp => h p (List.mem_cons_of_mem _ hp)
    simp only [List.map_cons, List.sum_cons, List.length_cons, Nat.succ_mul]
    omega
theorem lines_sum {b : Lore} (h : b.Ok) : b.lines.length ≤ 25 ∧ (b.lines.map (·.length)).sum + b.lines.length * (Str.ofString "\n").length ≤ 6000 := by
  have n : b.lines.length ≤ 25 := by
    unfold Lore.lines
    rw [List.length_cons, List.length_append, List.length_map, List.length_map]
    have := h.tn
    have := h.nn
    omega
  refine ⟨n, ?_⟩
  have s := sum_le (lines_each h.fine)
  have e : (Str.ofString "\n").length = 1 := by decide
  rw [e]
  omega
theorem text_len {b : Lore} (h : b.Ok) : b.text.length ≤ 6000 := by
  have j := StrLaws.join_length_le (Str.ofString "\n") b.lines
  have e : b.text = (Str.ofString "\n").join b.lines := join_eq _ _
  obtain ⟨_, s⟩ := lines_sum h
  have e1 : (Str.ofString "\n").length = 1 := by decide
  rw [e]
  refine Nat.le_trans j (Nat.le_trans ?_ s)
  first | exact Nat.le_refl _ | (rw [e1]; omega) | omega
/-! the words of the lines -/
theorem cat_join2 (a b : Str) : a ++ Str.ofString " " ++ b = Txt.join (Str.ofString " ") [a, b] := by
  refine ext_tl ?_
  rw [show Txt.join (Str.ofString " ") [a, b] = _ from join_eq _ _, tl_join]
  simp [tl_append, joinL]
theorem cat_join3 (a b c : Str) : a ++ Str.ofString " " ++ b ++ Str.ofString " " ++ c = Txt.join (Str.ofString " ") [a, b, c] := by
  refine ext_tl ?_
  rw [show Txt.join (Str.ofString " ") [a, b, c] = _ from join_eq _ _, tl_join]
  simp [tl_append, joinL]
theorem size_split {z : Int} (h : 0 ≤ z) : Txt.split (sizeL z) (Str.ofString " ") = [Str.ofString "size", Str.ofString (toString z)] := by
  have e : sizeL z = Txt.join (Str.ofString " ") [Str.ofString "size", Str.ofString (toString z)] := by
    rw [← cat_join2]
    unfold sizeL
    refine ext_tl ?_
    have e1 : tl (Str.ofString "size ") = tl (Str.ofString "size") ++ tl (Str.ofString " ") := by decide +kernel
    rw [tl_append, tl_append, tl_append, e1]
  rw [e]
  refine split_join (s := 32) (S := []) sp_tl (by decide +kernel) (by simp) fun p hp => ?_
  simp only [List.mem_cons, List.not_mem_nil, or_false] at hp
  rcases hp with rfl | rfl
  · decide +kernel
  · exact num_free h (.inl (by decide))
theorem note_split {p : Int × Int} (h : 0 ≤ p.1) : Txt.split (noteL p) (Str.ofString " ") = [Str.ofString "note", Str.ofString (toString p.1), shownInt p.2] := by
  have e : noteL p = Txt.join (Str.ofString " ") [Str.ofString "note", Str.ofString (toString p.1), shownInt p.2] := by
    rw [← cat_join3]
    unfold noteL
    refine ext_tl ?_
    have e1 : tl (Str.ofString "note ") = tl (Str.ofString "note") ++ tl (Str.ofString " ") := by decide +kernel
    simp only [tl_append, e1]
  rw [e]
  refine split_join (s := 32) (S := []) sp_tl (by decide +kernel) (by simp) fun q hq => ?_
  simp only [List.mem_cons, List.not_mem_nil, or_false] at hq
  rcases hq with rfl | rfl | rfl
  · decide +kernel
  · exact num_free h (.inl (by decide))
  · exact shown_free (.inl (by decide))
theorem tie_parts (r : Row) : Txt.partition (tieL r) (Str.ofString " ") = (Str.ofString "tie", Str.ofString " ", rowText r r.b) := by
  have e : tieL r = Str.ofString "tie" ++ Str.ofString " " ++ rowText r r.b := by
    unfold tieL
    refine ext_tl ?_
    have e1 : tl (Str.ofString "tie ") = tl (Str.ofString "tie") ++ tl (Str.ofString " ") := by decide +kernel
    simp only [tl_append, e1]
  rw [e]
  exact partition_app (s := 32) (S := []) sp_tl (by decide +kernel)
theorem note_parts (p : Int × Int) : Txt.partition (noteL p) (Str.ofString " ") = (Str.ofString "note", Str.ofString " ", Str.ofString (toString p.1) ++ Str.ofString " " ++ shownInt p.2) := by
  have e : noteL p = Str.ofString "note" ++ Str.ofString " " ++ (Str.ofString (toString p.1) ++ Str.ofString " " ++ shownInt p.2) := by
    unfold noteL
    refine ext_tl ?_
    have e1 : tl (Str.ofString "note ") = tl (Str.ofString "note") ++ tl (Str.ofString " ") := by decide +kernel
    simp only [tl_append, e1, List.append_assoc]
  rw [e]
  exact partition_app (s := 32) (S := []) sp_tl (by decide +kernel)
/-! ### where they stand -/
/-- ties stand, by their rows -/
def Ties (C : Addr) (H : Hp) : List V → List Row → Prop := Paired fun v r => ∃ q, v = V.ref q ∧ TieAt C H q r
/-- notes stand -/
def NoteAt (H : Hp) (q : Addr) (p : Int × Int) : Prop := H q = some (.tup [.int p.1, .int p.2])
def Notes (H : Hp) : List V → List (Int × Int) → Prop := Paired fun v p => ∃ q, v = V.ref q ∧ NoteAt H q p
/-- rows stand as tuples -/
def RowsAt (H : Hp) : List V → List Row → Prop := Paired fun v r => ∃ q, v = V.ref q ∧ RowAt H q r
theorem Paired.imp {α β : Type} {F G : α → β → Prop} (f : ∀ a b, F a b → G a b) : ∀ {xs : List α} {ys : List β}, Paired F xs ys → Paired G xs ys
  | _, _, .nil => .nil
  | _, _, .cons r t => .cons (f _ _ r) (Paired.imp f t)
theorem Paired.snoc {α β : Type} {F : α → β → Prop} {a : α} {b : β} (h : F a b) : ∀ {xs : List α} {ys : List β}, Paired F xs ys → Paired F (xs ++ [a]) (ys ++ [b])
  | _, _, .nil => .cons h .nil
  | _, _, .cons r t => .cons r (Paired.snoc h t)
theorem Paired.app {α β : Type} {F : α → β → Prop} {zs : List α} {ws : List β} (h : Paired F zs ws) : ∀ {xs : List α} {ys : List β}, Paired F xs ys → Paired F (xs ++ zs) (ys ++ ws)
  | _, _, .nil => h
  | _, _, .cons r t => .cons r (Paired.app h t)
theorem Paired.at {α β : Type} {F : α → β → Prop} : ∀ {xs : List α} {ys : List β}, Paired F xs ys → ∀ {i : Nat} {x : α}, xs[i]? = some x → ∃ y, ys[i]? = some y ∧ F x y
  | _, _, .nil, i, x, e => by simp at e
  | _, _, .cons r t, 0, x, e => by
    simp at e
    subst e
    exact ⟨_, rfl, r⟩
  | _, _, .cons r t, i + 1, x, e => by
    obtain ⟨y, e1, e2⟩ := Paired.at t (i := i) (x := x) (by simpa using e)
    exact ⟨y, by simpa using e1, e2⟩
theorem Paired.len {α β : Type} {F : α → β → Prop} : ∀ {xs : List α} {ys : List β}, Paired F xs ys → xs.length = ys.length
  | _, _, .nil => rfl
  | _, _, .cons _ t => by rw [List.length_cons, List.length_cons, Paired.len t]
theorem Ties.same {C : Addr} {H H' : Hp} (s : Same H H') {xs : List V} {ts : List Row} (h : Ties C H xs ts) : Ties C H' xs ts := Paired.imp (fun _ _ ⟨q, e, t⟩ => ⟨q, e, Same.tie s t⟩) h
theorem Notes.same {H H' : Hp} (s : Same H H') {xs : List V} {ns : List (Int × Int)} (h : Notes H xs ns) : Notes H' xs ns := Paired.imp (fun _ _ ⟨q, e, t⟩ => ⟨q, e, s _ _ t⟩) h
theorem RowsAt.same {H H' : Hp} (s : Same H H') {xs : List V} {ts : List Row} (h : RowsAt H xs ts) : RowsAt H' xs ts := Paired.imp (fun _ _ ⟨q, e, t⟩ => ⟨q, e, s _ _ t⟩) h
/-- the attributes of a book, in the sequence in which __init__ stores them -/
def bfs1 (t : Str) : List (Str × V) := putF "text" (.str t) []
def bfs2 (t : Str) (z : Int) : List (Str × V) := putF "size" (.int z) (bfs1 t)
def bfs3 (t : Str) (z : Int) (ta : Addr) : List (Str × V) := putF "ties" (.ref ta) (bfs2 t z)
def bfs (t : Str) (z : Int) (ta na : Addr) : List (Str × V) := putF "notes" (.ref na) (bfs3 t z ta)
theorem bfs_lookup (t : Str) (z : Int) (ta na : Addr) (g : Str) : (bfs t z ta na).lookup g = if g = "notes" then some (.ref na) else if g = "ties" then some (.ref ta) else if g = "size" then some (.int z) else if g = "text" then some (.str t) else none := by
  unfold bfs bfs3 bfs2 bfs1
  rw [lookup_putF, lookup_putF, lookup_putF, lookup_putF]
  rfl
theorem bfs_notes (t : Str) (z : Int) (ta na : Addr) : (bfs t z ta na).lookup ("notes" : Str) = some (.ref na) := by rw [bfs_lookup, if_pos rfl]
theorem bfs_ties (t : Str) (z : Int) (ta na : Addr) : (bfs t z ta na).lookup ("ties" : Str) = some (.ref ta) := by rw [bfs_lookup, if_neg (by decide +kernel), if_pos rfl]
theorem bfs_size (t : Str) (z : Int) (ta na : Addr) : (bfs t z ta na).lookup ("size" : Str) = some (.int z) := by rw [bfs_lookup, if_neg (by decide +kernel), if_neg (by decide +kernel), if_pos rfl]
theorem bfs_text (t : Str) (z : Int) (ta na : Addr) : (bfs t z ta na).lookup ("text" : Str) = some (.str t) := by rw [bfs_lookup, if_neg (by decide +kernel), if_neg (by decide +kernel), if_neg (by decide +kernel), if_pos rfl]
/-- a book that tells b stands at q; its text is t -/
structure BookIs (C B : Addr) (H : Hp) (q : Addr) (t : Str) (b : Lore) (dx ta na : Addr) (tr nr : List V) : Prop where
  ins : H q = some (.ins B dx (bfs t b.z ta na))
  ties : H ta = some (.tup tr)
  notes : H na = some (.tup nr)
  ts : Ties C H tr b.ts
  ns : Notes H nr b.ns
def BookAt (C B : Addr) (H : Hp) (q : Addr) (t : Str) (b : Lore) : Prop := ∃ dx ta na tr nr, BookIs C B H q t b dx ta na tr nr
theorem BookAt.same {C B : Addr} {H H' : Hp} (s : Same H H') {q : Addr} {t : Str} {b : Lore} (h : BookAt C B H q t b) : BookAt C B H' q t b := by
  obtain ⟨dx, ta, na, tr, nr, h⟩ := h
  exact ⟨dx, ta, na, tr, nr, s _ _ h.ins, s _ _ h.ties, s _ _ h.notes, h.ts.same s, h.ns.same s⟩
end TT

set_option maxHeartbeats 4000000
namespace TT
open PySem PySem.Spec PyProof.Rows L2 LamX TL
/-! ### lines read, of a book that stands -/
theorem ints_flat (is : List Int) : (is.map V.int).all flatV = true := by
  induction is with
  | nil => rfl
  | cons a t ih =>
    rw [List.map_cons, List.all_cons, ih]
    rfl
theorem non_notin (is : List Int) : inV .non (is.map V.int) = false := by
  induction is with
  | nil => rfl
  | cons a t ih =>
    unfold inV at ih ⊢
    rw [List.map_cons, List.any_cons, ih]
    rfl
theorem cut_tail (x : V) (xs : List V) : cutV (x :: xs) (some 1) none = xs := by
  unfold cutV
  have e1 : HT.sIx (x :: xs).length 0 (some 1) = 1 := by
    show (if (1 : Int) < 0 then ((1 : Int) + ((x :: xs).length : Int)).toNat else min (1 : Int).toNat (x :: xs).length) = 1
    rw [if_neg (by decide), List.length_cons]
    show min 1 (xs.length + 1) = 1
    omega
  have e2 : HT.sIx (x :: xs).length (x :: xs).length none = (x :: xs).length := rfl
  rw [e1, e2, List.length_cons, List.drop_one, List.tail_cons]
  exact List.take_of_length_le (by omega)
theorem at_head {x : V} {xs : List V} : atI (x :: xs) 0 = some x := atI_nat (j := 0) rfl
theorem take_snoc {α : Type} {l : List α} {i : Nat} {x : α} (h : l[i]? = some x) : l.take (i + 1) = l.take i ++ [x] := by
  rw [List.take_add_one, h]
  rfl
def sp_numbers_behind : Sp := fun vs H Q _ => ∃ (line word : Str) (ws : List Str) (is : List Int), vs = [.str line, .str word, .int (ws.length : Int)] ∧ Txt.split line (Str.ofString " ") = word :: ws ∧ line.length ≤ 1000 ∧ (∀ w ∈ ws, w.length ≤ 63) ∧ ws.length ≤ 100 ∧
  ws.map numRead = is.map some ∧ ∀ x H', H x = none → Same H H' → H' x = some (.tup (is.map V.int)) → Q (.ref x) H'
def sp_size_in : Sp := fun vs H Q _ => ∃ z : Int, vs = [.str (sizeL z)] ∧ 1 ≤ z ∧ z ≤ 10 ^ 30 ∧ ∀ H', Same H H' → Q (.int z) H'
def sp_note_in : Sp := fun vs H Q _ => ∃ (p : Int × Int) (z : Int), vs = [.str (noteL p), .int z] ∧ NoteIn p z ∧ z ≤ 10 ^ 30 ∧ ∀ x H', H x = none → Same H H' → NoteAt H' x p → Q (.ref x) H'
def sp_tie_behind (C : Addr) : Sp := fun vs H Q _ => (∃ r : Row, vs = [.str (tieL r), .str (Str.ofString "tie")] ∧ r.Ok ∧ ∀ x H', H x = none → Same H H' → TieAt C H' x r → Q (.ref x) H') ∨
  ∃ (p : Int × Int) (z : Int), vs = [.str (noteL p), .str (Str.ofString "tie")] ∧ NoteIn p z ∧ z ≤ 10 ^ 30 ∧ ∀ H', Same H H' → Q .non H'
def sp_is_tie_within (C : Addr) : Sp := fun vs H Q _ => (∃ (q : Addr) (r : Row) (z : Int), vs = [.ref q, .int z] ∧ TieAt C H q r ∧ Q (.bl (decide ((if r.s > r.f then r.s else r.f) + r.l ≤ z))) H) ∨ ∃ z : Int, vs = [.non, .int z] ∧ Q (.bl false) H
def sp_tie_in (C : Addr) : Sp := fun vs H Q _ => (∃ (r : Row) (z : Int), vs = [.str (tieL r), .int z] ∧ r.In z ∧ ∀ x H', H x = none → Same H H' → TieAt C H' x r → Q (.ref x) H') ∨
  ∃ (p : Int × Int) (z : Int), vs = [.str (noteL p), .int z] ∧ NoteIn p z ∧ z ≤ 10 ^ 30 ∧ ∀ H', Same H H' → Q .non H'
section
variable {P : Program} {w : World} {K : PySem.W.Frag} {mg : Str → Option Value} {base : Heap} {Z : Zs}
theorem ok_numbers_behind (T : Txt K mg Z) : FnOk P w K mg base CX0 3 Z.f_numbers_behind Z.d_numbers_behind ["line", "word", "many"] sp_numbers_behind := by
  refine T.F_numbers_behind.ok sc_numbers_behind (fun vs H Q E h => ?_) (fun cdv A outer s H vs Q E hr h => ?_)
  · obtain ⟨l, w, ws, is, rfl, _⟩ := h
    rfl
  · obtain ⟨line, word, ws, is, rfl, hs, hl, hw, hn, hm, k⟩ := h
    have sl : sizeLine = 16777216 := sizeLine_eq
    refine ⟨_, (pss_cons (ps_set (i := 3) sc_numbers_behind.nd rfl (Or.inl rfl) (pe_split (pv 0) pe_str))
      (pss_cons (ps_if (PW.pt (pw_or (pt_cmpR op_ne (pe_callB  call_len (by rfl) T.b_len (by decide +kernel) (pa_cons (pv 3) pa_nil)) (pe_op op_add (pv 2) pe_int) (nomark _)) (pw_or1 (pt_cmpR op_ne (pe_ix ix_list (pv 3) pe_int (fun _ _ => rfl)) (pv 1) (nomark _))))) (pss_one (ps_ret pe_non)) pss_nil)
      (pss_cons (ps_setLc (i := 4) (own := [("one", 5)]) rfl sc_numbers_behind.nd rfl rfl (sw_true rfl rfl rfl (by decide +kernel)) (pi_list (pe_slice sl_list (pv 3) (po_some pe_int) po_none)) (blkOk_by (own := [("one", 5)]) (N := ["line", "word", "many", "words", "numbers", "one"]) (sc := defScope s_numbers_behind) (by decide +kernel)) (fun _ _ _ _ _ => (pg_name (i := 5) sc_numbers_behind.nd rfl (Or.inl rfl))) (fun _ _ _ _ _ => pts_nil) (fun _ _ _ _ _ => (pe_call (ok_number_in T) (hr.mono (by decide)) rfl T.g_number_in T.k_number_in T.bn_number_in .nil pass0 (pa_cons (pv 5) pa_nil))))
      (pss_one (ps_ret (pe_ifExp (pt_cmpR op_in_seq pe_non (pv 4) (by with_unfolding_all rfl)) pe_non (pe_callTy call_tuple_of (by rfl) T.b_tuple (by decide +kernel) (pa_cons (pv 4) pa_nil)))))))), ?_⟩
    refine ⟨_, rfl, ⟨_, rfl⟩, _, _, rfl, rfl, by decide, by omega, fun wl hwl => ?_⟩
    rw [hs]
    have sW := Same.new (o := .lst ((word :: ws).map V.str)) (Same.refl H) hwl
    have atW : upd H wl (.lst ((word :: ws).map V.str)) wl = some (.lst (V.str word :: ws.map V.str)) := upd_same
    generalize upd H wl (.lst ((word :: ws).map V.str)) = H1 at sW atW ⊢
    refine ⟨_, rfl, _, _, rfl, .inl ⟨_, SqL.of atW, rfl⟩, _, rfl, _, _, rfl, rfl, rfl, false, ?_, iteF ?_⟩
    · rw [List.length_cons, List.length_map, decide_eq_true]
      · rfl
      · rfl
    refine ⟨_, rfl, wl, _, _, _, rfl, rfl, SqL.of atW, at_head, _, rfl, rfl, false, by rw [decide_eq_true rfl] <;> rfl, iteF ?_⟩
    refine ⟨_, rfl, _, rfl, wl, _, rfl, SqL.of atW, fun w2 hw2 => ⟨w2, rfl, ⟨_, SqL.of upd_same⟩, fun D hD => ?_⟩⟩
    rw [cut_tail] at hD ⊢
    have s2 := Same.new (o := .lst (ws.map V.str)) (Same.refl H1) hw2
    have at2 : upd H1 w2 (.lst (ws.map V.str)) w2 = some (.lst (ws.map V.str)) := upd_same
    generalize upd H1 w2 (.lst (ws.map V.str)) = H2 at s2 at2 hD ⊢
    have hlen : ws.length = is.length := by simpa using congrArg List.length hm
    have sD := Same.new (o := .lst []) (Same.refl H2) hD
    refine lc_list (xs := ws.map V.str) (fun i H' => H' D = some (.lst ((is.map V.int).take i)) ∧ Same H2 H') ⟨upd_same, sD⟩ (fun i H' _ h => SqL.of (h.2 _ _ at2)) ?_ ?_
    · rintro i x H' hi ⟨hDi, sm⟩
      refine ⟨rfl, ?_⟩
      unfold tYes
      refine iteT ?_
      rw [List.getElem?_map] at hi
      obtain ⟨v, hv, rfl⟩ := Option.map_eq_some_iff.mp hi
      have hvl : v.length ≤ 63 := hw v (List.mem_of_getElem? hv)
      have hnv : (is.map some)[i]? = some (numRead v) := by rw [← hm, List.getElem?_map, hv] <;> rfl
      rw [List.getElem?_map] at hnv
      obtain ⟨n, hin, en⟩ := Option.map_eq_some_iff.mp hnv
      refine ⟨_, rfl, v, rfl, hvl, ?_⟩
      rw [← en]
      have tl' := List.length_take_le i (is.map V.int)
      have il : i < is.length := (List.getElem?_eq_some_iff.mp hin).1
      refine ⟨_, hDi, by omega, ?_, fun b u e => ?_⟩
      · rw [upd_same, take_snoc (x := V.int n) (by rw [List.getElem?_map, hin] <;> rfl)]
        rfl
      · rw [upd_ne (ne_of_none e hD)]
        exact sm b u e
    · rintro H4 ⟨hD4, s4⟩
      rw [List.take_of_length_le (by rw [List.length_map, List.length_map]; omega)] at hD4
      refine ⟨_, rfl, D, _, rfl, .inl (SqL.of hD4), rfl, ints_flat is, false, by rw [non_notin] <;> rfl, iteF ?_⟩
      have sN := (sW.trans s2).trans s4
      exact ⟨_, rfl, D, _, rfl, .inl ⟨SqL.of hD4, fun l hl => k l _ (L2.Same.free sN hl) (Same.new sN hl) upd_same⟩⟩
theorem ok_size_in (T : Txt K mg Z) : FnOk P w K mg base CX0 4 Z.f_size_in Z.d_size_in ["line"] sp_size_in := by
  refine T.F_size_in.ok sc_size_in (fun vs H Q E h => ?_) (fun cdv A outer s H vs Q E hr h => ?_)
  · obtain ⟨z, rfl, _⟩ := h
    rfl
  · obtain ⟨z, rfl, z0, z1, k⟩ := h
    refine ⟨_, (pss_cons (ps_set (i := 1) sc_size_in.nd rfl (Or.inl rfl) (pe_call (ok_numbers_behind T) (hr.mono (by decide)) rfl T.g_numbers_behind T.k_numbers_behind T.bn_numbers_behind .nil pass0 (pa_cons (pv 0) (pa_cons pe_str (pa_cons pe_int pa_nil)))))
      (pss_one (ps_ret (pe_ifExp (PW.pt (pw_and (pt_cmpR op_notN (pv 1) pe_non (nomark _)) (pw_and1 (pt_val (pe_call (ok_is_between T) (hr.mono (by decide)) rfl T.g_is_between T.k_is_between T.bn_is_between .nil pass0 (pa_cons (pe_ix ix_tup (pv 1) pe_int (fun _ _ => rfl)) (pa_cons pe_int (pa_cons (pe_glob (v := .int 1000000000000000000000000000000) rfl T.c_GREATEST ⟨_, rfl⟩) pa_nil)))))))) (pe_ix ix_tup (pv 1) pe_int (fun _ _ => rfl)) pe_non)))), ?_⟩
    have nl := num_len (n := z) (by omega) z1
    refine ⟨_, rfl, sizeL z, Str.ofString "size", [Str.ofString (toString z)], [z], rfl, size_split (by omega), ?_, ?_, by show 1 ≤ 100; decide, by rw [List.map_cons, read_int (by omega)] <;> rfl, fun x H1 nx s1 hx => ?_⟩
    · unfold sizeL
      have e : (Str.ofString "size ").length = 5 := by decide
      rw [Str.length_append]
      omega
    · intro v hv
      rw [List.mem_singleton.mp hv]
      omega
    have e30 : (10 : Int) ^ 30 = 1000000000000000000000000000000 := by decide +kernel
    refine ⟨_, rfl, rfl, true, rfl, iteT ?_⟩
    refine ⟨_, rfl, x, _, _, _, rfl, rfl, SqT.of hx, rfl, .inl ⟨z, 1, _, rfl, true, ?_, iteT ?_⟩⟩
    · rw [decide_eq_true z0, decide_eq_true (by omega)] <;> rfl
    exact ⟨_, rfl, x, _, _, _, rfl, rfl, SqT.of hx, rfl, k H1 s1⟩
theorem ok_note_in (T : Txt K mg Z) : FnOk P w K mg base CX0 4 Z.f_note_in Z.d_note_in ["line", "size"] sp_note_in := by
  refine T.F_note_in.ok sc_note_in (fun vs H Q E h => ?_) (fun cdv A outer s H vs Q E hr h => ?_)
  · obtain ⟨p, z, rfl, _⟩ := h
    rfl
  · obtain ⟨p, z, rfl, hp, hz, k⟩ := h
    refine ⟨_, (pss_cons (ps_set (i := 2) sc_note_in.nd rfl (Or.inl rfl) (pe_call (ok_numbers_behind T) (hr.mono (by decide)) rfl T.g_numbers_behind T.k_numbers_behind T.bn_numbers_behind .nil pass0 (pa_cons (pv 0) (pa_cons pe_str (pa_cons pe_int pa_nil)))))
      (pss_one (ps_ret (pe_ifExp (PW.pt (pw_and (pt_cmpR op_notN (pv 2) pe_non (nomark _)) (pw_and1 (pt_val (pe_call (ok_is_between T) (hr.mono (by decide)) rfl T.g_is_between T.k_is_between T.bn_is_between .nil pass0 (pa_cons (pe_ix ix_tup (pv 2) pe_int (fun _ _ => rfl)) (pa_cons pe_int (pa_cons (pe_op op_sub (pv 1) pe_int) pa_nil)))))))) (pv 2) pe_non)))), ?_⟩
    have p0 := hp.p0; have pz := hp.pz
    have nl := num_len (n := p.1) p0 (by omega)
    have al := shown_len60 hp.lo hp.hi
    have ll := note_len hp hz
    refine ⟨_, rfl, noteL p, Str.ofString "note", [Str.ofString (toString p.1), shownInt p.2], [p.1, p.2], rfl, note_split p0, by omega, ?_, by show 2 ≤ 100; decide, by rw [List.map_cons, List.map_cons, read_int p0, read_shown] <;> rfl, fun x H1 nx s1 hx => ?_⟩
    · intro v hv
      simp only [List.mem_cons, List.not_mem_nil, or_false] at hv
      rcases hv with rfl | rfl <;> omega
    refine ⟨_, rfl, rfl, true, rfl, iteT ?_⟩
    refine ⟨_, rfl, x, _, _, _, rfl, rfl, SqT.of hx, rfl, _, rfl, _, _, rfl, rfl, .inl ⟨p.1, 0, z - 1, rfl, true, ?_, iteT ?_⟩⟩
    · rw [decide_eq_true p0, decide_eq_true (by omega)] <;> rfl
    exact ⟨_, rfl, k x H1 nx s1 hx⟩
theorem ok_is_tie_within (T : Txt K mg Z) : FnOk P w K mg base CX0 1 Z.f_is_tie_within Z.d_is_tie_within ["value", "size"] (sp_is_tie_within Z.cC) := by
  refine T.F_is_tie_within.ok sc_is_tie_within (fun vs H Q E h => ?_) (fun cdv A outer s H vs Q E hr h => ?_)
  · rcases h with ⟨q, r, z, rfl, _⟩ | ⟨z, rfl, _⟩ <;> rfl
  · refine ⟨_, (pss_one (ps_ret (pe_and (pe_callB  call_isi (by rfl) T.b_isinstance (by decide +kernel) (pa_cons (pv 0) (pa_cons (pe_glob (v := .ref Z.cC) rfl T.g_C rfl) pa_nil))) (pe_one (pe_cmpR op_le (pe_op op_add (pe_callB  (call_max2 rfl) (by rfl) T.b_max (by decide +kernel) (pa_cons (pe_fld (pv 0) rfl) (pa_cons (pe_fld (pv 0) rfl) pa_nil))) (pe_fld (pv 0) rfl)) (pv 1) (nomark _)))))), ?_⟩
    rcases h with ⟨q, r, z, rfl, ⟨dx, hq⟩, k⟩ | ⟨z, rfl, k⟩
    · refine ⟨_, rfl, _, _, _, _, true, rfl, .own Z.cC, .base (.ins hq T.cl T.z_cls T.z_get T.z_tk T.z_mro), T.z_kit, true, rfl, iteT ?_⟩
      exact ⟨_, rfl, q, _, dx, _, _, rfl, hq, T.cl, T.n_first, tfs_first r, _, rfl, q, _, dx, _, _, rfl, hq, T.cl, T.n_second, tfs_second r, _, _, rfl, _, rfl, q, _, dx, _, _, rfl, hq, T.cl, T.n_length, tfs_length r, _, _, rfl, rfl, _, rfl, _, _, rfl, rfl, k⟩
    · exact ⟨_, rfl, _, _, _, _, false, rfl, .own Z.cC, .base .non, T.z_kitN, false, rfl, iteF k⟩
theorem ok_tie_behind (T : Txt K mg Z) : FnOk P w K mg base CX0 7 Z.f_tie_behind Z.d_tie_behind ["line", "word"] (sp_tie_behind Z.cC) := by
  refine T.F_tie_behind.ok sc_tie_behind (fun vs H Q E h => ?_) (fun cdv A outer s H vs Q E hr h => ?_)
  · rcases h with ⟨r, rfl, _⟩ | ⟨p, z, rfl, _⟩ <;> rfl
  · have sl : sizeLine = 16777216 := sizeLine_eq
    refine ⟨_, (pss_cons (ps_asg (pe_m1 PySem.F.slot_str_partition PySem.F.type_str_partition mt_partition (pv 0) pe_str) (pg_tup rfl (pgs_cons (pg_name (i := 2) sc_tie_behind.nd rfl (Or.inl rfl)) (pgs_cons (pg_name (i := 3) sc_tie_behind.nd rfl (Or.inl rfl)) (pgs_cons (pg_name (i := 4) sc_tie_behind.nd rfl (Or.inl rfl)) pgs_nil)))))
      (pss_cons (ps_if (pt_cmpR op_ne (pv 2) (pv 1) (nomark _)) (pss_one (ps_ret pe_non)) pss_nil)
      (pss_cons (ps_try_thru0 (pss_one (ps_set (i := 5) sc_tie_behind.nd rfl (Or.inl rfl) (pe_stat (mc := .type "type") (pe_glob (v := .ref Z.cC) rfl T.g_C rfl) T.z_read T.z_sta (ok_T_of T) (hr.mono (by decide)) T.bn_T_of pass0 (pa_cons (pv 4) pa_nil)))))
      (pss_one (ps_ret (pv 5)))))), ?_⟩
    rcases h with ⟨r, rfl, ok, k⟩ | ⟨p, z, rfl, hp, hz, k⟩
    · have hl := tie_len ok
      refine ⟨_, rfl, ⟨_, rfl⟩, _, _, rfl, rfl, by decide, by omega, fun t ht => ?_⟩
      rw [tie_parts]
      refine ⟨t, _, rfl, SqT.of upd_same, rfl, _, _, rfl, _, _, rfl, _, _, rfl, rfl, ?_⟩
      have s1 := Same.new (o := .tup [.str (Str.ofString "tie"), .str (Str.ofString " "), .str (rowText r r.b)]) (Same.refl H) ht
      refine ⟨_, rfl, _, rfl, rfl, _, rfl, ?_⟩
      rw [decide_eq_true rfl]
      refine iteF ⟨rfl, _, rfl, r, r.b, rfl, ok, ?_, fun x H1 nx s2 hx => ⟨_, rfl, k x H1 (L2.Same.free s1 nx) (s1.trans s2) hx⟩⟩
      cases hb : r.b with
      | true => rw [decide_eq_true (ok.bk hb)] <;> rfl
      | false => rfl
    · have hl := note_len hp hz
      refine ⟨_, rfl, ⟨_, rfl⟩, _, _, rfl, rfl, by decide, by omega, fun t ht => ?_⟩
      rw [note_parts]
      refine ⟨t, _, rfl, SqT.of upd_same, rfl, _, _, rfl, _, _, rfl, _, _, rfl, rfl, ?_⟩
      refine ⟨_, rfl, _, rfl, rfl, _, rfl, ?_⟩
      rw [show decide (V.str (Str.ofString "note") = V.str (Str.ofString "tie")) = false by decide +kernel]
      exact iteT (k _ (Same.new (Same.refl H) ht))
theorem ok_tie_in (T : Txt K mg Z) : FnOk P w K mg base CX0 8 Z.f_tie_in Z.d_tie_in ["line", "size"] (sp_tie_in Z.cC) := by
  refine T.F_tie_in.ok sc_tie_in (fun vs H Q E h => ?_) (fun cdv A outer s H vs Q E hr h => ?_)
  · rcases h with ⟨r, z, rfl, _⟩ | ⟨p, z, rfl, _⟩ <;> rfl
  · refine ⟨_, (pss_cons (ps_set (i := 2) sc_tie_in.nd rfl (Or.inl rfl) (pe_call (ok_tie_behind T) (hr.mono (by decide)) rfl T.g_tie_behind T.k_tie_behind T.bn_tie_behind .nil pass0 (pa_cons (pv 0) (pa_cons pe_str pa_nil))))
      (pss_one (ps_ret (pe_ifExp (pt_val (pe_call (ok_is_tie_within T) (hr.mono (by decide)) rfl T.g_is_tie_within T.k_is_tie_within T.bn_is_tie_within .nil pass0 (pa_cons (pv 2) (pa_cons (pv 1) pa_nil)))) (pv 2) pe_non)))), ?_⟩
    rcases h with ⟨r, z, rfl, hr', k⟩ | ⟨p, z, rfl, hp, hz, k⟩
    · refine ⟨_, rfl, .inl ⟨r, rfl, hr'.ok, fun x H1 nx s1 hx => ?_⟩⟩
      refine ⟨_, rfl, _, rfl, .inl ⟨x, r, z, rfl, hx, true, ?_, iteT ⟨_, rfl, k x H1 nx s1 hx⟩⟩⟩
      have := hr'.fz; have := hr'.sz
      rw [decide_eq_true]
      split <;> omega
    · exact ⟨_, rfl, .inr ⟨p, z, rfl, hp, hz, fun H1 s1 => ⟨_, rfl, _, rfl, .inr ⟨z, rfl, false, rfl, iteF (k H1 s1)⟩⟩⟩⟩
end
end TT

set_option maxHeartbeats 4000000
namespace TT
open PySem PySem.Spec PyProof.Rows L2 LamX TL
/-! ### a book's text read -/
theorem TieAt.put {C D x : Addr} {H : Hp} {xs : List V} {o : HO} {r : Row} (hD : H D = some (.lst xs)) (h : TieAt C H x r) : TieAt C (upd H D o) x r := by
  obtain ⟨dx, e⟩ := h
  exact ⟨dx, by rw [upd_ne (ne_of e hD fun z => nomatch z)]; exact e⟩
theorem Ties.put {C D : Addr} {H : Hp} {xs : List V} {o : HO} (hD : H D = some (.lst xs)) {tr : List V} {ts : List Row} (h : Ties C H tr ts) : Ties C (upd H D o) tr ts := Paired.imp (fun _ _ ⟨q, e, t⟩ => ⟨q, e, t.put hD⟩) h
theorem Notes.put {D : Addr} {H : Hp} {xs : List V} {o : HO} (hD : H D = some (.lst xs)) {tr : List V} {ns : List (Int × Int)} (h : Notes H tr ns) : Notes (upd H D o) tr ns :=
  Paired.imp (fun _ _ ⟨q, e, t⟩ => ⟨q, e, (upd_ne (ne_of t hD fun z => nomatch z)).trans t⟩) h
theorem same_put {D : Addr} {H H1 : Hp} {o : HO} (s : Same H H1) (hD : H D = none) : Same H (upd H1 D o) := fun b u e => by
  rw [upd_ne (ne_of_none e hD)]
  exact s b u e
theorem in_firsts {p : Int} (ns : List (Int × Int)) : inV (.int p) (ns.map fun q => V.int q.1) = decide (p ∈ ns.map (·.1)) := by
  induction ns with
  | nil => rfl
  | cons a t ih =>
    unfold inV at ih ⊢
    rw [List.map_cons, List.any_cons, ih, List.map_cons]
    show ((a.1 == p) || _) = _
    by_cases c : a.1 = p
    · subst c
      simp
    · have c' : ¬ p = a.1 := fun e => c e.symm
      rw [beq_eq_false_iff_ne.mpr c]
      simp [c']
theorem firsts_flat (ns : List (Int × Int)) : (ns.map fun q => V.int q.1).all flatV = true := by
  induction ns with
  | nil => rfl
  | cons a t ih =>
    rw [List.map_cons, List.all_cons, ih]
    rfl
theorem cut_at {x : V} {xs ys : List V} {n : Int} (h : n = 1 + (xs.length : Int)) : cutV (x :: (xs ++ ys)) (some n) none = ys := by
  subst h
  unfold cutV
  have e1 : HT.sIx (x :: (xs ++ ys)).length 0 (some (1 + (xs.length : Int))) = xs.length + 1 := by
    show (if (1 + (xs.length : Int)) < 0 then ((1 + (xs.length : Int)) + ((x :: (xs ++ ys)).length : Int)).toNat else min (1 + (xs.length : Int)).toNat (x :: (xs ++ ys)).length) = _
    rw [if_neg (by omega), List.length_cons, List.length_append]
    omega
  have e2 : HT.sIx (x :: (xs ++ ys)).length (x :: (xs ++ ys)).length none = (x :: (xs ++ ys)).length := rfl
  rw [e1, e2, List.drop_succ_cons, List.drop_left]
  exact List.take_of_length_le (by rw [List.length_cons, List.length_append]; omega)
def sp_has_note : Sp := fun vs H Q _ => ∃ (a : Addr) (p : Int) (nr : List V) (ns : List (Int × Int)), vs = [.ref a, .int p] ∧ H a = some (.lst nr) ∧ Notes H nr ns ∧ nr.length ≤ 1000 ∧ ∀ H', Same H H' → Q (.bl (decide (p ∈ ns.map (·.1)))) H'
def sp_first_ties (C : Addr) : Sp := fun vs H Q _ => ∃ (a : Addr) (z : Int) (ts : List Row) (ns : List (Int × Int)), vs = [.ref a, .int z] ∧ H a = some (.lst ((ts.map tieL ++ ns.map noteL).map V.str)) ∧ z ≤ 10 ^ 30 ∧ (∀ r ∈ ts, r.In z) ∧ (∀ p ∈ ns, NoteIn p z) ∧ ts.length ≤ 12 ∧
  ∀ x tr H', H x = none → Same H H' → H' x = some (.lst tr) → Ties C H' tr ts → Q (.ref x) H'
def sp_first_notes : Sp := fun vs H Q _ => ∃ (a : Addr) (z : Int) (ns : List (Int × Int)), vs = [.ref a, .int z] ∧ H a = some (.lst ((ns.map noteL).map V.str)) ∧ z ≤ 10 ^ 30 ∧ (∀ p ∈ ns, NoteIn p z) ∧ ns.length ≤ 12 ∧ (ns.map (·.1)).Nodup ∧
  ∀ x nr H', H x = none → Same H H' → H' x = some (.lst nr) → Notes H' nr ns → Q (.ref x) H'
def sp_contents (C : Addr) : Sp := fun vs H Q _ => ∃ b : Lore, vs = [.str b.text] ∧ b.Ok ∧ ∀ x ta na tr nr H', Same H H' → H' x = some (.tup [.int b.z, .ref ta, .ref na]) → H' ta = some (.tup tr) → H' na = some (.tup nr) → Ties C H' tr b.ts → Notes H' nr b.ns → Q (.ref x) H'
def sp_B_init (C B : Addr) : Sp := fun vs H Q _ => ∃ (p dx : Addr) (b : Lore), vs = [.ref p, .str b.text] ∧ b.Ok ∧ H p = some (.ins B dx []) ∧ ∀ H', BookAt C B H' p b.text b → Keep p H H' → Q .non H'
section
variable {P : Program} {w : World} {K : PySem.W.Frag} {mg : Str → Option Value} {base : Heap} {Z : Zs}
theorem ok_has_note (T : Txt K mg Z) : FnOk P w K mg base CX0 1 Z.f_has_note Z.d_has_note ["notes", "place"] sp_has_note := by
  refine T.F_has_note.ok sc_has_note (fun vs H Q E h => ?_) (fun cdv A outer s H vs Q E hr h => ?_)
  · obtain ⟨a, p, nr, ns, rfl, _⟩ := h
    rfl
  · obtain ⟨a, p, nr, ns, rfl, ha, hns, hl, k⟩ := h
    have sl : sizeLine = 16777216 := sizeLine_eq
    refine ⟨_, (pss_one (ps_ret (pe_cmpR op_in_seq (pv 1) (pe_lc (own := [("told", 2), ("_", 3)]) rfl sc_has_note.nd (pi_list (pv 0)) (blkOk_by (own := [("told", 2), ("_", 3)]) (N := ["notes", "place", "told", "_"]) (sc := defScope s_has_note) (by decide +kernel)) (fun _ _ _ _ _ => (show PG _ _ (gTup K 2 _) from (pg_tup rfl (pgs_cons (pg_name (i := 2) sc_has_note.nd rfl (Or.inl rfl)) (pgs_cons (pg_name (i := 3) sc_has_note.nd rfl (Or.inl rfl)) pgs_nil))))) (fun _ _ _ _ _ => pts_nil) (fun _ _ _ _ _ => (pv 2))) (by with_unfolding_all rfl)))), ?_⟩
    refine ⟨_, rfl, _, rfl, a, rfl, ⟨_, SqL.of ha⟩, fun D hD => ?_⟩
    have ne := Paired.len hns
    refine lc_list (xs := nr) (fun i H' => H' D = some (.lst ((ns.map fun q => V.int q.1).take i)) ∧ Same H H') ⟨upd_same, Same.new (Same.refl H) hD⟩ (fun i H' _ h => SqL.of (h.2 _ _ ha)) ?_ ?_
    · rintro i x H' hi ⟨hDi, sm⟩
      obtain ⟨q, hq, y, rfl, hy⟩ := Paired.at hns hi
      have il : i < ns.length := (List.getElem?_eq_some_iff.mp hq).1
      refine ⟨y, _, rfl, SqT.of (sm _ _ hy), rfl, _, _, rfl, _, _, rfl, rfl, rfl, ?_⟩
      unfold tYes
      refine iteT ⟨_, rfl, _, hDi, ?_, ?_, same_put sm hD⟩
      · have := List.length_take_le i (ns.map fun q => V.int q.1)
        omega
      · rw [upd_same, take_snoc (x := V.int q.1) (by rw [List.getElem?_map, hq] <;> rfl)]
    · rintro H4 ⟨hD4, s4⟩
      rw [List.take_of_length_le (by rw [List.length_map]; omega)] at hD4
      refine ⟨D, _, rfl, .inl (SqL.of hD4), rfl, firsts_flat ns, ?_⟩
      rw [in_firsts]
      exact k H4 s4
theorem ok_first_ties (T : Txt K mg Z) : FnOk P w K mg base CX0 9 Z.f_first_ties Z.d_first_ties ["lines", "size"] (sp_first_ties Z.cC) := by
  refine T.F_first_ties.ok sc_first_ties (fun vs H Q E h => ?_) (fun cdv A outer s H vs Q E hr h => ?_)
  · obtain ⟨a, z, ts, ns, rfl, _⟩ := h
    rfl
  · obtain ⟨a, z, ts, ns, rfl, ha, hz, ht, hn, tn, k⟩ := h
    have sl : sizeLine = 16777216 := sizeLine_eq
    refine ⟨_, (pss_cons (ps_set (i := 2) sc_first_ties.nd rfl (Or.inl rfl) (pe_lst pa_nil))
      (pss_cons (ps_for PassesOwn.never rfl (pi_list (pv 0)) (pg_name (i := 3) sc_first_ties.nd rfl (Or.inl rfl)) (pss_cons (ps_set (i := 4) sc_first_ties.nd rfl (Or.inl rfl) (pe_call (ok_tie_in T) (hr.mono (by decide)) rfl T.g_tie_in T.k_tie_in T.bn_tie_in .nil pass0 (pa_cons (pv 3) (pa_cons (pv 1) pa_nil))))
      (pss_cons (ps_if (PW.pt (pw_or (pt_cmpR op_isN (pv 4) pe_non (nomark _)) (pw_or1 (pt_cmpR op_eq (pe_callB  call_len (by rfl) T.b_len (by decide +kernel) (pa_cons (pv 2) pa_nil)) (pe_glob (v := .int 12) rfl T.c_MOST ⟨_, rfl⟩) (nomark _))))) (pss_one ps_break) pss_nil)
      (pss_one (ps_expr (pe_bm PySem.F.plainAttrs_list PySem.F.slot_list_append PySem.F.type_list_append mt_append (pv 2) (pa_cons (pv 4) pa_nil)))))))
      (pss_one (ps_ret (pv 2))))), ?_⟩
    refine ⟨by show 0 ≤ sizeLine; exact Nat.zero_le _, fun D hD => ?_⟩
    have sD := Same.new (o := .lst []) (Same.refl H) hD
    refine ⟨_, rfl, a, rfl, ⟨_, SqL.of (sD _ _ ha)⟩, for_list (xs := (ts.map tieL ++ ns.map noteL).map V.str) (fun i σ H' => ∃ v3 v4 tr, i ≤ ts.length ∧ σ = [some (.ref a), some (.int z), some (.ref D), v3, v4] ∧ H' D = some (.lst tr) ∧ Ties Z.cC H' tr (ts.take i) ∧ Same H H') ⟨_, _, [], Nat.zero_le _, rfl, upd_same, .nil, sD⟩ (fun i σ H' _ ⟨_, _, _, _, _, _, _, s⟩ => SqL.of (s _ _ ha)) ?_ ?_⟩
    · rintro i x σ H1 hi ⟨v3, v4, tr, il, rfl, hD1, htr, s1⟩
      rw [List.getElem?_map] at hi
      obtain ⟨l, hl, rfl⟩ := Option.map_eq_some_iff.mp hi
      have tl' := Paired.len htr
      rw [List.length_take] at tl'
      by_cases c : i < ts.length
      · rw [List.getElem?_append_left (by rw [List.length_map]; exact c), List.getElem?_map] at hl
        obtain ⟨r, hr', rfl⟩ := Option.map_eq_some_iff.mp hl
        refine ⟨_, rfl, _, rfl, .inl ⟨r, z, rfl, ht r (List.mem_of_getElem? hr'), fun y H2 ny s2 hy => ?_⟩⟩
        have hD2 := s2 _ _ hD1
        refine ⟨_, rfl, rfl, false, rfl, iteF ?_⟩
        refine ⟨_, rfl, _, _, rfl, .inl ⟨_, SqL.of hD2, rfl⟩, rfl, false, ?_, iteF ?_⟩
        · rw [decide_eq_false]
          intro e
          have := V.int.inj e
          omega
        refine ⟨_, rfl, .inl ⟨rfl, _, SqL.of hD2⟩, _, rfl, D, _, _, rfl, rfl, hD2, by omega, ?_⟩
        refine ⟨_, _, tr ++ [.ref y], c, rfl, upd_same, ?_, same_put (s1.trans s2) hD⟩
        rw [take_snoc hr']
        exact Paired.snoc ⟨y, rfl, hy.put hD2⟩ ((htr.same s2).put hD2)
      · have ei : i = ts.length := by omega
        subst ei
        rw [List.getElem?_append_right (by rw [List.length_map]; omega), List.getElem?_map] at hl
        obtain ⟨p, hp, rfl⟩ := Option.map_eq_some_iff.mp hl
        refine ⟨_, rfl, _, rfl, .inr ⟨p, z, rfl, hn p (List.mem_of_getElem? hp), hz, fun H2 s2 => ?_⟩⟩
        refine ⟨_, rfl, rfl, true, rfl, iteT ?_⟩
        rw [List.take_length] at htr
        exact ⟨_, rfl, k D tr H2 hD (s1.trans s2) (s2 _ _ hD1) (htr.same s2)⟩
    · rintro σ H1 ⟨v3, v4, tr, il, rfl, hD1, htr, s1⟩
      have e : ts.take ((ts.map tieL ++ ns.map noteL).map V.str).length = ts := List.take_of_length_le (by rw [List.length_map, List.length_append, List.length_map]; omega)
      rw [e] at htr
      exact ⟨_, rfl, k D tr H1 hD s1 hD1 htr⟩
theorem nodup_not {α : Type} [DecidableEq α] {l : List α} (h : l.Nodup) {i : Nat} {x : α} (e : l[i]? = some x) : x ∉ l.take i := by
  intro m
  obtain ⟨j, hj⟩ := List.mem_iff_getElem?.mp m
  rw [List.getElem?_take] at hj
  split at hj
  · rename_i c
    obtain ⟨h1, e1⟩ := List.getElem?_eq_some_iff.mp hj
    obtain ⟨h2, e2⟩ := List.getElem?_eq_some_iff.mp e
    have := (List.getElem_inj h).mp (e1.trans e2.symm)
    omega
  · cases hj
theorem ok_first_notes (T : Txt K mg Z) : FnOk P w K mg base CX0 5 Z.f_first_notes Z.d_first_notes ["lines", "size"] sp_first_notes := by
  refine T.F_first_notes.ok sc_first_notes (fun vs H Q E h => ?_) (fun cdv A outer s H vs Q E hr h => ?_)
  · obtain ⟨a, z, ns, rfl, _⟩ := h
    rfl
  · obtain ⟨a, z, ns, rfl, ha, hz, hn, nn, nd, k⟩ := h
    have sl : sizeLine = 16777216 := sizeLine_eq
    refine ⟨_, (pss_cons (ps_set (i := 2) sc_first_notes.nd rfl (Or.inl rfl) (pe_lst pa_nil))
      (pss_cons (ps_for PassesOwn.never rfl (pi_list (pv 0)) (pg_name (i := 3) sc_first_notes.nd rfl (Or.inl rfl)) (pss_cons (ps_set (i := 4) sc_first_notes.nd rfl (Or.inl rfl) (pe_call (ok_note_in T) (hr.mono (by decide)) rfl T.g_note_in T.k_note_in T.bn_note_in .nil pass0 (pa_cons (pv 3) (pa_cons (pv 1) pa_nil))))
      (pss_cons (ps_if (PW.pt (pw_or (pt_cmpR op_isN (pv 4) pe_non (nomark _)) (pw_or (pt_val (pe_call (ok_has_note T) (hr.mono (by decide)) rfl T.g_has_note T.k_has_note T.bn_has_note .nil pass0 (pa_cons (pv 2) (pa_cons (pe_ix ix_tup (pv 4) pe_int (fun _ _ => rfl)) pa_nil)))) (pw_or1 (pt_cmpR op_eq (pe_callB  call_len (by rfl) T.b_len (by decide +kernel) (pa_cons (pv 2) pa_nil)) (pe_glob (v := .int 12) rfl T.c_MOST ⟨_, rfl⟩) (nomark _)))))) (pss_one ps_break) pss_nil)
      (pss_one (ps_expr (pe_bm PySem.F.plainAttrs_list PySem.F.slot_list_append PySem.F.type_list_append mt_append (pv 2) (pa_cons (pv 4) pa_nil)))))))
      (pss_one (ps_ret (pv 2))))), ?_⟩
    refine ⟨by show 0 ≤ sizeLine; exact Nat.zero_le _, fun D hD => ?_⟩
    have sD := Same.new (o := .lst []) (Same.refl H) hD
    refine ⟨_, rfl, a, rfl, ⟨_, SqL.of (sD _ _ ha)⟩, for_list (xs := (ns.map noteL).map V.str) (fun i σ H' => ∃ v3 v4 nr, i ≤ ns.length ∧ σ = [some (.ref a), some (.int z), some (.ref D), v3, v4] ∧ H' D = some (.lst nr) ∧ Notes H' nr (ns.take i) ∧ Same H H') ⟨_, _, [], Nat.zero_le _, rfl, upd_same, .nil, sD⟩ (fun i σ H' _ ⟨_, _, _, _, _, _, _, s⟩ => SqL.of (s _ _ ha)) ?_ ?_⟩
    · rintro i x σ H1 hi ⟨v3, v4, nr, il, rfl, hD1, hnr, s1⟩
      rw [List.getElem?_map] at hi
      obtain ⟨l, hl, rfl⟩ := Option.map_eq_some_iff.mp hi
      have tl' := Paired.len hnr
      rw [List.length_take] at tl'
      rw [List.getElem?_map] at hl
      obtain ⟨p, hp, rfl⟩ := Option.map_eq_some_iff.mp hl
      have ic : i < ns.length := (List.getElem?_eq_some_iff.mp hp).1
      refine ⟨_, rfl, _, rfl, p, z, rfl, hn p (List.mem_of_getElem? hp), hz, fun y H2 ny s2 hy => ?_⟩
      have hD2 := s2 _ _ hD1
      refine ⟨_, rfl, rfl, false, rfl, iteF ?_⟩
      refine ⟨_, rfl, _, rfl, y, _, _, _, rfl, rfl, SqT.of hy, rfl, D, p.1, nr, ns.take i, rfl, hD2, hnr.same s2, by omega, fun H3 s3 => ?_⟩
      have hD3 := s3 _ _ hD2
      refine ⟨false, ?_, iteF ?_⟩
      · rw [decide_eq_false]
        rw [List.map_take]
        exact nodup_not nd (by rw [List.getElem?_map, hp] <;> rfl)
      refine ⟨_, rfl, _, _, rfl, .inl ⟨_, SqL.of hD3, rfl⟩, rfl, false, ?_, iteF ?_⟩
      · rw [decide_eq_false]
        intro e
        have := V.int.inj e
        omega
      refine ⟨_, rfl, .inl ⟨rfl, _, SqL.of hD3⟩, _, rfl, D, _, _, rfl, rfl, hD3, by omega, ?_⟩
      refine ⟨_, _, nr ++ [.ref y], ic, rfl, upd_same, ?_, same_put ((s1.trans s2).trans s3) hD⟩
      rw [take_snoc hp]
      refine Paired.snoc ⟨y, rfl, ?_⟩ (((hnr.same s2).same s3).put hD3)
      have hy3 := s3 _ _ hy
      exact (upd_ne (ne_of hy3 hD3 fun z => nomatch z)).trans hy3
    · rintro σ H1 ⟨v3, v4, nr, il, rfl, hD1, hnr, s1⟩
      have e : ns.take ((ns.map noteL).map V.str).length = ns := List.take_of_length_le (by rw [List.length_map, List.length_map]; omega)
      rw [e] at hnr
      exact ⟨_, rfl, k D nr H1 hD s1 hD1 hnr⟩
theorem ok_contents (T : Txt K mg Z) : FnOk P w K mg base CX0 10 Z.f_contents Z.d_contents ["text"] (sp_contents Z.cC) := by
  refine T.F_contents.ok sc_contents (fun vs H Q E h => ?_) (fun cdv A outer s H vs Q E hr h => ?_)
  · obtain ⟨b, rfl, _⟩ := h
    rfl
  · obtain ⟨b, rfl, ok, k⟩ := h
    have sl : sizeLine = 16777216 := sizeLine_eq
    have tlen := text_len ok
    have z0 := ok.fine.z0; have z1 := ok.fine.z1
    refine ⟨_, (pss_cons (ps_if (pt_not (pt_val (pe_callB  call_isi (by rfl) T.b_isinstance (by decide +kernel) (pa_cons (pv 0) (pa_cons (pe_bltn (v := .ty "str") rfl T.b_str (by decide +kernel) rfl) pa_nil))))) (pss_one ps_never) pss_nil)
      (pss_cons (ps_set (i := 1) sc_contents.nd rfl (Or.inl rfl) (pe_split (pv 0) pe_str))
      (pss_cons (ps_set (i := 2) sc_contents.nd rfl (Or.inl rfl) (pe_call (ok_size_in T) (hr.mono (by decide)) rfl T.g_size_in T.k_size_in T.bn_size_in .nil pass0 (pa_cons (pe_ix ix_list (pv 1) pe_int (fun _ _ => rfl)) pa_nil)))
      (pss_cons (ps_if (pt_cmpR op_isN (pv 2) pe_non (nomark _)) (pss_one ps_never) pss_nil)
      (pss_cons (ps_set (i := 3) sc_contents.nd rfl (Or.inl rfl) (pe_call (ok_first_ties T) (hr.mono (by decide)) rfl T.g_first_ties T.k_first_ties T.bn_first_ties .nil pass0 (pa_cons (pe_slice sl_list (pv 1) (po_some pe_int) po_none) (pa_cons (pv 2) pa_nil))))
      (pss_cons (ps_set (i := 4) sc_contents.nd rfl (Or.inl rfl) (pe_call (ok_first_notes T) (hr.mono (by decide)) rfl T.g_first_notes T.k_first_notes T.bn_first_notes .nil pass0 (pa_cons (pe_slice sl_list (pv 1) (po_some (pe_op op_add pe_int (pe_callB  call_len (by rfl) T.b_len (by decide +kernel) (pa_cons (pv 3) pa_nil)))) po_none) (pa_cons (pv 2) pa_nil))))
      (pss_cons (ps_set (i := 5) sc_contents.nd rfl (Or.inl rfl) (pe_op op_add (pe_op op_add pe_int (pe_callB  call_len (by rfl) T.b_len (by decide +kernel) (pa_cons (pv 3) pa_nil))) (pe_callB  call_len (by rfl) T.b_len (by decide +kernel) (pa_cons (pv 4) pa_nil))))
      (pss_cons (ps_if (pt_cmpR op_lt (pv 5) (pe_callB  call_len (by rfl) T.b_len (by decide +kernel) (pa_cons (pv 1) pa_nil)) (nomark _)) (pss_one ps_never) pss_nil)
      (pss_one (ps_ret (pe_tup (pa_cons (pv 2) (pa_cons (pe_callTy call_tuple_of (by rfl) T.b_tuple (by decide +kernel) (pa_cons (pv 3) pa_nil)) (pa_cons (pe_callTy call_tuple_of (by rfl) T.b_tuple (by decide +kernel) (pa_cons (pv 4) pa_nil)) pa_nil)))))))))))))), ?_⟩
    refine ⟨_, rfl, _, _, _, _, true, rfl, .ty "str", .base (.str _), kit_ty (by decide +kernel), true, rfl, iteF ?_⟩
    refine ⟨_, rfl, ⟨_, rfl⟩, _, _, rfl, rfl, by decide, by omega, fun l hl => ?_⟩
    rw [split_text ok.fine]
    have s1 := Same.new (o := .lst (b.lines.map V.str)) (Same.refl H) hl
    have at1 : upd H l (.lst (b.lines.map V.str)) l = some (.lst (V.str (sizeL b.z) :: ((b.ts.map tieL).map V.str ++ (b.ns.map noteL).map V.str))) := by
      rw [upd_same]
      unfold Lore.lines
      rw [List.map_cons, List.map_append]
    generalize upd H l (.lst (b.lines.map V.str)) = H1 at s1 at1 ⊢
    refine ⟨_, rfl, l, _, _, _, rfl, rfl, SqL.of at1, at_head, b.z, rfl, z0, z1, fun H2 s2 => ?_⟩
    refine ⟨_, rfl, rfl, _, rfl, iteF ?_⟩
    have at2 := s2 _ _ at1
    refine ⟨_, rfl, _, rfl, l, _, rfl, SqL.of at2, fun l2 hl2 => ?_⟩
    rw [cut_tail]
    have s3 := Same.new (o := .lst ((b.ts.map tieL).map V.str ++ (b.ns.map noteL).map V.str)) (Same.refl H2) hl2
    refine ⟨_, rfl, l2, b.z, b.ts, b.ns, rfl, by rw [upd_same, List.map_append], z1, ok.fine.ts, ok.fine.ns, ok.tn, fun x tr H3 nx s4 hx htr => ?_⟩
    have s24 := s3.trans s4
    have at3 := s24 _ _ at2
    have lt := Paired.len htr
    refine ⟨_, rfl, _, rfl, _, _, rfl, .inl ⟨_, SqL.of hx, rfl⟩, _, _, rfl, rfl, _, rfl, l, _, rfl, SqL.of at3, fun l3 hl3 => ?_⟩
    rw [cut_at (by rw [List.length_map, List.length_map, lt])]
    have s5 := Same.new (o := .lst ((b.ns.map noteL).map V.str)) (Same.refl H3) hl3
    refine ⟨_, rfl, l3, b.z, b.ns, rfl, upd_same, z1, ok.fine.ns, ok.nn, ok.nd, fun y nr H4 ny s6 hy hnr => ?_⟩
    have s36 := s5.trans s6
    have at4 := s36 _ _ at3
    have hx4 := s36 _ _ hx
    have htr4 := htr.same s36
    have ln := Paired.len hnr
    refine ⟨_, rfl, _, _, rfl, .inl ⟨_, SqL.of hx4, rfl⟩, _, _, rfl, rfl, _, rfl, _, _, rfl, .inl ⟨_, SqL.of hy, rfl⟩, _, _, rfl, rfl, ?_⟩
    refine ⟨_, rfl, _, rfl, _, _, rfl, .inl ⟨_, SqL.of at4, rfl⟩, _, _, rfl, rfl, _, rfl, ?_⟩
    rw [decide_eq_false (by rw [List.length_cons, List.length_append, List.length_map, List.length_map, List.length_map, List.length_map]; omega)]
    refine iteF ⟨_, rfl, _, rfl, x, _, rfl, .inl ⟨SqL.of hx4, fun ta hta => ?_⟩⟩
    have s7 := Same.new (o := .tup tr) (Same.refl H4) hta
    have hta7 : upd H4 ta (.tup tr) ta = some (.tup tr) := upd_same
    have hy7 := s7 _ _ hy
    have htr7 := htr4.same s7
    have hnr7 := hnr.same s7
    generalize upd H4 ta (.tup tr) = H5 at s7 hta7 hy7 htr7 hnr7 ⊢
    refine ⟨_, rfl, y, _, rfl, .inl ⟨SqL.of hy7, fun na hna => ?_⟩⟩
    have s8 := Same.new (o := .tup nr) (Same.refl H5) hna
    refine ⟨by show 3 ≤ sizeLine; decide, fun u hu => ?_⟩
    have s9 := Same.new (o := .tup [.int b.z, .ref ta, .ref na]) s8 hu
    refine k u ta na tr nr _ ((((s1.trans s2).trans s24).trans s36).trans (s7.trans s9)) upd_same (s9 _ _ hta7) ?_ (htr7.same s9) (hnr7.same s9)
    exact (Same.new (o := .tup [.int b.z, .ref ta, .ref na]) (Same.refl _) hu) _ _ upd_same
theorem mkB (T : Txt K mg Z) : Mk K Z.cB Z.f_B_init := ⟨T.mkBc, T.a_B_init, T.i_B_init, T.kB⟩
theorem ok_B_init (T : Txt K mg Z) : FnOk P w K mg base CX0 11 Z.f_B_init Z.d_B_init ["self", "text"] (sp_B_init Z.cC Z.cB) := by
  refine T.F_B_init.ok sc_B_init (fun vs H Q E h => ?_) (fun cdv A outer s H vs Q E hr h => ?_)
  · obtain ⟨p, dx, b, rfl, _⟩ := h
    rfl
  · obtain ⟨p, dx, b, rfl, ok, hp, k⟩ := h
    refine ⟨_, (pss_cons (ps_asg (pe_call (ok_contents T) (hr.mono (by decide)) rfl T.g_contents T.k_contents T.bn_contents .nil pass0 (pa_cons (pv 1) pa_nil)) (pg_tup rfl (pgs_cons (pg_name (i := 2) sc_B_init.nd rfl (Or.inl rfl)) (pgs_cons (pg_name (i := 3) sc_B_init.nd rfl (Or.inl rfl)) (pgs_cons (pg_name (i := 4) sc_B_init.nd rfl (Or.inl rfl)) pgs_nil)))))
      (pss_cons (ps_fld (pv 0) (pv 1) rfl)
      (pss_cons (ps_fld (pv 0) (pv 2) rfl)
      (pss_cons (ps_fld (pv 0) (pv 3) rfl)
      (pss_one (ps_fld (pv 0) (pv 4) rfl)))))), ?_⟩
    refine ⟨_, rfl, b, rfl, ok, fun x ta na tr nr H1 s1 hx hta hna htr hnr => ?_⟩
    have hp1 := s1 _ _ hp
    refine ⟨x, _, rfl, SqT.of hx, rfl, _, _, rfl, _, _, rfl, _, _, rfl, rfl, ?_⟩
    have l1 : (bfs1 b.text).length ≤ 1 := len_putF (Nat.le_refl 0)
    have l2 : (bfs2 b.text b.z).length ≤ 2 := len_putF l1
    have l3 : (bfs3 b.text b.z ta).length ≤ 3 := len_putF l2
    refine ⟨_, rfl, _, rfl, p, _, dx, _, rfl, hp1, T.clB, T.nB_text, (by decide : 0 < 1000), ?_⟩
    refine ⟨_, rfl, _, rfl, p, _, dx, _, rfl, upd_same, T.clB, T.nB_size, Nat.lt_of_le_of_lt l1 (by decide), ?_⟩
    refine ⟨_, rfl, _, rfl, p, _, dx, _, rfl, upd_same, T.clB, T.nB_ties, Nat.lt_of_le_of_lt l2 (by decide), ?_⟩
    refine ⟨_, rfl, _, rfl, p, _, dx, _, rfl, upd_same, T.clB, T.nB_notes, Nat.lt_of_le_of_lt l3 (by decide), ?_⟩
    have keep : ∀ q o, q ≠ p → H1 q = some o → upd (upd (upd (upd H1 p (.ins Z.cB dx (bfs1 b.text))) p (.ins Z.cB dx (bfs2 b.text b.z))) p (.ins Z.cB dx (bfs3 b.text b.z ta))) p (.ins Z.cB dx (bfs b.text b.z ta na)) q = some o := fun q o n e => by
      rw [upd_ne n, upd_ne n, upd_ne n, upd_ne n]
      exact e
    refine k _ ⟨dx, ta, na, tr, nr, upd_same, keep _ _ (ne_of hta hp1 fun z => nomatch z) hta, keep _ _ (ne_of hna hp1 fun z => nomatch z) hna, Paired.imp (fun v r ⟨q, e, t⟩ => ⟨q, e, ?_⟩) htr, Paired.imp (fun v r ⟨q, e, t⟩ => ⟨q, e, keep _ _ (ne_of t hp1 fun z => nomatch z) t⟩) hnr⟩ fun q o n e => keep _ _ n (s1 _ _ e)
    obtain ⟨d, t⟩ := t
    refine ⟨d, keep _ _ (ne_of t hp1 fun z => ?_) t⟩
    have e : tfs r = [] := by injection z
    have e2 := tfs_text r
    rw [e] at e2
    cases e2
end
end TT

set_option maxHeartbeats 4000000
namespace TT
open PySem PySem.Spec PyProof.Rows L2 LamX TL
/-! ### books written anew -/
/-- f'..' of two parts or more, by a name: so it can be told in a comprehension -/
def tJn (ts : List TE) : TE := fun σ H Q => tJs ts Str.empty σ H fun out H1 => Q (.str out) H1
theorem pe_jn {X : Cx} {v1 v2 : Expr} {rest : List Expr} {ts : List TE} {pos : Pos} (h : PJ X (v1 :: v2 :: rest) ts) : PE X (.JoinedStr (v1 :: v2 :: rest) pos) (tJn ts) := pe_joined h
theorem Out.mono {E : XK} {C : Addr} {v : V} {H H1 : Hp} (o : Out E C v H) (s : Same H H1) : Out E C v H1 := fun d H' s' hd e => o d H' (s.trans s') (L2.Same.free s hd) e
def Row.far (r : Row) (z : Int) : Row := { r with f := r.f + z, s := r.s + z }
theorem Row.In.far {r : Row} {z y : Int} (h : r.In z) (y0 : 0 ≤ y) (yz : y + z ≤ 10 ^ 30) : (r.far y).In (y + z) := by
  have h1 := h.fz; have h2 := h.sz
  exact ⟨h.ok.far y0 (by omega) (by omega), by show r.f + y + r.l ≤ y + z; omega, by show r.s + y + r.l ≤ y + z; omega⟩
theorem Row.In.wide {r : Row} {z y : Int} (h : r.In z) (yz : z ≤ y) : r.In y := ⟨h.ok, by have := h.fz; omega, by have := h.sz; omega⟩
theorem e_tie (r : Row) : Str.empty ++ Str.ofString "tie " ++ tieText r = tieL r := by
  unfold tieL
  rw [tieText_eq]
  refine ext_tl ?_
  simp only [tl_append]
  rfl
theorem e_note (p : Int × Int) : Str.empty ++ Str.ofString "note " ++ Str.ofString (toString p.1) ++ Str.ofString " " ++ shownInt p.2 = noteL p := by
  unfold noteL
  refine ext_tl ?_
  simp only [tl_append]
  rfl
theorem e_size (z : Int) : Str.empty ++ Str.ofString "size " ++ Str.ofString (toString z) = sizeL z := by
  unfold sizeL
  refine ext_tl ?_
  simp only [tl_append]
  rfl
theorem takeN {α β : Type} {f : α → β} {l : List α} {i : Nat} {x : α} (h : l[i]? = some x) : (l.take (i + 1)).map f = (l.take i).map f ++ [f x] := by
  rw [take_snoc h, List.map_append]
  rfl
theorem free_up {H : Hp} {l x : Addr} {o : HO} (h : upd H l o x = none) : H x = none := by
  by_cases c : x = l
  · rw [c, upd_same] at h
    cases h
  · rw [upd_ne c] at h
    exact h
theorem gt_t {i j : Int} (h : j < i) : V.bl (decide (j < i)) = V.bl true := by rw [decide_eq_true h]
theorem gt_f {i j : Int} (h : i ≤ j) : V.bl (decide (j < i)) = V.bl false := by rw [decide_eq_false (by omega)]
section
variable {P : Program} {w : World} {K : PySem.W.Frag} {mg : Str → Option Value} {base : Heap} {Z : Zs}
end
end TT


set_option maxHeartbeats 4000000
namespace TT
open PySem PySem.Spec PyProof.Rows L2 LamX TL
/-! ### the law's lore -/
def loreK (z : Int) (ta na : Addr) : List (Key × V) := [(Sum.inr "size", .int z), (Sum.inr "ties", .ref ta), (Sum.inr "notes", .ref na)]
theorem merge_lore (z : Int) (ta na : Addr) : mergeK [] (loreK z ta na) = loreK z ta na := by
  unfold mergeK loreK putK
  have h1 : ¬ (Str.ofString "size" = Str.ofString "ties") := by decide +kernel
  have h2 : ¬ (Str.ofString "size" = Str.ofString "notes") := by decide +kernel
  have h3 : ¬ (Str.ofString "ties" = Str.ofString "notes") := by decide +kernel
  simp [h1, h2, h3]
theorem get_size {H : Hp} {d : Addr} {z : Int} {ta na : Addr} (h : H d = some (.dK (loreK z ta na))) : DGet H d (.str "size") (some (.int z)) := by
  refine .inl ⟨_, Sum.inr "size", .inl h, rfl, ?_⟩
  unfold loreK
  rw [valV_pos rfl]
theorem get_ties {H : Hp} {d : Addr} {z : Int} {ta na : Addr} (h : H d = some (.dK (loreK z ta na))) : DGet H d (.str "ties") (some (.ref ta)) := by
  refine .inl ⟨_, Sum.inr "ties", .inl h, rfl, ?_⟩
  unfold loreK
  rw [valV_neg (fun e => absurd (Sum.inr.inj e) (by decide +kernel)), valV_pos rfl]
theorem get_notes {H : Hp} {d : Addr} {z : Int} {ta na : Addr} (h : H d = some (.dK (loreK z ta na))) : DGet H d (.str "notes") (some (.ref na)) := by
  refine .inl ⟨_, Sum.inr "notes", .inl h, rfl, ?_⟩
  unfold loreK
  rw [valV_neg (fun e => absurd (Sum.inr.inj e) (by decide +kernel)), valV_neg (fun e => absurd (Sum.inr.inj e) (by decide +kernel)), valV_pos rfl]
theorem put_size {H : Hp} {d : Addr} {z y : Int} {ta na : Addr} (h : H d = some (.dK (loreK z ta na))) : DPut H d (.str "size") (.int y) (upd H d (.dK (loreK y ta na))) := by
  have h1 : ¬ (Str.ofString "ties" = Str.ofString "size") := by decide +kernel
  have h2 : ¬ (Str.ofString "notes" = Str.ofString "size") := by decide +kernel
  have e : putK (loreK z ta na) (Sum.inr (Str.ofString "size")) (.int y) = loreK y ta na := by
    unfold loreK putK
    simp [h1, h2]
  exact .inl ⟨_, Sum.inr "size", h, rfl, by show 3 < sizeLine; decide, by rw [← e]⟩
structure LoreIs (H : Hp) (p d : Addr) (b : Lore) (ta na : Addr) (tr nr : List V) : Prop where
  dic : H d = some (.dK (loreK b.z ta na))
  ties : H ta = some (.lst tr)
  notes : H na = some (.lst nr)
  tp : ta ≠ p
  np : na ≠ p
  ts : RowsAt H tr b.ts
  ns : Notes H nr b.ns
def LoreAt (H : Hp) (p d : Addr) (b : Lore) : Prop := ∃ ta na tr nr, LoreIs H p d b ta na tr nr
theorem RowsAt.keep {H H' : Hp} {p : Addr} {n : Nat} (k : Keep p H H') (hp : Pot H p n) {xs : List V} {ts : List Row} (h : RowsAt H xs ts) : RowsAt H' xs ts := Paired.imp (fun _ _ ⟨q, e, t⟩ => ⟨q, e, k.row hp t⟩) h
theorem Notes.keep {H H' : Hp} {p : Addr} {n : Nat} (k : Keep p H H') (hp : Pot H p n) {xs : List V} {ns : List (Int × Int)} (h : Notes H xs ns) : Notes H' xs ns :=
  Paired.imp (fun _ _ ⟨q, e, t⟩ => ⟨q, e, k _ _ (hp.off t fun _ z => nomatch z) t⟩) h
theorem RowsAt.put {D : Addr} {H : Hp} {xs : List V} {o : HO} (hD : H D = some (.lst xs)) {tr : List V} {ts : List Row} (h : RowsAt H tr ts) : RowsAt (upd H D o) tr ts :=
  Paired.imp (fun _ _ ⟨q, e, t⟩ => ⟨q, e, (upd_ne (ne_of t hD fun z => nomatch z)).trans t⟩) h
theorem RowsAt.dput {D : Addr} {H : Hp} {kvs : List (Key × V)} {o : HO} (hD : H D = some (.dK kvs)) {tr : List V} {ts : List Row} (h : RowsAt H tr ts) : RowsAt (upd H D o) tr ts :=
  Paired.imp (fun _ _ ⟨q, e, t⟩ => ⟨q, e, (upd_ne (ne_of t hD fun z => nomatch z)).trans t⟩) h
theorem Notes.dput {D : Addr} {H : Hp} {kvs : List (Key × V)} {o : HO} (hD : H D = some (.dK kvs)) {tr : List V} {ns : List (Int × Int)} (h : Notes H tr ns) : Notes (upd H D o) tr ns :=
  Paired.imp (fun _ _ ⟨q, e, t⟩ => ⟨q, e, (upd_ne (ne_of t hD fun z => nomatch z)).trans t⟩) h
theorem LoreAt.keep {H H' : Hp} {p d : Addr} {n : Nat} {b : Lore} (k : Keep p H H') (hp : Pot H p n) (h : LoreAt H p d b) : LoreAt H' p d b := by
  obtain ⟨ta, na, tr, nr, h⟩ := h
  exact ⟨ta, na, tr, nr, k _ _ (hp.off h.dic fun _ z => nomatch z) h.dic, k _ _ h.tp h.ties, k _ _ h.np h.notes, h.tp, h.np, h.ts.keep k hp, h.ns.keep k hp⟩
theorem LoreAt.same {H H' : Hp} {p d : Addr} {b : Lore} (s : Same H H') (h : LoreAt H p d b) : LoreAt H' p d b := by
  obtain ⟨ta, na, tr, nr, h⟩ := h
  exact ⟨ta, na, tr, nr, s _ _ h.dic, s _ _ h.ties, s _ _ h.notes, h.tp, h.np, h.ts.same s, h.ns.same s⟩
theorem Pot.put {H : Hp} {p D : Addr} {n : Nat} {o : HO} (hp : Pot H p n) (ne : p ≠ D) : Pot (upd H D o) p n := by
  obtain ⟨a, m, e, r⟩ := hp
  exact ⟨a, m, (upd_ne ne).trans e, r⟩
theorem Pot.ne' {H : Hp} {p q : Addr} {n : Nat} (hp : Pot H p n) (hq : H q = none) : p ≠ q := by
  obtain ⟨_, _, e, _⟩ := hp
  exact ne_of_none e hq
def sp_l_lore : Sp := fun vs H Q _ => ∃ (p : Addr) (n : Nat) (mz mt mn : Int), vs = [.ref p, .int mz, .int mt, .int mn] ∧ Pot H p n ∧ n + 200 < 1000000 ∧ 1 ≤ mz ∧ mz ≤ 100 ∧ 0 ≤ mt ∧ mt ≤ 11 ∧ 0 ≤ mn ∧ mn ≤ 11 ∧
  ∀ (d : Addr) (b : Lore) (n' : Nat) (H' : Hp), b.Fine → b.z ≤ mz → (b.ts.length : Int) ≤ mt → (b.ns.length : Int) ≤ mn → (b.ns.map (·.1)).Nodup → n' ≤ n + 120 → Pot H' p n' → Keep p H H' → H d = none → LoreAt H' p d b → Q (.ref d) H'
theorem ix_in {i : Int} {n : Nat} (h0 : 0 ≤ i) (h1 : i < n) : seqIndex? i n = some i.toNat := by
  unfold seqIndex?
  simp only [if_neg (show ¬ i < 0 by omega)]
  simp [h0, h1]
theorem rg_ints (z : Int) : rgV 0 z = ((List.range z.toNat).map fun j => ((j : Nat) : Int)).map V.int := by
  unfold rgV
  rw [List.map_map, Int.sub_zero]
  refine List.map_congr_left fun j _ => ?_
  show V.int (0 + (j : Int)) = V.int (j : Int)
  rw [Int.zero_add]
theorem erase_map {α β : Type} (f : α → β) : ∀ (l : List α) (k : Nat), (l.map f).eraseIdx k = (l.eraseIdx k).map f
  | [], _ => rfl
  | _ :: _, 0 => rfl
  | a :: l, k + 1 => by
    show f a :: (l.map f).eraseIdx k = f a :: (l.eraseIdx k).map f
    rw [erase_map f l k]
theorem erase_mem {α : Type} : ∀ {l : List α} {k : Nat} {y : α}, y ∈ l.eraseIdx k → y ∈ l
  | [], _, _, h => h
  | _ :: _, 0, _, h => List.mem_cons_of_mem _ h
  | a :: l, k + 1, y, h => by
    rcases List.mem_cons.mp (show y ∈ a :: l.eraseIdx k from h) with rfl | h
    · exact List.mem_cons_self ..
    · exact List.mem_cons_of_mem _ (erase_mem h)
theorem erase_nodup {α : Type} : ∀ {l : List α} {k : Nat} {x : α}, l.Nodup → l[k]? = some x → (l.eraseIdx k).Nodup ∧ x ∉ l.eraseIdx k ∧ (l.eraseIdx k).length + 1 = l.length
  | [], _, _, _, h => by simp at h
  | a :: l, 0, x, nd, h => by
    simp at h
    subst h
    obtain ⟨n1, n2⟩ := List.nodup_cons.mp nd
    exact ⟨n2, n1, rfl⟩
  | a :: l, k + 1, x, nd, h => by
    obtain ⟨n1, n2⟩ := List.nodup_cons.mp nd
    obtain ⟨e1, e2, e3⟩ := erase_nodup n2 (show l[k]? = some x by simpa using h)
    refine ⟨List.nodup_cons.mpr ⟨fun m => n1 (erase_mem m), e1⟩, fun m => ?_, by show (l.eraseIdx k).length + 1 + 1 = l.length + 1; omega⟩
    rcases List.mem_cons.mp (show x ∈ a :: l.eraseIdx k from m) with rfl | m
    · exact n1 (List.mem_of_getElem? (show l[k]? = some x by simpa using h))
    · exact e2 m
section
variable {P : Program} {w : World} {K : PySem.W.Frag} {mg : Str → Option Value} {base : Heap} {Z : Zs}
theorem ok_l_lore (T : Txt K mg Z) : FnOk P w K mg base CX0 5 Z.f_l_lore Z.d_l_lore ["_law_pot_here", "_law_most", "_law_ties", "_law_notes"] sp_l_lore := by
  refine T.F_l_lore.ok sc_l_lore (fun vs H Q E h => ?_) (fun cdv A outer s H vs Q E hr h => ?_)
  · obtain ⟨p, n, mz, mt, mn, rfl, _⟩ := h
    rfl
  · obtain ⟨p, n, mz, mt, mn, rfl, hp, hn, z0, z1, t0, t1, n0, n1, k⟩ := h
    have sl : sizeLine = 16777216 := sizeLine_eq
    have big : (1000 : Int) < 10 ^ 60 := by decide
    refine ⟨_, (pss_cons (ps_set (i := 4) sc_l_lore.nd rfl (Or.inl rfl) (pe_disp (pps_cons pe_str (pe_op op_add pe_int (pe_call (ok_l_take T) (hr.mono (by decide)) rfl T.g_l_take T.k_l_take T.bn_l_take .nil pass0 (pa_cons (pv 0) (pa_cons (pv 1) pa_nil)))) (pps_cons pe_str (pe_lst pa_nil) (pps_cons pe_str (pe_lst pa_nil) pps_nil))) (by rfl) (by rfl) (fun z => by cases z) (by decide)))
      (pss_cons (ps_for PassesOwn.never rfl (pi_range1 rfl T.b_range (pa_cons (pe_call (ok_l_take T) (hr.mono (by decide)) rfl T.g_l_take T.k_l_take T.bn_l_take .nil pass0 (pa_cons (pv 0) (pa_cons (pe_op op_add (pv 2) pe_int) pa_nil))) pa_nil)) (pg_name (i := 5) sc_l_lore.nd rfl (Or.inl rfl)) (pss_one (ps_expr (pe_bm PySem.F.plainAttrs_list PySem.F.slot_list_append PySem.F.type_list_append mt_append (pe_dget (hu_of hr) (pv 4) pe_str (fun _ _ => rfl)) (pa_cons (pe_call (ok_l_row T) (hr.mono (by decide)) rfl T.g_l_row T.k_l_row T.bn_l_row .nil pass0 (pa_cons (pv 0) (pa_cons (pe_dget (hu_of hr) (pv 4) pe_str (fun _ _ => rfl)) pa_nil))) pa_nil)))))
      (pss_cons (ps_set (i := 6) sc_l_lore.nd rfl (Or.inl rfl) (pe_listRg rfl rfl T.b_list (prg_1 rfl T.b_range (pe_dget (hu_of hr) (pv 4) pe_str (fun _ _ => rfl)))))
      (pss_cons (ps_for PassesOwn.never rfl (pi_range1 rfl T.b_range (pa_cons (pe_callB  (call_min2 rfl) (by rfl) T.b_min (by decide +kernel) (pa_cons (pe_callB  call_len (by rfl) T.b_len (by decide +kernel) (pa_cons (pv 6) pa_nil)) (pa_cons (pe_call (ok_l_take T) (hr.mono (by decide)) rfl T.g_l_take T.k_l_take T.bn_l_take .nil pass0 (pa_cons (pv 0) (pa_cons (pe_op op_add (pv 3) pe_int) pa_nil))) pa_nil))) pa_nil)) (pg_name (i := 5) sc_l_lore.nd rfl (Or.inl rfl)) (pss_one (ps_expr (pe_bm PySem.F.plainAttrs_list PySem.F.slot_list_append PySem.F.type_list_append mt_append (pe_dget (hu_of hr) (pv 4) pe_str (fun _ _ => rfl)) (pa_cons (pe_tup (pa_cons (pe_bm PySem.F.plainAttrs_list PySem.F.slot_list_pop PySem.F.type_list_pop mt_popAt (pv 6) (pa_cons (pe_call (ok_l_take T) (hr.mono (by decide)) rfl T.g_l_take T.k_l_take T.bn_l_take .nil pass0 (pa_cons (pv 0) (pa_cons (pe_callB  call_len (by rfl) T.b_len (by decide +kernel) (pa_cons (pv 6) pa_nil)) pa_nil))) pa_nil)) (pa_cons (pe_call (ok_l_amount T) (hr.mono (by decide)) rfl T.g_l_amount T.k_l_amount T.bn_l_amount .nil pass0 (pa_cons (pv 0) pa_nil)) pa_nil))) pa_nil)))))
      (pss_one (ps_ret (pv 4))))))), ?_⟩
    refine fun D hD => ?_
    have npD := hp.ne' hD
    refine ⟨_, rfl, _, rfl, p, n, mz, rfl, hp.new hD, by omega, by omega, by omega, fun dz m1 H1 dz0 dz1 hm1 hp1 k1 => ⟨_, _, rfl, rfl, ?_⟩⟩
    refine ⟨by show 0 ≤ sizeLine; exact Nat.zero_le _, fun ta hta => ⟨by show 0 ≤ sizeLine; exact Nat.zero_le _, fun na hna => ?_⟩⟩
    have hD1 : H1 D = some (.dK []) := k1 _ _ npD.symm upd_same
    have npt := hp1.ne' hta
    have s1 := Same.new (o := .lst []) (Same.refl H1) hta
    have s2 := Same.new (o := .lst []) (Same.refl _) hna
    have ta2 : upd (upd H1 ta (.lst [])) na (.lst []) ta = some (.lst []) := s2 _ _ upd_same
    have na2 : upd (upd H1 ta (.lst [])) na (.lst []) na = some (.lst []) := upd_same
    have nta : ta ≠ na := ne_of_none upd_same hna
    have hp2 := hp1.same (s1.trans s2)
    have npn : p ≠ na := (hp1.same s1).ne' hna
    have hD2 := s2 _ _ (s1 _ _ hD1)
    have k2 : Keep p H (upd (upd H1 ta (.lst [])) na (.lst [])) := ((Keep.rfl'.new hD).trans k1).same (s1.trans s2)
    have fta : H ta = none := free_of ((Keep.rfl'.new hD).trans k1) hp hta hp1
    have fna : H na = none := free_of (((Keep.rfl'.new hD).trans k1).same s1) hp hna (hp1.same s1)
    generalize upd (upd H1 ta (.lst [])) na (.lst []) = H2 at s2 ta2 na2 hp2 hD2 k2 ⊢
    clear s1 s2
    refine ⟨hD2, loreK (1 + dz) ta na, rfl, by show 3 ≤ 15; decide, ?_⟩
    rw [merge_lore]
    obtain ⟨z, hz⟩ : ∃ z, z = 1 + dz := ⟨_, rfl⟩
    rw [← hz]
    have zz : 1 ≤ z ∧ z ≤ mz := by omega
    have hp3 : Pot (upd H2 D (.dK (loreK z ta na))) p m1 := hp2.put npD
    have ta3 : upd H2 D (.dK (loreK z ta na)) ta = some (.lst []) := (upd_ne (ne_of ta2 hD2 fun z => nomatch z)).trans ta2
    have na3 : upd H2 D (.dK (loreK z ta na)) na = some (.lst []) := (upd_ne (ne_of na2 hD2 fun z => nomatch z)).trans na2
    have hD3 : upd H2 D (.dK (loreK z ta na)) D = some (.dK (loreK z ta na)) := upd_same
    have k3 : Keep p H (upd H2 D (.dK (loreK z ta na))) := fun b o nb e => (upd_ne (ne_of_none e hD)).trans (k2 b o nb e)
    generalize upd H2 D (.dK (loreK z ta na)) = H3 at hp3 ta3 na3 hD3 k3 ⊢
    clear ta2 na2 hp2 hD2 k2 hD1 hta hna hp1 k1
    -- the ties
    refine ⟨_, rfl, _, rfl, _, _, rfl, rfl, p, m1, mt + 1, rfl, hp3, by omega, by omega, by omega, fun dt m2 H4 dt0 dt1 hm2 hp4 k4 => ?_⟩
    refine ⟨_, rfl, by omega, by omega, ?_⟩
    have ntp := npt.symm; have nnp := npn.symm
    refine for_range (n := dt.toNat) (fun i σ H' => ∃ n' v5 tr ts, σ = [some (.ref p), some (.int mz), some (.int mt), some (.int mn), some (.ref D), v5, none] ∧ n' ≤ n + 2 + 6 * i ∧ Pot H' p n' ∧ Keep p H H' ∧ H' D = some (.dK (loreK z ta na)) ∧ H' ta = some (.lst tr) ∧ H' na = some (.lst []) ∧ RowsAt H' tr ts ∧ ts.length = i ∧ ∀ r ∈ ts, r.In z)
      ⟨m2, _, [], [], rfl, by omega, hp4, k3.trans k4, k4 _ _ npD.symm hD3, k4 _ _ ntp ta3, k4 _ _ nnp na3, .nil, rfl, fun _ h => nomatch h⟩ ?_ ?_
    · rintro i σ H5 hi ⟨n', v5, tr, ts, rfl, hn', hp5, k5, hD5, ta5, na5, rows, lts, ins⟩
      refine ⟨_, rfl, D, _, rfl, get_ties hD5, .inl ⟨rfl, _, SqL.of ta5⟩, ?_⟩
      refine ⟨_, rfl, _, rfl, D, _, rfl, get_size hD5, p, n', z, rfl, hp5, by omega, by omega, by omega, fun r q n6 H6 ok fz sz lo hi' hn6 hp6 k6 hq nq => ?_⟩
      have lr := Paired.len rows
      have ta6 := k6 _ _ ntp ta5
      refine ⟨ta, _, _, rfl, rfl, ta6, by omega, ?_⟩
      refine ⟨n6, _, tr ++ [.ref q], ts ++ [r], rfl, by omega, hp6.put npt, fun b o nb e => (upd_ne (ne_of_none e fta)).trans ((k5.trans k6) b o nb e), ?_, upd_same, ?_, ?_, by rw [List.length_append, lts] <;> rfl, fun r' hr' => ?_⟩
      · have hD6 := k6 _ _ npD.symm hD5
        exact (upd_ne (ne_of hD6 ta6 fun z => nomatch z)).trans hD6
      · exact (upd_ne nta.symm).trans (k6 _ _ nnp na5)
      · exact Paired.snoc ⟨q, rfl, (upd_ne (ne_of hq ta6 fun z => nomatch z)).trans hq⟩ ((rows.keep k6 hp5).put ta6)
      · rcases List.mem_append.mp hr' with h | h
        · exact ins r' h
        · rw [List.mem_singleton.mp h]
          exact ⟨ok, fz, sz⟩
    rintro σ H5 ⟨n', v5, tr, ts, rfl, hn', hp5, k5, hD5, ta5, na5, rows, lts, ins⟩
    clear hp3 ta3 na3 hD3 k3 hp4 k4
    -- the places that are left
    refine ⟨_, rfl, D, _, rfl, get_size hD5, _, rfl, RgOk.of_le (by decide) (by omega) (by decide) (by omega), fun L hL => ?_⟩
    have s6 := Same.new (o := .lst (rgV 0 z)) (Same.refl H5) hL
    have hL6 : upd H5 L (.lst (rgV 0 z)) L = some (.lst (((List.range z.toNat).map fun j => ((j : Nat) : Int)).map V.int)) := by rw [upd_same, rg_ints]
    have npL := hp5.ne' hL
    have fL : H L = none := free_of k5 hp hL hp5
    have ntL : ta ≠ L := ne_of_none ta5 hL
    have nnL : na ≠ L := ne_of_none na5 hL
    have hp6 := hp5.same s6
    have k6 := k5.same s6
    have hD6 := s6 _ _ hD5
    have ta6 := s6 _ _ ta5
    have na6 := s6 _ _ na5
    have rows6 := rows.same s6
    generalize upd H5 L (.lst (rgV 0 z)) = H6 at hL6 hp6 k6 hD6 ta6 na6 rows6 ⊢
    clear s6 hL hp5 k5 hD5 ta5 na5 rows
    obtain ⟨pl, epl⟩ : ∃ pl : List Int, pl = (List.range z.toNat).map fun j => ((j : Nat) : Int) := ⟨_, rfl⟩
    rw [← epl] at hL6
    have plen : pl.length = z.toNat := by rw [epl, List.length_map, List.length_range]
    have pnd : pl.Nodup := by
      rw [epl]
      unfold List.Nodup
      rw [List.pairwise_map]
      exact List.Pairwise.imp (fun h e => h (by omega)) (List.nodup_range (n := z.toNat))
    have pin : ∀ x ∈ pl, 0 ≤ x ∧ x < z := fun x hx => by
      rw [epl] at hx
      obtain ⟨j, hj, rfl⟩ := List.mem_map.mp hx
      have := List.mem_range.mp hj
      omega
    clear epl
    have dtm : dt.toNat ≤ 11 := by omega
    refine ⟨_, rfl, _, _, rfl, .inl ⟨_, SqL.of hL6, rfl⟩, ?_⟩
    refine ⟨_, rfl, _, rfl, _, _, rfl, rfl, p, n', mn + 1, rfl, hp6, by omega, by omega, by omega, fun dn m7 H7 dn0 dn1 hm7 hp7 k7 => ?_⟩
    refine ⟨_, _, rfl, _, rfl, ?_, ?_, ?_⟩
    · split <;> omega
    · rw [List.length_map]
      split <;> omega
    have jn : (if dn < ((pl.map V.int).length : Int) then dn else ((pl.map V.int).length : Int)).toNat ≤ pl.length ∧ (if dn < ((pl.map V.int).length : Int) then dn else ((pl.map V.int).length : Int)).toNat ≤ dn.toNat := by
      rw [List.length_map]
      constructor <;> split <;> omega
    generalize (if dn < ((pl.map V.int).length : Int) then dn else ((pl.map V.int).length : Int)).toNat = j at jn ⊢
    obtain ⟨j1, j2⟩ := jn
    refine for_range (n := j) (fun i σ H' => ∃ n2 v5 nr ns ls, σ = [some (.ref p), some (.int mz), some (.int mt), some (.int mn), some (.ref D), v5, some (.ref L)] ∧ n2 ≤ n + 70 + 2 * i ∧ Pot H' p n2 ∧ Keep p H H' ∧ H' D = some (.dK (loreK z ta na)) ∧ H' ta = some (.lst tr) ∧ RowsAt H' tr ts ∧
        H' na = some (.lst nr) ∧ Notes H' nr ns ∧ ns.length = i ∧ H' L = some (.lst (ls.map V.int)) ∧ ls.length + i = pl.length ∧ ls.Nodup ∧ (∀ x ∈ ls, x ∈ pl ∧ x ∉ ns.map (·.1)) ∧ (ns.map (·.1)).Nodup ∧ ∀ q ∈ ns, NoteIn q z)
      ⟨m7, _, [], [], pl, rfl, by omega, hp7, k6.trans k7, k7 _ _ npD.symm hD6, k7 _ _ ntp ta6, rows6.keep k7 hp6, k7 _ _ nnp na6, .nil, rfl, k7 _ _ npL.symm hL6, rfl, pnd, fun x hx => ⟨hx, fun h => nomatch h⟩, List.nodup_nil, fun _ h => nomatch h⟩ ?_ ?_
    · rintro i σ H8 hi ⟨n2, v5, nr, ns, ls, rfl, hn2, hp8, k8, hD8, ta8, rows8, na8, nts, lns, hL8, lls, lnd, lin, nnd, nin⟩
      have lpos : 0 < ls.length := by omega
      have lnr := Paired.len nts
      refine ⟨_, rfl, D, _, rfl, get_notes hD8, .inl ⟨rfl, _, SqL.of na8⟩, ?_⟩
      refine ⟨_, rfl, .inl ⟨rfl, _, SqL.of hL8⟩, ?_⟩
      refine ⟨_, rfl, _, rfl, _, _, rfl, .inl ⟨_, SqL.of hL8, rfl⟩, p, n2, _, rfl, hp8, by omega, by rw [List.length_map]; omega, by rw [List.length_map]; omega, fun x n9 H9 x0 x1 hn9 hp9 k9 => ?_⟩
      rw [List.length_map] at x1
      have hL9 := k9 _ _ npL.symm hL8
      obtain ⟨y, hy⟩ : ∃ y, ls[x.toNat]? = some y := ⟨_, List.getElem?_eq_getElem (by omega)⟩
      obtain ⟨e1, e2, e3⟩ := erase_nodup lnd hy
      have ym := List.mem_of_getElem? hy
      refine ⟨L, _, x, x.toNat, .int y, rfl, rfl, hL9, by omega, by omega, ix_in x0 (by rw [List.length_map]; exact x1), by rw [List.getElem?_map, hy] <;> rfl, ?_⟩
      rw [erase_map]
      have hpA : Pot (upd H9 L (.lst ((ls.eraseIdx x.toNat).map V.int))) p n9 := hp9.put npL
      refine ⟨_, rfl, p, n9, rfl, hpA, by omega, fun v nB HB v0 v1 hnB hpB kB => ?_⟩
      refine ⟨by show 2 ≤ sizeLine; decide, fun t ht => ?_⟩
      have sC := Same.new (o := .tup [.int y, .int v]) (Same.refl HB) ht
      have kA : Keep p H (upd H9 L (.lst ((ls.eraseIdx x.toNat).map V.int))) := fun b o nb e => (upd_ne (ne_of_none e fL)).trans ((k8.trans k9) b o nb e)
      have naA : upd H9 L (.lst ((ls.eraseIdx x.toNat).map V.int)) na = some (.lst nr) := (upd_ne nnL).trans (k9 _ _ nnp na8)
      have naC := sC _ _ (kB _ _ nnp naA)
      refine ⟨na, _, _, rfl, rfl, naC, by omega, ?_⟩
      have hDA : upd H9 L (.lst ((ls.eraseIdx x.toNat).map V.int)) D = some (.dK (loreK z ta na)) := by
        have := k9 _ _ npD.symm hD8
        exact (upd_ne (ne_of this hL9 fun z => nomatch z)).trans this
      have hDC := sC _ _ (kB _ _ npD.symm hDA)
      have taC := sC _ _ (kB _ _ ntp ((upd_ne ntL).trans (k9 _ _ ntp ta8)))
      have hLC := sC _ _ (kB _ _ npL.symm (upd_same (H := H9) (a := L) (o := .lst ((ls.eraseIdx x.toNat).map V.int))))
      have rowsC := (((rows8.keep k9 hp8).put hL9).keep kB hpA).same sC
      have ntsC := (((nts.keep k9 hp8).put hL9).keep kB hpA).same sC
      have yin := pin y (lin y ym).1
      refine ⟨nB, _, nr ++ [.ref t], ns ++ [(y, v)], ls.eraseIdx x.toNat, rfl, by omega, (hpB.same sC).put npn, fun b o nb e => (upd_ne (ne_of_none e fna)).trans (((kA.trans kB).same sC) b o nb e), (upd_ne (ne_of hDC naC fun z => nomatch z)).trans hDC, (upd_ne nta).trans taC, rowsC.put naC, upd_same, ?_, by rw [List.length_append, lns] <;> rfl,
        (upd_ne nnL.symm).trans hLC, by omega, e1, fun x' hx' => ⟨(lin x' (erase_mem hx')).1, ?_⟩, ?_, fun q hq => ?_⟩
      · exact Paired.snoc ⟨t, rfl, (upd_ne (ne_of upd_same naC fun z => nomatch z)).trans upd_same⟩ (ntsC.put naC)
      · rw [List.map_append, List.mem_append]
        rintro (h | h)
        · exact (lin x' (erase_mem hx')).2 h
        · have : x' = y := by simpa using h
          rw [this] at hx'
          exact e2 hx'
      · rw [List.map_append, List.nodup_append]
        refine ⟨nnd, by simp, fun a ha b hb => ?_⟩
        have : b = y := by simpa using hb
        rw [this]
        rintro rfl
        exact (lin a ym).2 ha
      · rcases List.mem_append.mp hq with h | h
        · exact nin q h
        · rw [List.mem_singleton.mp h]
          exact ⟨yin.1, yin.2, by show -(10 ^ 60) < v; omega, by show v < 10 ^ 60; omega⟩
    · rintro σ H8 ⟨n2, v5, nr, ns, ls, rfl, hn2, hp8, k8, hD8, ta8, rows8, na8, nts, lns, hL8, lls, lnd, lin, nnd, nin⟩
      have e30 : (100 : Int) ≤ 10 ^ 30 := by decide
      exact ⟨_, rfl, k D ⟨z, ts, ns⟩ n2 H8 ⟨by show 1 ≤ z; omega, by show z ≤ 10 ^ 30; omega, ins, nin⟩ (by show z ≤ mz; omega) (by show (ts.length : Int) ≤ mt; omega) (by show (ns.length : Int) ≤ mn; omega) nnd (by omega) hp8 k8 hD ⟨ta, na, tr, nr, hD8, ta8, na8, ntp, nnp, rows8, nts⟩⟩
end
end TT

set_option maxHeartbeats 4000000
namespace TT
open PySem PySem.Spec PyProof.Rows L2 LamX TL
/-! ### the law's lines and books -/
def sp_l_lines : Sp := fun vs H Q _ => ∃ (p d : Addr) (b : Lore), vs = [.ref d] ∧ LoreAt H p d b ∧ b.Fine ∧ b.ts.length ≤ 1000 ∧ b.ns.length ≤ 1000 ∧ ∀ x H', H x = none → Same H H' → H' x = some (.lst (b.lines.map V.str)) → Q (.ref x) H'
def sp_l_book (Z : Zs) : Sp := fun vs H Q _ => ∃ (p d : Addr) (b : Lore), vs = [.ref d] ∧ LoreAt H p d b ∧ b.Ok ∧ ∀ x H', H x = none → Same H H' → BookAt Z.cC Z.cB H' x b.text b → Q (.ref x) H'
section
variable {P : Program} {w : World} {K : PySem.W.Frag} {mg : Str → Option Value} {base : Heap} {Z : Zs}
theorem ok_l_lines (T : Txt K mg Z) : FnOk P w K mg base CX0 2 Z.f_l_lines Z.d_l_lines ["_law_lore_here"] sp_l_lines := by
  refine T.F_l_lines.ok sc_l_lines (fun vs H Q E h => ?_) (fun cdv A outer s H vs Q E hr h => ?_)
  · obtain ⟨p, d, b, rfl, _⟩ := h
    rfl
  · obtain ⟨p, d, b, rfl, ⟨ta, na, tr, nr, hd⟩, fine, tn, nn, k⟩ := h
    have sl : sizeLine = 16777216 := sizeLine_eq
    have z0 := fine.z0; have z1 := fine.z1
    have lt := Paired.len hd.ts; have ln := Paired.len hd.ns
    have nl := num_len (n := b.z) (by omega) z1
    have l5 : (Str.ofString "size ").length = 5 := by decide
    have l4 : (Str.ofString "tie ").length = 4 := by decide
    have l6 : (Str.ofString "note ").length = 5 := by decide
    have l1 : (Str.ofString " ").length = 1 := by decide
    have e60 : (10 : Int) ^ 30 < 10 ^ 60 := by decide +kernel
    refine ⟨_, (pss_cons (ps_set (i := 1) sc_l_lines.nd rfl (Or.inl rfl) (pe_op op_cat (pe_lst (pa_cons (pe_op op_add_str pe_str (pe_callTy call_str_int (by rfl) T.b_str (by decide +kernel) (pa_cons (pe_dget (hu_of hr) (pv 0) pe_str (fun _ _ => rfl)) pa_nil))) pa_nil)) (pe_lc (own := [("_law_row_here", 2)]) rfl sc_l_lines.nd (pi_list (pe_dget (hu_of hr) (pv 0) pe_str (fun _ _ => rfl))) (blkOk_by (own := [("_law_row_here", 2)]) (N := ["_law_lore_here", "_law_lines_here", "_law_row_here", "_law_place", "_law_note"]) (sc := defScope s_l_lines) (by decide +kernel)) (fun _ _ _ _ _ => (pg_name (i := 2) sc_l_lines.nd rfl (Or.inl rfl))) (fun _ _ _ _ _ => pts_nil) (fun _ _ _ _ _ => (pe_op op_add_str pe_str (pe_call (ok_l_text_of T) (hr.mono (by decide)) rfl T.g_l_text_of T.k_l_text_of T.bn_l_text_of .nil pass0 (pa_cons (pv 2) pa_nil)))))))
      (pss_one (ps_ret (pe_op op_cat (pv 1) (pe_lc (own := [("_law_place", 3), ("_law_note", 4)]) rfl sc_l_lines.nd (pi_list (pe_dget (hu_of hr) (pv 0) pe_str (fun _ _ => rfl))) (blkOk_by (own := [("_law_place", 3), ("_law_note", 4)]) (N := ["_law_lore_here", "_law_lines_here", "_law_row_here", "_law_place", "_law_note"]) (sc := defScope s_l_lines) (by decide +kernel)) (fun _ _ _ _ _ => (show PG _ _ (gTup K 2 _) from (pg_tup rfl (pgs_cons (pg_name (i := 3) sc_l_lines.nd rfl (Or.inl rfl)) (pgs_cons (pg_name (i := 4) sc_l_lines.nd rfl (Or.inl rfl)) pgs_nil))))) (fun _ _ _ _ _ => pts_nil) (fun _ _ _ _ _ => (pe_op op_add_str (pe_op op_add_str (pe_op op_add_str pe_str (pe_callTy call_str_int (by rfl) T.b_str (by decide +kernel) (pa_cons (pv 3) pa_nil))) pe_str) (pe_callTy call_str_int (by rfl) T.b_str (by decide +kernel) (pa_cons (pv 4) pa_nil))))))))), ?_⟩
    refine ⟨_, rfl, d, _, rfl, get_size hd.dic, _, rfl, log_le (by omega) (by omega), _, _, rfl, rfl, by omega, by show 1 ≤ sizeLine; decide, fun l hl => ?_⟩
    have s1 := Same.new (o := .lst [.str (sizeL b.z)]) (Same.refl H) hl
    have atl : upd H l (.lst [.str (sizeL b.z)]) l = some (.lst [.str (sizeL b.z)]) := upd_same
    refine Eq.mp (congrArg _ rfl) ?_
    have d1 := s1 _ _ hd.dic
    have t1 := s1 _ _ hd.ties
    have n1 := s1 _ _ hd.notes
    have r1 := hd.ts.same s1
    have m1 := hd.ns.same s1
    refine ⟨_, rfl, d, _, rfl, get_ties d1, ta, rfl, ⟨_, SqL.of t1⟩, fun G hG => ?_⟩
    refine lc_list (xs := tr) (fun i H' => H' G = some (.lst (((b.ts.take i).map tieL).map V.str)) ∧ Same (upd H l (.lst [.str (sizeL b.z)])) H') ⟨upd_same, Same.new (Same.refl _) hG⟩ (fun i H' _ h => SqL.of (h.2 _ _ t1)) ?_ ?_
    · rintro i x H2 hi ⟨hGi, s2⟩
      refine ⟨rfl, ?_⟩
      unfold tYes
      refine iteT ?_
      obtain ⟨r, hr', q, rfl, hq⟩ := Paired.at r1 hi
      have okr := (fine.ts r (List.mem_of_getElem? hr')).ok
      have il : i < b.ts.length := (List.getElem?_eq_some_iff.mp hr').1
      have rl := row_len okr r.b
      refine ⟨_, rfl, q, r, rfl, s2 _ _ hq, okr, fun H3 s3 => ⟨_, _, rfl, rfl, by omega, _, s3 _ _ hGi, by rw [List.length_map, List.length_map, List.length_take]; omega, ?_, same_put (s2.trans s3) hG⟩⟩
      rw [upd_same, takeN hr', List.map_append]
      rfl
    rintro H2 ⟨hG2, s2⟩
    rw [List.take_of_length_le (by omega)] at hG2
    have lsum : ([V.str (sizeL b.z)] : List V).length + ((b.ts.map tieL).map V.str).length ≤ sizeLine := by
      rw [List.length_map, List.length_map, List.length_singleton]
      omega
    refine ⟨l, G, _, _, rfl, rfl, s2 _ _ atl, hG2, lsum, fun l2 hl2 => ?_⟩
    have s3 := Same.new (o := .lst ([V.str (sizeL b.z)] ++ (b.ts.map tieL).map V.str)) (Same.refl H2) hl2
    have s23 := s2.trans s3
    have n3 := s23 _ _ n1
    have m3 := m1.same s23
    have at3 : upd H2 l2 (.lst ([V.str (sizeL b.z)] ++ (b.ts.map tieL).map V.str)) l2 = some (.lst ([V.str (sizeL b.z)] ++ (b.ts.map tieL).map V.str)) := upd_same
    refine ⟨_, rfl, _, rfl, d, _, rfl, get_notes (s23 _ _ d1), na, rfl, ⟨_, SqL.of n3⟩, fun G2 hG2' => ?_⟩
    refine lc_list (xs := nr) (fun i H' => H' G2 = some (.lst (((b.ns.take i).map noteL).map V.str)) ∧ Same (upd H2 l2 (.lst ([V.str (sizeL b.z)] ++ (b.ts.map tieL).map V.str))) H') ⟨upd_same, Same.new (Same.refl _) hG2'⟩ (fun i H' _ h => SqL.of (h.2 _ _ n3)) ?_ ?_
    · rintro i x H4 hi ⟨hGi, s4⟩
      obtain ⟨q, hq, y, rfl, hy⟩ := Paired.at m3 hi
      have il : i < b.ns.length := (List.getElem?_eq_some_iff.mp hq).1
      have np := fine.ns q (List.mem_of_getElem? hq)
      have p0 := np.p0; have pz := np.pz
      have al := shown_len60 np.lo np.hi
      have pl := num_len p0 (by omega)
      refine ⟨y, _, rfl, SqT.of (s4 _ _ hy), rfl, _, _, rfl, _, _, rfl, rfl, rfl, ?_⟩
      unfold tYes
      refine iteT ?_
      refine ⟨_, rfl, _, rfl, log_le (by omega) (by omega), _, _, rfl, rfl, by omega, _, _, rfl, rfl, by rw [Str.length_append]; omega, _, rfl, _, rfl, log_le np.lo np.hi, _, _, rfl, rfl, ?_, _, hGi, by rw [List.length_map, List.length_map, List.length_take]; omega, ?_, same_put s4 hG2'⟩
      · rw [str_int q.2, Str.length_append, Str.length_append]
        omega
      · rw [upd_same, takeN hq, List.map_append, str_int q.2]
        rfl
    rintro H4 ⟨hG4, s4⟩
    rw [List.take_of_length_le (by omega)] at hG4
    refine ⟨l2, G2, _, _, rfl, rfl, s4 _ _ at3, hG4, ?_, fun x hx => ?_⟩
    · rw [List.length_append, List.length_map, List.length_map, List.length_map, List.length_map, List.length_singleton]
      omega
    · have sN := (s1.trans s23).trans s4
      refine k x _ (L2.Same.free sN hx) (Same.new sN hx) ?_
      rw [upd_same]
      unfold Lore.lines
      rw [List.map_cons, List.map_append]
      rfl
theorem ok_l_book (T : Txt K mg Z) : FnOk P w K mg base CX0 13 Z.f_l_book Z.d_l_book ["_law_lore_here"] (sp_l_book Z) := by
  refine T.F_l_book.ok sc_l_book (fun vs H Q E h => ?_) (fun cdv A outer s H vs Q E hr h => ?_)
  · obtain ⟨p, d, b, rfl, _⟩ := h
    rfl
  · obtain ⟨p, d, b, rfl, hd, ok, k⟩ := h
    have tn := ok.tn; have nn := ok.nn
    have ls := lines_sum ok
    refine ⟨_, (pss_one (ps_ret (pe_make (mkB T) (ok_B_init T) (hr.mono (by decide)) rfl T.g_Bk T.bn_B_init .nil pass0 (pa_cons (pe_join pe_str (pe_call (ok_l_lines T) (hr.mono (by decide)) rfl T.g_l_lines T.k_l_lines T.bn_l_lines .nil pass0 (pa_cons (pv 0) pa_nil))) pa_nil)))), ?_⟩
    refine ⟨⟨_, rfl⟩, _, rfl, p, d, b, rfl, hd, ok.fine, by omega, by omega, fun l H1 nl s1 hl => ?_⟩
    refine ⟨_, l, b.lines, rfl, rfl, .inl (SqL.of hl), by omega, fun x dx nx nd ne => ?_⟩
    exact ⟨x, dx, b, rfl, ok, upd_same, fun H' hb kp => ⟨rfl, k x H' (L2.Same.free s1 nx) (s1.trans (made nx nd kp)) hb⟩⟩
end
end TT

set_option maxHeartbeats 4000000
namespace TT
open PySem PySem.Spec PyProof.Rows L2 LamX TL
def eqN (p q : Int × Int) : Bool := (p.1 == q.1) && ((p.2 == q.2) && true)
def datN (p : Int × Int) : PyData := .tuple [.int p.1, .int p.2]
theorem eqN_dat (p q : Int × Int) : PyData.eqv (datN p) (datN q) = eqN p q := by
  unfold datN eqN
  simp only [PyData.eqv, PyData.eqvAll]
theorem eqN_iff {p q : Int × Int} : eqN p q = true ↔ p = q := by
  obtain ⟨a, b⟩ := p
  obtain ⟨c, d⟩ := q
  unfold eqN
  simp
theorem eqB_iff {r q : Row} : eqB r q = true ↔ r = q := by
  rw [eqB_eq]
  obtain ⟨f, s, l, a, d, b⟩ := r
  obtain ⟨f', s', l', a', d', b'⟩ := q
  simp
theorem tfs_inj {r q : Row} (h : tfs r = tfs q) : r = q := by
  have h1 : V.int r.f = V.int q.f := by have a := tfs_first r; rw [h, tfs_first q] at a; exact (Option.some.inj a).symm
  have h2 : V.int r.s = V.int q.s := by have a := tfs_second r; rw [h, tfs_second q] at a; exact (Option.some.inj a).symm
  have h3 : V.int r.l = V.int q.l := by have a := tfs_length r; rw [h, tfs_length q] at a; exact (Option.some.inj a).symm
  have h4 : V.int r.a = V.int q.a := by have a := tfs_amount r; rw [h, tfs_amount q] at a; exact (Option.some.inj a).symm
  have h5 : V.bl r.d = V.bl q.d := by have a := tfs_down r; rw [h, tfs_down q] at a; exact (Option.some.inj a).symm
  have h6 : V.bl r.b = V.bl q.b := by have a := tfs_backward r; rw [h, tfs_backward q] at a; exact (Option.some.inj a).symm
  obtain ⟨f, s, l, a, d, b⟩ := r
  obtain ⟨f', s', l', a', d', b'⟩ := q
  cases h1; cases h2; cases h3; cases h4; cases h5; cases h6
  rfl
theorem TieAt.uniq {C x : Addr} {H : Hp} {r q : Row} (h : TieAt C H x r) (g : TieAt C H x q) : r = q := by
  obtain ⟨dx, h⟩ := h
  obtain ⟨dy, g⟩ := g
  rw [h] at g
  injection g with g
  injection g with _ _ g
  exact tfs_inj g
/-- the ties of a tuple, each with the answer to == r -/
theorem Ties.es {C : Addr} {H : Hp} (r : Row) : ∀ {tr : List V} {ts : List Row}, Ties C H tr ts → ∃ es : List (Addr × Bool), (es.map fun e => V.ref e.1) = tr ∧ (∀ e ∈ es, ∃ t, TieAt C H e.1 t ∧ e.2 = eqB t r) ∧ es.any (·.2) = ts.any fun t => eqB t r
  | _, _, .nil => ⟨[], rfl, (fun _ h => nomatch h), rfl⟩
  | _, _, .cons (b := t) ⟨q, e, h⟩ rest => by
    obtain ⟨es, h1, h2, h3⟩ := Ties.es r rest
    refine ⟨(q, eqB t r) :: es, by rw [List.map_cons, h1, e], fun x hx => ?_, by rw [List.any_cons, List.any_cons, h3]⟩
    rcases List.mem_cons.mp hx with rfl | hx
    · exact ⟨t, h, rfl⟩
    · exact h2 x hx
theorem Notes.dps {K : PySem.W.Frag} {H : Hp} : ∀ {nr : List V} {ns : List (Int × Int)}, Notes H nr ns → DpAll K H nr (ns.map datN)
  | _, _, .nil => .nil
  | _, _, .cons ⟨q, e, h⟩ t => by
    subst e
    exact .cons (.tup (SqT.of h) (.cons (.int _) (.cons (.int _) .nil))) (Notes.dps t)
theorem datN_shaped (p : Int × Int) : SeqAt.shaped (datN p) = true := by
  unfold datN
  simp [SeqAt.shaped, PyData.canLay0, PyData.canLayAll0, PyData.depth, PyData.depthAll]
theorem datNs_lay (ns : List (Int × Int)) : PyData.canLayAll0 (ns.map datN) = true ∧ PyData.depthAll (ns.map datN) ≤ 1 := by
  induction ns with
  | nil => simp [PyData.canLayAll0, PyData.depthAll]
  | cons a t ih =>
    obtain ⟨h1, h2⟩ := ih
    rw [List.map_cons, PyData.canLayAll0, PyData.depthAll, h1]
    refine ⟨by unfold datN; simp [PyData.canLay0, PyData.canLayAll0], ?_⟩
    have : (datN a).depth ≤ 1 := by unfold datN; simp [PyData.depth, PyData.depthAll]
    omega
theorem RowsAt.dps {K : PySem.W.Frag} {H : Hp} : ∀ {tr : List V} {ts : List Row}, RowsAt H tr ts → DpAll K H tr (ts.map Row.dat)
  | _, _, .nil => .nil
  | _, _, .cons ⟨q, e, h⟩ t => by
    subst e
    exact .cons (Row.dp h) (RowsAt.dps t)
theorem rowD_shaped (r : Row) : SeqAt.shaped r.dat = true := by
  unfold Row.dat
  simp [SeqAt.shaped, PyData.canLay0, PyData.canLayAll0, PyData.depth, PyData.depthAll]
theorem rowDs_lay (ts : List Row) : PyData.canLayAll0 (ts.map Row.dat) = true ∧ PyData.depthAll (ts.map Row.dat) ≤ 1 := by
  induction ts with
  | nil => simp [PyData.canLayAll0, PyData.depthAll]
  | cons a t ih =>
    obtain ⟨h1, h2⟩ := ih
    rw [List.map_cons, PyData.canLayAll0, PyData.depthAll, h1]
    refine ⟨by unfold Row.dat; simp [PyData.canLay0, PyData.canLayAll0], ?_⟩
    have : (Row.dat a).depth ≤ 1 := by unfold Row.dat; simp [PyData.depth, PyData.depthAll]
    omega
theorem list_shaped {ds : List PyData} (h : PyData.canLayAll0 ds = true ∧ PyData.depthAll ds ≤ 1) : SeqAt.shaped (.list ds) = true := by
  obtain ⟨h1, h2⟩ := h
  unfold SeqAt.shaped
  rw [PyData.canLay0, h1, PyData.depth, decide_eq_true (by omega)] <;> rfl
theorem any_rows (ts : List Row) (q : Row) : (ts.map Row.dat).any (fun z => PyData.eqv z (Row.dat q)) = ts.any fun t => eqB t q := by
  rw [List.any_map]
  rfl
/-- signs below 128 alone -/
def Low (t : Str) : Prop := ∀ c ∈ tl t, c < 128
theorem Low.app {a b : Str} (h : Low a) (g : Low b) : Low (a ++ b) := fun c hc => by
  rw [tl_append] at hc
  rcases List.mem_append.mp hc with hc | hc
  · exact h c hc
  · exact g c hc
theorem Low.lit {a : Str} (h : (tl a).all (fun c => decide (c < 128)) = true) : Low a := fun c hc => of_decide_eq_true (List.all_eq_true.mp h c hc)
theorem Low.num {n : Int} (h : 0 ≤ n) : Low (Str.ofString (toString n)) := fun c hc => by
  rw [tl_int h] at hc
  refine Classical.not_not.mp fun z => ?_
  exact numL_free (s := c) (.inr (by omega)) hc
theorem Low.shown (n : Int) : Low (shownInt n) := by
  unfold shownInt
  split
  · exact Low.app (Low.lit (by decide +kernel)) (Low.num (by omega))
  · exact Low.num (by omega)
theorem Low.join {s : Str} (h : Low s) : ∀ {l : List Str}, (∀ p ∈ l, Low p) → Low (Txt.join s l) := by
  intro l hl c hc
  rw [show Txt.join s l = _ from join_eq _ _, tl_join] at hc
  have key : ∀ m : List (List Nat), (∀ q ∈ m, ∀ c ∈ q, c < 128) → ∀ c ∈ joinL (tl s) m, c < 128 := by
    intro m
    induction m with
    | nil => intro _ c z; simp [joinL] at z
    | cons a t ih =>
      intro hm c z
      cases t with
      | nil => exact hm a (by simp) c (by simpa [joinL] using z)
      | cons b t =>
        have z' : c ∈ a ++ (tl s ++ joinL (tl s) (b :: t)) := z
        rcases List.mem_append.mp z' with z' | z'
        · exact hm a (by simp) c z'
        · rcases List.mem_append.mp z' with z' | z'
          · exact h c z'
          · exact ih (fun q hq => hm q (List.mem_cons_of_mem _ hq)) c z'
  refine key _ (fun q hq => ?_) c hc
  obtain ⟨p, hp, rfl⟩ := List.mem_map.mp hq
  exact hl p hp
theorem Low.row {r : Row} (ok : r.Ok) (bk : Bool) : Low (rowText r bk) := by
  have hf := ok.f0; have hs := ok.s0; have hl := ok.l0
  unfold rowText
  refine Low.join (Low.lit (by decide +kernel)) fun p hp => ?_
  unfold wordsOf at hp
  rcases List.mem_append.mp hp with hp | hp
  · simp only [List.mem_cons, List.not_mem_nil, or_false] at hp
    rcases hp with rfl | rfl | rfl | rfl | rfl
    · exact Low.num hf
    · exact Low.num hs
    · exact Low.num (by omega)
    · unfold way
      split <;> exact Low.lit (by decide +kernel)
    · exact Low.shown _
  · split at hp
    · rw [List.mem_singleton.mp hp]
      exact Low.lit (by decide +kernel)
    · cases hp
theorem note_ok {q : Int × Int} {z : Int} (h : NoteIn q z) (hz : z ≤ 10 ^ 30) : (datN q).showable = true ∧ (datN q).hasDict = false ∧ (datN q).depth ≤ 1 ∧ (datN q).shown.length ≤ 200 := by
  have e30 : (10 : Int) ^ 30 < 10 ^ 64 := by decide +kernel
  have e60 : (10 : Int) ^ 60 < 10 ^ 64 := by decide +kernel
  have p0 := h.p0; have pz := h.pz; have lo := h.lo; have hi := h.hi
  have b1 : -(10 ^ 64) < q.1 ∧ q.1 < 10 ^ 64 := by constructor <;> omega
  have b2 : -(10 ^ 64) < q.2 ∧ q.2 < 10 ^ 64 := by constructor <;> omega
  refine ⟨?_, ?_, ?_, ?_⟩
  · unfold datN
    rw [PyData.showable]
    simp only [PyData.showableAll, int_ok64 b1.1 b1.2, int_ok64 b2.1 b2.2, Bool.true_and, Bool.and_true]
  · simp [datN, PyData.hasDict, PyData.hasDictAll]
  · simp [datN, PyData.depth, PyData.depthAll]
  · unfold datN
    rw [PyData.shown]
    simp only [PyData.shownAll]
    have j := join_length_add [(PyData.int q.1).shown, (PyData.int q.2).shown] (by simp)
    have z1 := int_len64 b1.1 b1.2; have z2 := int_len64 b2.1 b2.2
    rw [← shown_int] at z1 z2
    unfold tupleText
    rw [Str.length_append, Str.length_append]
    simp only [piled, List.map_cons, List.map_nil, List.sum_cons, List.sum_nil] at j
    have y1 : (Str.ofString "(").length = 1 := by decide
    have y2 : (Str.ofString ")").length = 1 := by decide
    simp only [List.length_cons, List.length_nil]
    have y3 : (Str.ofString (if (0 + 1 + 1 == 1) = true then ",)" else ")")).length = 1 := by decide
    omega
theorem row_shown {r : Row} (ok : r.Ok) : r.dat.shown.length ≤ 400 ∧ r.dat.depth ≤ 1 := by
  have e30 : (10 : Int) ^ 30 < 10 ^ 64 := by decide +kernel
  have e60 : (10 : Int) ^ 60 < 10 ^ 64 := by decide +kernel
  have f0 := ok.f0; have s0 := ok.s0; have l0 := ok.l0; have fe := ok.fe; have se := ok.se; have al := ok.al; have ah := ok.ah
  have bf : -(10 ^ 64) < r.f ∧ r.f < 10 ^ 64 := by constructor <;> omega
  have bs : -(10 ^ 64) < r.s ∧ r.s < 10 ^ 64 := by constructor <;> omega
  have bl : -(10 ^ 64) < r.l ∧ r.l < 10 ^ 64 := by constructor <;> omega
  have ba : -(10 ^ 64) < r.a ∧ r.a < 10 ^ 64 := by constructor <;> omega
  refine ⟨?_, by simp [Row.dat, PyData.depth, PyData.depthAll]⟩
  unfold Row.dat
  rw [PyData.shown]
  simp only [PyData.shownAll]
  have j := join_length_add [(PyData.int r.f).shown, (PyData.int r.s).shown, (PyData.int r.l).shown, (PyData.int r.a).shown, (PyData.bool r.d).shown, (PyData.bool r.b).shown] (by simp)
  have z1 := int_len64 bf.1 bf.2; have z2 := int_len64 bs.1 bs.2; have z3 := int_len64 bl.1 bl.2; have z4 := int_len64 ba.1 ba.2; have z5 := bool_len r.d; have z6 := bool_len r.b
  rw [← shown_int] at z1 z2 z3 z4
  unfold tupleText
  rw [Str.length_append, Str.length_append]
  simp only [piled, List.map_cons, List.map_nil, List.sum_cons, List.sum_nil] at j
  have y1 : (Str.ofString "(").length = 1 := by decide
  have y2 : (Str.ofString ")").length = 1 := by decide
  simp only [List.length_cons, List.length_nil]
  have y3 : (Str.ofString (if (0 + 1 + 1 + 1 + 1 + 1 + 1 == 1) = true then ",)" else ")")).length = 1 := by decide
  omega
/-- data that can be shown, each of so many signs -/
structure Shows (ds : List PyData) (n : Nat) : Prop where
  s : PyData.showableAll ds = true
  d : PyData.hasDictAll ds = false
  dp : PyData.depthAll ds ≤ 1
  l : ((PyData.shownAll ds).map fun t => t.length + 2).sum ≤ n
theorem shows_map {α : Type} {f : α → PyData} {m : Nat} {l : List α} (h : ∀ x ∈ l, (f x).showable = true ∧ (f x).hasDict = false ∧ (f x).depth ≤ 1 ∧ (f x).shown.length ≤ m) : Shows (l.map f) (l.length * (m + 2)) := by
  induction l with
  | nil => exact ⟨by simp [PyData.showableAll], by simp [PyData.hasDictAll], by simp [PyData.depthAll], by simp [PyData.shownAll]⟩
  | cons a t ih =>
    obtain ⟨h1, h2, h3, h4⟩ := h a (by simp)
    have i := ih fun x hx => h x (List.mem_cons_of_mem _ hx)
    refine ⟨?_, ?_, ?_, ?_⟩
    · rw [List.map_cons, PyData.showableAll, h1, i.s] <;> rfl
    · rw [List.map_cons, PyData.hasDictAll, h2, i.d] <;> rfl
    · rw [List.map_cons, PyData.depthAll]
      have := i.dp
      omega
    · rw [List.map_cons, PyData.shownAll, List.map_cons, List.sum_cons, List.length_cons, Nat.succ_mul]
      have := i.l
      omega
theorem piled_sum (ts : List Str) : piled ts = (ts.map (·.length)).sum + 2 * ts.length := by
  induction ts with
  | nil => rfl
  | cons a t ih =>
    rw [piled_cons, ih, List.map_cons, List.sum_cons, List.length_cons]
    omega
theorem list_len (ts : List Str) : (listText ts).length ≤ piled ts + 2 := by
  have h := textFrom_len_le ts 0 "["
  have hX : (listText ts).length = (textFrom 0 "[" ts).length + 1 := by
    show (textFrom 0 "[" ts ++ "]").length = _
    rw [Str.length_append]
    rfl
  have y1 : ((("[" : String) : Str)).length = 1 := by decide
  rw [piled_sum]
  omega
theorem seq_len {ds : List PyData} {n : Nat} (h : Shows ds n) : (PyData.list ds).shown.length ≤ n + 10 ∧ (PyData.tuple ds).shown.length ≤ n + 10 := by
  have j : ∀ ts : List Str, (Str.join ", " ts).length ≤ piled ts := fun ts => by
    cases ts with
    | nil => exact Nat.zero_le _
    | cons a t =>
      have := join_length_add (a :: t) (by simp)
      omega
  have y1 : (Str.ofString "[").length = 1 := by decide
  have y2 : (Str.ofString "]").length = 1 := by decide
  have y3 : (Str.ofString "(").length = 1 := by decide
  have y4 : (Str.ofString ")").length = 1 := by decide
  have y5 : (Str.ofString ",)").length = 2 := by decide
  have y6 : (Str.ofString "()").length = 2 := by decide
  have hl := h.l
  have jj := j (PyData.shownAll ds)
  unfold piled at jj
  constructor
  · rw [PyData.shown]
    have := list_len (PyData.shownAll ds)
    unfold piled at this
    omega
  · rw [PyData.shown]
    unfold tupleText
    rw [Str.length_append, Str.length_append]
    have y7 : (Str.ofString (if ((PyData.shownAll ds).length == 1) = true then ",)" else ")")).length ≤ 2 := by
      split
      · omega
      · omega
    omega
theorem bfs_none (t : Str) (z : Int) (ta na : Addr) {g : Str} (h1 : ¬ g = "notes") (h2 : ¬ g = "ties") (h3 : ¬ g = "size") (h4 : ¬ g = "text") : (bfs t z ta na).lookup g = none := by
  rw [bfs_lookup, if_neg h1, if_neg h2, if_neg h3, if_neg h4]
theorem TieAt.extN {C x : Addr} {H H' : Hp} {r : Row} (e : ExtN H H') (h : TieAt C H x r) : TieAt C H' x r := by
  obtain ⟨dx, h⟩ := h
  exact ⟨dx, e _ _ h fun _ z => nomatch z⟩
theorem Ties.extN {C : Addr} {H H' : Hp} (s : ExtN H H') {xs : List V} {ts : List Row} (h : Ties C H xs ts) : Ties C H' xs ts := Paired.imp (fun _ _ ⟨q, e, t⟩ => ⟨q, e, t.extN s⟩) h
theorem Notes.extN {H H' : Hp} (s : ExtN H H') {xs : List V} {ns : List (Int × Int)} (h : Notes H xs ns) : Notes H' xs ns := Paired.imp (fun _ _ ⟨q, e, t⟩ => ⟨q, e, s _ _ t fun _ z => nomatch z⟩) h
theorem RowsAt.extN {H H' : Hp} (s : ExtN H H') {xs : List V} {ts : List Row} (h : RowsAt H xs ts) : RowsAt H' xs ts := Paired.imp (fun _ _ ⟨q, e, t⟩ => ⟨q, e, s _ _ t fun _ z => nomatch z⟩) h
theorem LoreAt.extN {H H' : Hp} {p d : Addr} {b : Lore} (s : ExtN H H') (h : LoreAt H p d b) : LoreAt H' p d b := by
  obtain ⟨ta, na, tr, nr, h⟩ := h
  exact ⟨ta, na, tr, nr, s _ _ h.dic (fun _ z => nomatch z), s _ _ h.ties (fun _ z => nomatch z), s _ _ h.notes (fun _ z => nomatch z), h.tp, h.np, h.ts.extN s, h.ns.extN s⟩
theorem BookAt.extN {C B : Addr} {H H' : Hp} (s : ExtN H H') {q : Addr} {t : Str} {b : Lore} (h : BookAt C B H q t b) : BookAt C B H' q t b := by
  obtain ⟨dx, ta, na, tr, nr, h⟩ := h
  exact ⟨dx, ta, na, tr, nr, s _ _ h.ins (fun _ z => nomatch z), s _ _ h.ties (fun _ z => nomatch z), s _ _ h.notes (fun _ z => nomatch z), h.ts.extN s, h.ns.extN s⟩
theorem Paired.rep {α β : Type} {F : α → β → Prop} {a : α} {b : β} (h : F a b) : ∀ n : Nat, Paired F (List.replicate n a) (List.replicate n b)
  | 0 => .nil
  | n + 1 => .cons h (Paired.rep h n)
theorem Ties.keep {C : Addr} {H H' : Hp} {p : Addr} {n : Nat} (k : Keep p H H') (hp : Pot H p n) {xs : List V} {ts : List Row} (h : Ties C H xs ts) : Ties C H' xs ts :=
  Paired.imp (fun _ _ ⟨q, e, dx, t⟩ => ⟨q, e, dx, k _ _ (hp.off t fun _ z => nomatch z) t⟩) h
theorem BookAt.keep {C B : Addr} {H H' : Hp} {p : Addr} {n : Nat} (k : Keep p H H') (hp : Pot H p n) {q : Addr} {t : Str} {b : Lore} (h : BookAt C B H q t b) : BookAt C B H' q t b := by
  obtain ⟨dx, ta, na, tr, nr, h⟩ := h
  exact ⟨dx, ta, na, tr, nr, k _ _ (hp.off h.ins fun _ z => nomatch z) h.ins, k _ _ (hp.off h.ties fun _ z => nomatch z) h.ties, k _ _ (hp.off h.notes fun _ z => nomatch z) h.notes, h.ts.keep k hp, h.ns.keep k hp⟩
theorem LoreIs.same {H H' : Hp} {p d ta na : Addr} {b : Lore} {tr nr : List V} (h : LoreIs H p d b ta na tr nr) (s : Same H H') : LoreIs H' p d b ta na tr nr :=
  ⟨s _ _ h.dic, s _ _ h.ties, s _ _ h.notes, h.tp, h.np, h.ts.same s, h.ns.same s⟩
end TT

namespace TT
open PySem PySem.Spec PyProof.Rows L2 LamX
/-! ### the law's own words for an error; one row judged -/
structure Nice (d : PyData) : Prop where
  sh : Shown d
  st : PyData.strOk d.shown = true
section
variable {P : Program} {w : World} {K : PySem.W.Frag} {mg : Str → Option Value} {base : Heap} {Z : Zs}
end
end TT

namespace TT
open PySem PySem.Spec PyProof.Rows L2 LamX
/-! ### data whose texts are fine; rows of ints judged -/
theorem strOk_of (x : String) : PyData.strOk (Str.ofString x) = true := by
  unfold PyData.strOk
  rw [Array.all_eq_true_iff_forall_mem]
  intro c hc
  rw [Str.ofString_eq_toList] at hc
  simp only [List.mem_toArray, List.mem_map] at hc
  obtain ⟨ch, _, rfl⟩ := hc
  have := ch.valid
  unfold UInt32.isValidChar Nat.isValidChar at this
  have h1 : ch.toNat < 1114112 := by
    show ch.val.toNat < 1114112
    omega
  simpa using h1
theorem nice_i {i : Int} (h0 : -(10 ^ 64) < i) (h1 : i < 10 ^ 64) : Nice (.int i) := by
  refine ⟨shown_i h0 h1, ?_⟩
  rw [shown_int]
  exact strOk_of _
theorem menu_ok : menu.all (fun d => PyData.strOk d.shown) = true := by decide +kernel
theorem nice_menu {d : PyData} (h : d ∈ menu) : Nice d := ⟨shown_menu h, List.all_eq_true.mp menu_ok d h⟩
theorem nice_b (b : Bool) : Nice (.bool b) := by
  cases b
  · exact nice_menu (by simp [menu])
  · exact nice_menu (by simp [menu])
end TT


set_option maxHeartbeats 4000000
namespace TT
open PySem PySem.Spec PyProof.Rows L2 LamX TL
/-! ### texts that tell the same; what a book is asked -/
theorem str_num_inj {a b : Int} (ha : 0 ≤ a) (hb : 0 ≤ b) (e : Str.ofString (toString a) = Str.ofString (toString b)) : a = b := by
  have h1 := read_int ha
  rw [e, read_int hb] at h1
  exact (Option.some.inj h1).symm
theorem shown_inj {a b : Int} (e : shownInt a = shownInt b) : a = b := by
  have h1 := read_shown a
  rw [e, read_shown b] at h1
  exact (Option.some.inj h1).symm
theorem way_inj {a b : Bool} (e : way a = way b) : a = b := by
  cases a <;> cases b
  · rfl
  · exact absurd e (by decide +kernel)
  · exact absurd e (by decide +kernel)
  · rfl
theorem rowText_inj {r q : Row} (h : r.Ok) (g : q.Ok) (e : rowText r r.b = rowText q q.b) : r = q := by
  have h1 := split_row h r.b
  have h2 := split_row g q.b
  rw [e, h2] at h1
  have hb : r.b = q.b := by
    have := congrArg List.length h1
    unfold wordsOf at this
    cases c : r.b <;> cases c2 : q.b <;> first | rfl | (rw [c, c2] at this; simp at this)
  unfold wordsOf at h1
  rw [hb] at h1
  have h3 := (List.append_inj h1 (by rfl)).1
  simp only [List.cons.injEq] at h3
  obtain ⟨e1, e2, e3, e4, e5, _⟩ := h3
  obtain ⟨f, s, l, a, d, b⟩ := r
  obtain ⟨f', s', l', a', d', b'⟩ := q
  have x1 := str_num_inj g.f0 h.f0 e1
  have x2 := str_num_inj g.s0 h.s0 e2
  have x3 := str_num_inj (by have := g.l0; omega) (by have := h.l0; omega) e3
  have x4 := way_inj e4
  have x5 := shown_inj e5
  dsimp only at x1 x2 x3 x4 x5 hb
  subst x1 x2 x3 x4 x5 hb
  rfl
theorem tieL_inj {r q : Row} (h : r.Ok) (g : q.Ok) (e : tieL r = tieL q) : r = q := by
  have h1 := tie_parts r
  rw [e, tie_parts q] at h1
  exact rowText_inj h g (congrArg (fun p => p.2.2) h1).symm
theorem tie_note {r : Row} {q : Int × Int} (e : tieL r = noteL q) : False := by
  have h1 := tie_parts r
  rw [e, note_parts q] at h1
  have : Str.ofString "note" = Str.ofString "tie" := congrArg (fun p => p.1) h1
  exact absurd this (by decide +kernel)
theorem noteL_inj {p q : Int × Int} (hp : 0 ≤ p.1) (hq : 0 ≤ q.1) (e : noteL p = noteL q) : p = q := by
  have h1 := note_split hp
  rw [e, note_split hq] at h1
  simp only [List.cons.injEq] at h1
  obtain ⟨_, e1, e2, _⟩ := h1
  obtain ⟨a, b⟩ := p
  obtain ⟨c, d⟩ := q
  have x1 := str_num_inj hq hp e1
  have x2 := shown_inj e2
  dsimp only at x1 x2
  subst x1 x2
  rfl
theorem notes_inj : ∀ {ns ms : List (Int × Int)}, (∀ p ∈ ns, 0 ≤ p.1) → (∀ p ∈ ms, 0 ≤ p.1) → ns.map noteL = ms.map noteL → ns = ms
  | [], [], _, _, _ => rfl
  | [], _ :: _, _, _, e => nomatch e
  | _ :: _, [], _, _, e => nomatch e
  | a :: ns, b :: ms, h, g, e => by
    obtain ⟨e1, e2⟩ := List.cons.inj e
    rw [noteL_inj (h a (by simp)) (g b (by simp)) e1, notes_inj (fun p hp => h p (List.mem_cons_of_mem _ hp)) (fun p hp => g p (List.mem_cons_of_mem _ hp)) e2]
theorem tails_inj : ∀ {ts us : List Row} {ns ms : List (Int × Int)}, (∀ r ∈ ts, r.Ok) → (∀ r ∈ us, r.Ok) → (∀ p ∈ ns, 0 ≤ p.1) → (∀ p ∈ ms, 0 ≤ p.1) → ts.map tieL ++ ns.map noteL = us.map tieL ++ ms.map noteL → ts = us ∧ ns = ms
  | [], [], _, _, _, _, h, g, e => ⟨rfl, notes_inj h g e⟩
  | [], u :: us, [], _, _, _, _, _, e => nomatch e
  | [], u :: us, n :: ns, _, _, _, _, _, e => (tie_note (List.cons.inj e).1.symm).elim
  | t :: ts, [], _, [], _, _, _, _, e => nomatch e
  | t :: ts, [], _, m :: ms, _, _, _, _, e => (tie_note (List.cons.inj e).1).elim
  | t :: ts, u :: us, _, _, h1, h2, h3, h4, e => by
    obtain ⟨e1, e2⟩ := List.cons.inj e
    obtain ⟨i1, i2⟩ := tails_inj (fun r hr => h1 r (List.mem_cons_of_mem _ hr)) (fun r hr => h2 r (List.mem_cons_of_mem _ hr)) h3 h4 e2
    exact ⟨by rw [tieL_inj (h1 t (by simp)) (h2 u (by simp)) e1, i1], i2⟩
theorem text_inj {b c : Lore} (h : b.Fine) (g : c.Fine) : b.text = c.text ↔ b = c := by
  constructor
  · intro e
    have h1 := split_text h
    rw [e, split_text g] at h1
    obtain ⟨e1, e2⟩ := List.cons.inj h1
    have z0 := h.z0; have z1 := g.z0
    have s1 := size_split (z := b.z) (by omega)
    rw [← e1, size_split (z := c.z) (by omega)] at s1
    simp only [List.cons.injEq] at s1
    have ez := str_num_inj (by omega) (by omega) s1.2.1
    obtain ⟨i1, i2⟩ := tails_inj (fun r hr => (g.ts r hr).ok) (fun r hr => (h.ts r hr).ok) (fun p hp => (g.ns p hp).p0) (fun p hp => (h.ns p hp).p0) e2
    obtain ⟨z, ts, ns⟩ := b
    obtain ⟨z', ts', ns'⟩ := c
    dsimp only at ez i1 i2
    subst ez i1 i2
    rfl
  · rintro rfl
    rfl
theorem rows_eqv : ∀ {ts us : List Row}, PyData.eqv (.list (ts.map Row.dat)) (.list (us.map Row.dat)) = true ↔ ts = us
  | [], [] => by simp [PyData.eqv, PyData.eqvAll]
  | [], _ :: _ => by simp [PyData.eqv, PyData.eqvAll]
  | _ :: _, [] => by simp [PyData.eqv, PyData.eqvAll]
  | t :: ts, u :: us => by
    have ih := rows_eqv (ts := ts) (us := us)
    simp only [PyData.eqv] at ih
    simp only [List.map_cons, PyData.eqv, PyData.eqvAll, Bool.and_eq_true, ih]
    have e : PyData.eqv (Row.dat t) (Row.dat u) = eqB t u := rfl
    rw [e, eqB_iff]
    simp
theorem notes_eqv : ∀ {ns ms : List (Int × Int)}, PyData.eqv (.list (ns.map datN)) (.list (ms.map datN)) = true ↔ ns = ms
  | [], [] => by simp [PyData.eqv, PyData.eqvAll]
  | [], _ :: _ => by simp [PyData.eqv, PyData.eqvAll]
  | _ :: _, [] => by simp [PyData.eqv, PyData.eqvAll]
  | n :: ns, m :: ms => by
    have ih := notes_eqv (ns := ns) (ms := ms)
    simp only [PyData.eqv] at ih
    simp only [List.map_cons, PyData.eqv, PyData.eqvAll, Bool.and_eq_true, ih, eqN_dat, eqN_iff]
    simp
def loreEq (b c : Lore) : Bool := PyData.eqv (.int b.z) (.int c.z) && (PyData.eqv (.list (b.ts.map Row.dat)) (.list (c.ts.map Row.dat)) && (PyData.eqv (.list (b.ns.map datN)) (.list (c.ns.map datN)) && true))
theorem loreEq_iff {b c : Lore} : loreEq b c = true ↔ b = c := by
  unfold loreEq
  rw [Bool.and_eq_true, Bool.and_eq_true, Bool.and_true, rows_eqv, notes_eqv]
  obtain ⟨z, ts, ns⟩ := b
  obtain ⟨z', ts', ns'⟩ := c
  simp [PyData.eqv]
theorem lore_hits {K : PySem.W.Frag} {H : Hp} {p d e : Addr} {b c : Lore} {ta na tb nb : Addr} {tr nr ts ns : List V} (h : LoreIs H p d b ta na tr nr) (g : LoreIs H p e c tb nb ts ns) : DHits K H (loreK c.z tb nb) (loreK b.z ta na) (loreEq b c) := by
  refine .cons (u := .int c.z) ?_ (.int _) (.int _) (by simp [SeqAt.shaped, PyData.canLay0, PyData.depth]) (by simp [SeqAt.shaped, PyData.canLay0, PyData.depth]) (.cons (u := .ref tb) ?_ (.lst (SqL.of h.ties) h.ts.dps) (.lst (SqL.of g.ties) g.ts.dps) (list_shaped (rowDs_lay _)) (list_shaped (rowDs_lay _)) (.cons (u := .ref nb) ?_ (.lst (SqL.of h.notes) h.ns.dps) (.lst (SqL.of g.notes) g.ns.dps) (list_shaped (datNs_lay _)) (list_shaped (datNs_lay _)) .nil))
  · exact valV_pos rfl
  · exact (valV_neg (fun e => absurd (Sum.inr.inj e) (by decide +kernel))).trans (valV_pos rfl)
  · exact (valV_neg (fun e => absurd (Sum.inr.inj e) (by decide +kernel))).trans ((valV_neg (fun e => absurd (Sum.inr.inj e) (by decide +kernel))).trans (valV_pos rfl))
/-- a thing that is none of the class at C -/
def NotC (K : PySem.W.Frag) (C : Addr) (H : Hp) (v : V) : Prop := ∃ t, TyX K H v t ∧ PySem.W.kitOne K t (.ref C) = some false
def sp_B_eq (K : PySem.W.Frag) (Z : Zs) : Sp := fun vs H Q _ => (∃ (a c : Addr) (t u : Str) (b d : Lore), vs = [.ref a, .ref c] ∧ BookAt Z.cC Z.cB H a t b ∧ BookAt Z.cC Z.cB H c u d ∧ Q (.bl (decide (t = u))) H) ∨
  ∃ (a : Addr) (t : Str) (b : Lore) (v : V), vs = [.ref a, v] ∧ BookAt Z.cC Z.cB H a t b ∧ NotC K Z.cB H v ∧ Q (.bl false) H
def sp_B_len (Z : Zs) : Sp := fun vs H Q _ => ∃ (a : Addr) (t : Str) (b : Lore), vs = [.ref a] ∧ BookAt Z.cC Z.cB H a t b ∧ Q (.int (b.ts.length : Int)) H
def sp_B_getitem (K : PySem.W.Frag) (Z : Zs) : Sp := fun vs H Q E => ∃ (a : Addr) (t : Str) (b : Lore) (v : V), vs = [.ref a, v] ∧ BookAt Z.cC Z.cB H a t b ∧ b.ts.length ≤ 1000 ∧
  ((∃ (j : Nat) (r : Row), v = .int (j : Int) ∧ b.ts[j]? = some r ∧ ∀ q, TieAt Z.cC H q r → Q (.ref q) H) ∨ (∃ o, IsI K H v o ∧ (∀ i, o = some i → ¬ (0 ≤ i ∧ i < b.ts.length)) ∧ Out E (Z.c 0) v H))
def sp_B_contains (K : PySem.W.Frag) (Z : Zs) : Sp := fun vs H Q _ => (∃ (a q : Addr) (t : Str) (b : Lore) (r : Row), vs = [.ref a, .ref q] ∧ BookAt Z.cC Z.cB H a t b ∧ TieAt Z.cC H q r ∧ Q (.bl (b.ts.any fun t => eqB t r)) H) ∨
  ∃ (a : Addr) (t : Str) (b : Lore) (v : V), vs = [.ref a, v] ∧ BookAt Z.cC Z.cB H a t b ∧ NotC K Z.cC H v ∧ Q (.bl false) H
section
variable {P : Program} {w : World} {K : PySem.W.Frag} {mg : Str → Option Value} {base : Heap} {Z : Zs}
theorem Odd.notC (T : Txt K mg Z) {p : Addr} {H : Hp} {v : V} {dd : PyData} (o : Odd p H v dd) : NotC K Z.cC H v := by
  cases o with
  | fl h =>
    cases h with
    | non => exact ⟨_, .base .non, T.z_kitN⟩
    | bl b => exact ⟨_, .base (.bl b), T.z_kitO⟩
    | int i => exact ⟨_, .base (.int i), T.z_kitI⟩
    | str x => exact ⟨_, .base (.str x), T.z_kitS⟩
  | t n h f => exact ⟨_, .base (.tup h), T.z_kitT⟩
  | l n h f => exact ⟨_, .base (.lst h), T.z_kitL⟩
  | tt n m h h2 => exact ⟨_, .base (.tup h), T.z_kitT⟩
  | d0 n h => exact ⟨_, .base (.dK h), T.z_kitD⟩
  | d1 n h => exact ⟨_, .base (.dK h), T.z_kitD⟩
theorem ok_B_eq (T : Txt K mg Z) : FnOk P w K mg base CX0 1 Z.f_B_eq Z.d_B_eq ["self", "other"] (sp_B_eq K Z) := by
  refine T.F_B_eq.ok sc_B_eq (fun vs H Q E h => ?_) (fun cdv A outer s H vs Q E hr h => ?_)
  · rcases h with ⟨a, c, t, u, b, d, rfl, _⟩ | ⟨a, t, b, v, rfl, _⟩ <;> rfl
  · refine ⟨_, (pss_one (ps_ret (pe_and (pe_callB  call_isi (by rfl) T.b_isinstance (by decide +kernel) (pa_cons (pv 1) (pa_cons (pe_glob (v := .ref Z.cB) rfl T.g_Bk rfl) pa_nil))) (pe_one (pe_cmpR op_eq (pe_fld (pv 0) rfl) (pe_fld (pv 1) rfl) (nomark _)))))), ?_⟩
    rcases h with ⟨a, c, t, u, b, d, rfl, ⟨dx, ta, na, tr, nr, ba⟩, ⟨dy, tc, nc, tr', nr', bc⟩, k⟩ | ⟨a, t, b, v, rfl, _, ⟨ty, h1, h2⟩, k⟩
    · refine ⟨_, rfl, _, _, _, _, true, rfl, .own Z.cB, .base (.ins bc.ins T.clB T.z_clsB T.z_get T.z_tk T.z_mroB), T.z_kitB, true, rfl, iteT ?_⟩
      refine ⟨_, rfl, a, _, dx, _, _, rfl, ba.ins, T.clB, T.nB_text, bfs_text _ _ _ _, _, rfl, c, _, dy, _, _, rfl, bc.ins, T.clB, T.nB_text, bfs_text _ _ _ _, rfl, ?_⟩
      have e : decide (V.str t = V.str u) = decide (t = u) := by
        by_cases q : t = u
        · rw [decide_eq_true q, q, decide_eq_true rfl]
        · rw [decide_eq_false q, decide_eq_false fun z => q (V.str.inj z)]
      rw [e]
      exact k
    · exact ⟨_, rfl, _, _, _, _, false, rfl, .own Z.cB, h1, h2, false, rfl, iteF k⟩
theorem ok_B_len (T : Txt K mg Z) : FnOk P w K mg base CX0 1 Z.f_B_len Z.d_B_len ["self"] (sp_B_len Z) := by
  refine T.F_B_len.ok sc_B_len (fun vs H Q E h => ?_) (fun cdv A outer s H vs Q E hr h => ?_)
  · obtain ⟨a, t, b, rfl, _⟩ := h
    rfl
  · obtain ⟨a, t, b, rfl, ⟨dx, ta, na, tr, nr, ba⟩, k⟩ := h
    have lt := Paired.len ba.ts
    rw [← lt] at k
    refine ⟨_, (pss_one (ps_ret (pe_callB  call_len (by rfl) T.b_len (by decide +kernel) (pa_cons (pe_fld (pv 0) rfl) pa_nil)))), ?_⟩
    exact ⟨_, rfl, a, _, dx, _, _, rfl, ba.ins, T.clB, T.nB_ties, bfs_ties _ _ _ _, _, _, rfl, .inr ⟨_, SqT.of ba.ties, rfl⟩, k⟩
theorem ok_B_getitem (T : Txt K mg Z) : FnOk P w K mg base (L2.CX P w) 4 Z.f_B_getitem Z.d_B_getitem ["self", "at"] (sp_B_getitem K Z) := by
  refine T.F_B_getitem.okX sc_B_getitem (fun vs H Q E h => ?_) (fun cdv A outer s H vs Q E hr h => ?_)
  · obtain ⟨a, t, b, v, rfl, _⟩ := h
    rfl
  · obtain ⟨a, t, b, v, rfl, ⟨dx, ta, na, tr, nr, ba⟩, len, h⟩ := h
    have X0 := T.ex 0 (by decide)
    have lt := Paired.len ba.ts
    refine ⟨_, (pss_cons (ps_if (pt_not (pt_val (pe_call (ok_is_between T) (hr.mono (by decide)) rfl T.g_is_between T.k_is_between T.bn_is_between .nil pass0 (pa_cons (pv 1) (pa_cons pe_int (pa_cons (pe_op op_sub (pe_callB  call_len (by rfl) T.b_len (by decide +kernel) (pa_cons (pe_fld (pv 0) rfl) pa_nil)) pe_int) pa_nil)))))) (pss_one (ps_raise rfl (takes_of rfl rfl rfl rfl) (pmk_oex (T.ex 0 (by decide)).ox (T.ex 0 (by decide)).ini T.t_E_init (ok_E_init T) (hr.mono (by decide)) T.bn_E_init .nil pass0 rfl T.g_NoTie (pa_cons (pv 1) pa_nil)))) pss_nil)
      (pss_one (ps_ret (pe_ix ix_tup (pe_fld (pv 0) rfl) (pv 1) (fun _ _ => rfl))))), ?_⟩
    refine ⟨_, rfl, ?_⟩
    refine ⟨_, rfl, a, _, dx, _, _, rfl, ba.ins, T.clB, T.nB_ties, bfs_ties _ _ _ _, _, _, rfl, .inr ⟨_, SqT.of ba.ties, rfl⟩, _, _, rfl, rfl, ?_⟩
    rcases h with ⟨j, r, rfl, hj, k⟩ | ⟨o, hv, bad, out⟩
    · have jl := (List.getElem?_eq_some_iff.mp hj).1
      refine .inl ⟨(j : Int), 0, _, rfl, true, ?_, iteF ?_⟩
      · rw [decide_eq_true (by omega), decide_eq_true (by omega)] <;> rfl
      obtain ⟨v, hv⟩ : ∃ v, tr[j]? = some v := ⟨_, List.getElem?_eq_getElem (by omega)⟩
      obtain ⟨r', hr', q, rfl, hq⟩ := Paired.at ba.ts hv
      rw [hj] at hr'
      obtain rfl := Option.some.inj hr'
      refine ⟨_, rfl, a, _, dx, _, _, rfl, ba.ins, T.clB, T.nB_ties, bfs_ties _ _ _ _, _, rfl, ta, tr, _, _, rfl, rfl, SqT.of ba.ties, atI_nat hv, k q hq⟩
    · cases hv with
      | int i =>
        have := bad i rfl
        refine .inl ⟨i, 0, _, rfl, false, ?_, iteT ⟨_, rfl, mkR X0 out⟩⟩
        by_cases c : 0 ≤ i
        · rw [decide_eq_true c, decide_eq_false (by omega)] <;> rfl
        · rw [decide_eq_false c] <;> rfl
      | no hw => exact .inr ⟨v, _, _, rfl, hw, false, rfl, iteT ⟨_, rfl, mkR X0 out⟩⟩
theorem ok_B_contains (T : Txt K mg Z) : FnOk P w K mg base CX0 3 Z.f_B_contains Z.d_B_contains ["self", "x"] (sp_B_contains K Z) := by
  refine T.F_B_contains.ok sc_B_contains (fun vs H Q E h => ?_) (fun cdv A outer s H vs Q E hr h => ?_)
  · rcases h with ⟨a, q, t, b, r, rfl, _⟩ | ⟨a, t, b, v, rfl, _⟩ <;> rfl
  · refine ⟨_, (pss_one (ps_ret (pe_and (pe_callB  call_isi (by rfl) T.b_isinstance (by decide +kernel) (pa_cons (pv 1) (pa_cons (pe_glob (v := .ref Z.cC) rfl T.g_C rfl) pa_nil))) (pe_one (pe_cmpR (r := rNotInO K Z.cC (sp_T_eqB Z) E0 false) (op_inO (ok_T_eqB T) T.a_T_eq T.i_T_eq T.bn_T_eq pass0 (hr.mono (by decide))) (pv 1) (pe_fld (pv 0) rfl) (by with_unfolding_all rfl)))))), ?_⟩
    rcases h with ⟨a, q, t, b, r, rfl, ⟨dx, ta, na, tr, nr, ba⟩, hq, k⟩ | ⟨a, t, b, v, rfl, _, ⟨ty, h1, h2⟩, k⟩
    · obtain ⟨dq, hq'⟩ := id hq
      refine ⟨_, rfl, _, _, _, _, true, rfl, .own Z.cC, .base (.ins hq' T.cl T.z_cls T.z_get T.z_tk T.z_mro), T.z_kit, true, rfl, iteT ?_⟩
      obtain ⟨es, h1, h2, h3⟩ := Ties.es r ba.ts
      have hta := ba.ties
      rw [← h1] at hta
      refine ⟨_, rfl, _, rfl, a, _, dx, _, _, rfl, ba.ins, T.clB, T.nB_ties, bfs_ties _ _ _ _, q, ta, es, rfl, rfl, SqT.of hta, hq.imp fun _ e => ⟨_, e⟩, fun e he => ?_, fun e he f hf eq => ?_, ?_⟩
      · obtain ⟨t', ht, e2⟩ := h2 e he
        refine ⟨ht.imp fun _ e => ⟨_, e⟩, fun eq => ?_, e.1, .ref q, t', rfl, ht, .inl ⟨q, r, rfl, hq, by rw [e2], rfl⟩⟩
        rw [eq] at ht
        rw [e2, ht.uniq hq]
        exact eqB_iff.mpr rfl
      · obtain ⟨t', ht, e2⟩ := h2 e he
        obtain ⟨t2, ht', e2'⟩ := h2 f hf
        rw [eq] at ht
        rw [e2, e2', ht.uniq ht']
      · show Q (.bl (es.any (·.2))) H
        rw [h3]
        exact k
    · exact ⟨_, rfl, _, _, _, _, false, rfl, .own Z.cC, h1, h2, false, rfl, iteF k⟩
end
end TT

set_option maxHeartbeats 4000000
namespace TT
open PySem PySem.Spec PyProof.Rows L2 LamX TL
/-! ### whether a book tells what its lines do -/
theorem Low.text {b : Lore} (h : b.Fine) : Low b.text := by
  have z0 := h.z0
  refine Low.join (Low.lit (by decide +kernel)) fun p hp => ?_
  unfold Lore.lines at hp
  rcases List.mem_cons.mp hp with rfl | hp
  · exact Low.app (Low.lit (by decide +kernel)) (Low.num (by omega))
  · rcases List.mem_append.mp hp with hp | hp
    · obtain ⟨r, hr, rfl⟩ := List.mem_map.mp hp
      exact Low.app (Low.lit (by decide +kernel)) (Low.row (h.ts r hr).ok _)
    · obtain ⟨r, hr, rfl⟩ := List.mem_map.mp hp
      exact Low.app (Low.app (Low.app (Low.lit (by decide +kernel)) (Low.num (h.ns r hr).p0)) (Low.lit (by decide +kernel))) (Low.shown _)
def datB (b : Lore) : PyData := .list [.str b.text, .int b.z, .list (b.ts.map Row.dat), .tuple (b.ns.map datN), .int b.ts.length, .bool true]
theorem datB_ok {b : Lore} (ok : b.Ok) : (datB b).showable = true ∧ (datB b).hasDict = false ∧ (datB b).depth ≤ 60 ∧ (datB b).shown.length ≤ sizeLine := by
  have sl : sizeLine = 16777216 := sizeLine_eq
  have e30 : (10 : Int) ^ 30 < 10 ^ 64 := by decide +kernel
  have tn := ok.tn; have nn := ok.nn; have z0 := ok.fine.z0; have z1 := ok.fine.z1
  have A := shows_map (f := Row.dat) (m := 400) (l := b.ts) fun r hr => ⟨(dat_ok (ok.fine.ts r hr).ok).1, (dat_ok (ok.fine.ts r hr).ok).2.1, (row_shown (ok.fine.ts r hr).ok).2, (row_shown (ok.fine.ts r hr).ok).1⟩
  have B := shows_map (f := datN) (m := 200) (l := b.ns) fun q hq => note_ok (ok.fine.ns q hq) z1
  have lp := text_len ok
  have pg := StrLaws.reprText_len b.text fun c hc => Nat.lt_trans (Low.text ok.fine c hc) (by decide)
  have ln : (PyData.int (b.ts.length : Int)).showable = true := int_ok64 (by omega) (by omega)
  have lz : (PyData.int b.z).showable = true := int_ok64 (by omega) (by omega)
  have ll := int_len64 (i := (b.ts.length : Int)) (by omega) (by omega)
  have lk := int_len64 (i := b.z) (by omega) (by omega)
  rw [← shown_int] at ll lk
  have h1 := (seq_len A).1
  have h2 := (seq_len B).2
  have ad := A.dp; have bd := B.dp
  have bl := bool_len true
  unfold datB
  refine ⟨?_, ?_, ?_, ?_⟩
  · have ln' : decide ((b.ts.length : Int).natAbs.log2 < 1920) = true := by simpa [PyData.showable] using ln
    have lz' : decide (b.z.natAbs.log2 < 1920) = true := by simpa [PyData.showable] using lz
    rw [PyData.showable]
    simp only [PyData.showableAll, PyData.showable, A.s, B.s, ln', lz', Bool.true_and, Bool.and_true]
  · rw [PyData.hasDict]
    simp only [PyData.hasDictAll, PyData.hasDict, A.d, B.d, Bool.false_or]
  · rw [PyData.depth]
    simp only [PyData.depthAll, PyData.depth]
    omega
  · have es : (PyData.str b.text).shown = reprText b.text := by simp [PyData.shown]
    have k1 : b.ts.length * (400 + 2) ≤ 12 * 402 := Nat.mul_le_mul_right _ tn
    have k2 : b.ns.length * (200 + 2) ≤ 12 * 202 := Nat.mul_le_mul_right _ nn
    rw [PyData.shown]
    simp only [PyData.shownAll]
    rw [es]
    have LL := list_len [reprText b.text, (PyData.int b.z).shown, (PyData.list (b.ts.map Row.dat)).shown, (PyData.tuple (b.ns.map datN)).shown, (PyData.int (b.ts.length : Int)).shown, (PyData.bool true).shown]
    simp only [piled, List.map_cons, List.map_nil, List.sum_cons, List.sum_nil] at LL
    omega
def sp_is_as (Z : Zs) : Sp := fun vs H Q _ => ∃ (p x d : Addr) (b : Lore), vs = [.ref x, .ref d] ∧ BookAt Z.cC Z.cB H x b.text b ∧ LoreAt H p d b ∧ b.Ok ∧ ∀ H', Same H H' → Q (.bl true) H'
section
variable {P : Program} {w : World} {K : PySem.W.Frag} {mg : Str → Option Value} {base : Heap} {Z : Zs}
theorem ok_l_is_as (T : Txt K mg Z) : GOk P w K mg base CX0 4 Z.f_l_is_as Z.d_l_is_as ["_law_book_here", "_law_lore_here"] (sp_is_as Z) := by
  refine okG T.F_l_is_as sc_l_is_as (fun vs H Q E h => ?_) (fun cdv A outer s H vs Q E g hr h => ?_)
  · obtain ⟨p, x, d, b, rfl, _⟩ := h
    rfl
  · obtain ⟨p, x, d, b, rfl, K0, L0, ok, k⟩ := h
    have sl : sizeLine = 16777216 := sizeLine_eq
    have tn := ok.tn; have nn := ok.nn
    have ls := lines_sum ok
    refine ⟨_, (pss_cons (ps_par (i := 2) (j := 3) (by rfl) sc_l_is_as.nd rfl rfl (by decide) rfl rfl (pa_cons (pe_lc (own := [("_law_tie_here", 5)]) rfl sc_l_is_as.nd (pi_tup (pe_fld (pv 0) rfl)) (blkOk_by (own := [("_law_tie_here", 5)]) (N := ["_law_book_here", "_law_lore_here", "_law_rows", "_law_notes", "_law_given", "_law_tie_here"]) (sc := defScope s_l_is_as) (by decide +kernel)) (fun _ _ _ _ _ => (pg_name (i := 5) sc_l_is_as.nd rfl (Or.inl rfl))) (fun _ _ _ _ _ => pts_nil) (fun _ _ _ _ _ => (pe_call (ok_l_row_of T) (hr.mono (by decide)) rfl T.g_l_row_of T.k_l_row_of T.bn_l_row_of .nil pass0 (pa_cons (pv 5) pa_nil)))) (pa_cons (pe_callTy call_tuple_of (by rfl) T.b_tuple (by decide +kernel) (pa_cons (pe_dget (hu_of hr) (pv 1) pe_str (fun _ _ => rfl)) pa_nil)) pa_nil)) (by rfl))
      (pss_cons (ps_set (i := 4) sc_l_is_as.nd rfl (Or.inl rfl) (pe_lst (pa_cons (pe_fld (pv 0) rfl) (pa_cons (pe_fld (pv 0) rfl) (pa_cons (pv 2) (pa_cons (pe_fld (pv 0) rfl) (pa_cons (pe_callB (id := "len") (call_lenO (E := E0) (ok_B_len T) ((hr.mono (j := 2) (by decide)).in1) T.bn_B_len pass0 T.a_B_len T.i_B_len) (by rfl) T.b_len (by decide +kernel) (pa_cons (pv 0) pa_nil)) (pa_cons (pe_callB  call_isi (by rfl) T.b_isinstance (by decide +kernel) (pa_cons (pe_fld (pv 0) rfl) (pa_cons (pe_bltn (v := .ty "tuple") rfl T.b_tuple (by decide +kernel) rfl) pa_nil))) pa_nil))))))))
      (pss_one (ps_ret (pe_cmpR op_eq (pe_callB (r := rRepr K) (id := "repr")  (call_repr (by exact g) (by exact hr.units)) (by rfl) T.b_repr (by decide +kernel) (pa_cons (pv 4) pa_nil)) (pe_callB (r := rRepr K) (id := "repr")  (call_repr (by exact g) (by exact hr.units)) (by rfl) T.b_repr (by decide +kernel) (pa_cons (pe_lst (pa_cons (pe_join pe_str (pe_call (ok_l_lines T) (hr.mono (by decide)) rfl T.g_l_lines T.k_l_lines T.bn_l_lines .nil pass0 (pa_cons (pv 1) pa_nil))) (pa_cons (pe_dget (hu_of hr) (pv 1) pe_str (fun _ _ => rfl)) (pa_cons (pe_dget (hu_of hr) (pv 1) pe_str (fun _ _ => rfl)) (pa_cons (pv 3) (pa_cons (pe_callB  call_len (by rfl) T.b_len (by decide +kernel) (pa_cons (pv 2) pa_nil)) (pa_cons pe_bl pa_nil))))))) pa_nil)) (nomark _)))))), ?_⟩
    obtain ⟨dx, ta, na, tr, nr, q0⟩ := id K0
    have lt := Paired.len q0.ts
    refine ⟨_, rfl, x, _, dx, _, _, rfl, q0.ins, T.clB, T.nB_ties, bfs_ties _ _ _ _, ta, rfl, ⟨_, SqT.of q0.ties⟩, fun D hD => ?_⟩
    refine lc_tup (xs := tr) (fun i H' => ∃ l, H' D = some (.lst l) ∧ RowsAt H' l (b.ts.take i) ∧ Same H H') ⟨[], upd_same, .nil, Same.new (Same.refl H) hD⟩ (fun i H' _ ⟨_, _, _, s⟩ => SqT.of (s _ _ q0.ties)) ?_ ?_
    · rintro i x' H5 hi ⟨l', hDi, hl', s5⟩
      refine ⟨rfl, ?_⟩
      unfold tYes
      refine iteT ?_
      obtain ⟨r, hr', y, rfl, hy⟩ := Paired.at q0.ts hi
      have ll := Paired.len hl'
      rw [List.length_take] at ll
      refine ⟨_, rfl, y, r, rfl, Same.tie s5 hy, fun x2 nx2 => ?_⟩
      have s6 := Same.new (o := .tup r.vs) (Same.refl H5) nx2
      have hD6 := s6 _ _ hDi
      refine ⟨_, hD6, by omega, l' ++ [.ref x2], upd_same, ?_, same_put (s5.trans s6) hD⟩
      rw [take_snoc hr']
      exact Paired.snoc ⟨x2, rfl, (upd_ne (ne_of upd_same hD6 fun z => nomatch z)).trans upd_same⟩ ((hl'.same s6).put hD6)
    rintro H5 ⟨l', hD5, hl', s5⟩
    rw [List.take_of_length_le (by omega)] at hl'
    have ll := Paired.len hl'
    obtain ⟨tb, nb, trl, nrl, I0⟩ := id L0
    have I5 := I0.same s5
    refine ⟨_, rfl, d, _, rfl, get_notes I5.dic, nb, nrl, rfl, .inl ⟨SqL.of I5.notes, fun tn' htn => ?_⟩⟩
    have s6 := Same.new (o := .tup nrl) (Same.refl H5) htn
    have atN : upd H5 tn' (.tup nrl) tn' = some (.tup nrl) := upd_same
    generalize upd H5 tn' (.tup nrl) = H6 at s6 atN ⊢
    have s06 := s5.trans s6
    refine ⟨_, _, rfl, ?_⟩
    have q6 : BookIs Z.cC Z.cB H6 x b.text b dx ta na tr nr := ⟨s06 _ _ q0.ins, s06 _ _ q0.ties, s06 _ _ q0.notes, q0.ts.same s06, q0.ns.same s06⟩
    have hD6 := s6 _ _ hD5
    have hl6 := hl'.same s6
    have I6 := I5.same s6
    obtain ⟨d1, d2, d3, d4⟩ := datB_ok ok
    refine ⟨_, rfl, x, _, dx, _, _, rfl, q6.ins, T.clB, T.nB_text, bfs_text _ _ _ _, ?_⟩
    refine ⟨_, rfl, x, _, dx, _, _, rfl, q6.ins, T.clB, T.nB_size, bfs_size _ _ _ _, _, rfl, ?_⟩
    refine ⟨_, rfl, x, _, dx, _, _, rfl, q6.ins, T.clB, T.nB_notes, bfs_notes _ _ _ _, ?_⟩
    refine ⟨_, rfl, x, _, _, rfl, q6.ins, x, _, b, rfl, ⟨_, _, _, _, _, q6⟩, _, rfl, ⟨by omega, by omega⟩, ?_⟩
    refine ⟨_, rfl, x, _, dx, _, _, rfl, q6.ins, T.clB, T.nB_ties, bfs_ties _ _ _ _, _, _, _, _, true, rfl, .ty "tuple", .base (.tup q6.ties), kit_ty (by decide +kernel), by show 6 ≤ sizeLine; decide, fun v1 hv1 => ?_⟩
    have s7 := Same.new (o := .lst [.str b.text, .int b.z, .ref D, .ref na, .int (b.ts.length : Int), .bl true]) (Same.refl H6) hv1
    have at7 : upd H6 v1 (.lst [.str b.text, .int b.z, .ref D, .ref na, .int (b.ts.length : Int), .bl true]) v1 = some (.lst [.str b.text, .int b.z, .ref D, .ref na, .int (b.ts.length : Int), .bl true]) := upd_same
    generalize upd H6 v1 (.lst [.str b.text, .int b.z, .ref D, .ref na, .int (b.ts.length : Int), .bl true]) = H7 at s7 at7 ⊢
    have dp1 : Dp K H7 (.ref v1) (datB b) := .lst (SqL.of at7) (.cons (.str _) (.cons (.int _) (.cons (.lst (SqL.of (s7 _ _ hD6)) (hl6.same s7).dps) (.cons (.tup (SqT.of (s7 _ _ q6.notes)) (q6.ns.same s7).dps) (.cons (.int _) (.cons (.bl _) .nil))))))
    refine ⟨_, rfl, _, datB b, rfl, dp1, d1, d2, d3, d4, ?_⟩
    have I7 := I6.same s7
    refine ⟨⟨_, rfl⟩, _, rfl, p, d, b, rfl, (L0.same s06).same s7, ok.fine, by omega, by omega, fun l H8 nl s8 hl => ?_⟩
    refine ⟨_, l, b.lines, rfl, rfl, .inl (SqL.of hl), by omega, ?_⟩
    have I8 := I7.same s8
    have s78 := s7.trans s8
    refine ⟨_, rfl, d, _, rfl, get_size I8.dic, ?_⟩
    refine ⟨_, rfl, d, _, rfl, get_ties I8.dic, ?_⟩
    refine ⟨_, rfl, _, rfl, _, _, rfl, .inl ⟨_, SqL.of (s78 _ _ hD6), rfl⟩, by show 6 ≤ sizeLine; decide, fun v2 hv2 => ?_⟩
    have s9 := Same.new (o := .lst [.str (Txt.join (Str.ofString "\n") b.lines), .int b.z, .ref tb, .ref tn', .int (l'.length : Int), .bl true]) (Same.refl H8) hv2
    have at9 : upd H8 v2 (.lst [.str (Txt.join (Str.ofString "\n") b.lines), .int b.z, .ref tb, .ref tn', .int (l'.length : Int), .bl true]) v2 = some (.lst [.str b.text, .int b.z, .ref tb, .ref tn', .int (b.ts.length : Int), .bl true]) := by rw [upd_same, ll] <;> rfl
    generalize upd H8 v2 (.lst [.str (Txt.join (Str.ofString "\n") b.lines), .int b.z, .ref tb, .ref tn', .int (l'.length : Int), .bl true]) = H9 at s9 at9 ⊢
    have I9 := I8.same s9
    have dp2 : Dp K H9 (.ref v2) (datB b) := .lst (SqL.of at9) (.cons (.str _) (.cons (.int _) (.cons (.lst (SqL.of I9.ties) I9.ts.dps) (.cons (.tup (SqT.of (s9 _ _ (s78 _ _ atN))) I9.ns.dps) (.cons (.int _) (.cons (.bl _) .nil))))))
    refine ⟨_, datB b, rfl, dp2, d1, d2, d3, d4, rfl, ?_⟩
    rw [decide_eq_true rfl]
    exact k H9 ((s06.trans s78).trans s9)
end
end TT

set_option maxHeartbeats 4000000
namespace TT
open PySem PySem.Spec PyProof.Rows L2 LamX TL
/-! ### the law's own check -/
def tabs (Z : Zs) : List (Addr × Str) := [(Z.t_l_right, lamN "_law_right")]
theorem tabs_mem (Z : Zs) : (Z.t_l_right, lamN "_law_right") ∈ tabs Z := List.mem_singleton.mpr rfl
theorem tabs_one (Z : Zs) : ∀ p ∈ tabs Z, p.1 = Z.t_l_right → p.2 = lamN "_law_right" := fun p hp _ => by rw [List.mem_singleton.mp hp]
/-- the reading of  lambda: _law_book_here[_law_value] -/
def tI (K : PySem.W.Frag) (Z : Zs) (E : XK) : TE := tOp (rIxO Z.cB (sp_B_getitem K Z) E) (tVar 2) (tVar 6)
/-- what stands while it is asked -/
structure W9 (Z : Zs) (p d x : Addr) (n : Nat) (H0 H : Hp) (b : Lore) : Prop where
  hp : Pot H p n
  hT : Tabs (tabs Z) H
  kp : KeepN p H0 H
  L : LoreAt H p d b
  K : BookAt Z.cC Z.cB H x b.text b
theorem W9.keep {Z : Zs} {p d x : Addr} {n n' : Nat} {H0 H H' : Hp} {b : Lore} (h : W9 Z p d x n H0 H b) (k : Keep p H H') (hp' : Pot H' p n') : W9 Z p d x n' H0 H' b :=
  ⟨hp', Tabs.keep k h.hp h.hT, h.kp.then (KeepN.of k), h.L.keep k h.hp, h.K.keep k h.hp⟩
theorem W9.ext {Z : Zs} {p d x : Addr} {n : Nat} {H0 H H' : Hp} {b : Lore} (h : W9 Z p d x n H0 H b) (e : ExtN H H') (t : Tabs (tabs Z) H') : W9 Z p d x n H0 H' b :=
  ⟨Pot.extN e h.hp, t, h.kp.then (KeepN.ext e), h.L.extN e, h.K.extN e⟩
theorem W9.same {Z : Zs} {p d x : Addr} {n : Nat} {H0 H H' : Hp} {b : Lore} (h : W9 Z p d x n H0 H b) (s : Same H H') : W9 Z p d x n H0 H' b := h.ext (ExtN.same s) (h.hT.ext s)
def sp_l_right (Z : Zs) : Sp := fun vs H Q _ => ∃ (p : Addr) (n : Nat), vs = [.ref p] ∧ Pot H p n ∧ n + 500 < 1000000 ∧ Tabs (tabs Z) H ∧ ∀ (n' : Nat) (H' : Hp), n' ≤ n + 500 → Pot H' p n' → Tabs (tabs Z) H' → KeepN p H H' → Q (.bl true) H'
def great (r : Row) : Lore := ⟨10 ^ 30, List.replicate 12 r, (List.range 12).map fun j : Nat => ((10 : Int) ^ 29 + (j : Int), (j : Int) - 6)⟩
theorem great_ok {r : Row} {z : Int} (h : r.In z) (hz : z ≤ 30) : (great r).Ok := by
  have e29 : (100 : Int) < 10 ^ 29 := by decide +kernel
  have e30 : (10 : Int) ^ 30 = 10 * 10 ^ 29 := by decide +kernel
  have e60 : (100 : Int) < 10 ^ 60 := by decide +kernel
  refine ⟨⟨by show (1 : Int) ≤ 10 ^ 30; omega, by show (10 : Int) ^ 30 ≤ 10 ^ 30; omega, fun q hq => ?_, fun q hq => ?_⟩, by show (List.replicate 12 r).length ≤ 12; rw [List.length_replicate]; exact Nat.le_refl _, by show ((List.range 12).map fun j : Nat => ((10 : Int) ^ 29 + (j : Int), (j : Int) - 6)).length ≤ 12; rw [List.length_map, List.length_range]; exact Nat.le_refl _, ?_⟩
  · rw [List.eq_of_mem_replicate (show q ∈ List.replicate 12 r from hq)]
    exact h.wide (by show z ≤ 10 ^ 30; omega)
  · obtain ⟨j, hj, rfl⟩ := List.mem_map.mp (show q ∈ (List.range 12).map fun j : Nat => ((10 : Int) ^ 29 + (j : Int), (j : Int) - 6) from hq)
    have := List.mem_range.mp hj
    exact ⟨by show 0 ≤ 10 ^ 29 + (j : Int); omega, by show 10 ^ 29 + (j : Int) < 10 ^ 30; omega, by show -(10 ^ 60) < (j : Int) - 6; omega, by show (j : Int) - 6 < 10 ^ 60; omega⟩
  · show (((List.range 12).map fun j : Nat => ((10 : Int) ^ 29 + (j : Int), (j : Int) - 6)).map (·.1)).Nodup
    rw [List.map_map]
    unfold List.Nodup
    rw [List.pairwise_map]
    refine List.Pairwise.imp ?_ (List.nodup_range (n := 12))
    intro a b n e
    exact n (by have e' : (10 : Int) ^ 29 + (a : Int) = 10 ^ 29 + (b : Int) := e; omega)
section
variable {P : Program} {w : World} {K : PySem.W.Frag} {mg : Str → Option Value} {base : Heap} {Z : Zs}
/-- == of two books -/
theorem eq_books {E : XK} {H : Hp} {x y : Addr} {t u : Str} {b c : Lore} {Q : VK} (h1 : BookAt Z.cC Z.cB H x t b) (h2 : BookAt Z.cC Z.cB H y u c) (k : Q (.bl (decide (t = u))) H) : rEqO Z.cB (sp_B_eq K Z) E (.ref x) (.ref y) H Q := by
  obtain ⟨dx, ta, na, tr, nr, q1⟩ := id h1
  obtain ⟨dy, tc, nc, tr', nr', q2⟩ := id h2
  exact ⟨x, _, _, rfl, q1.ins, .ins q2.ins, .inl ⟨x, y, _, _, _, _, rfl, h1, h2, ⟨_, rfl⟩, k⟩⟩
theorem three_of {v : V} (h : v ∈ [V.int 1, V.int 6, V.int 30]) : ∃ z : Int, v = .int z ∧ 1 ≤ z ∧ z ≤ 30 := by
  simp only [List.mem_cons, List.not_mem_nil, or_false] at h
  rcases h with rfl | rfl | rfl <;> exact ⟨_, rfl, by decide, by decide⟩
theorem ok_l_right (T : Txt K mg Z) (TB : TabB base mg Z.c_l_right Z.t_l_right) : GOk P w K mg base CX0 19 Z.f_l_right Z.d_l_right ["_law_pot_here"] (sp_l_right Z) := by
  refine okGC T.F_l_right sc_l_right (fun vs H Q E h => ?_) (fun A outer s H vs Q E g hr h => ?_)
  · obtain ⟨p, n, rfl, _⟩ := h
    rfl
  · obtain ⟨p, n, rfl, hp, hn, hT, k⟩ := h
    have sl : sizeLine = 16777216 := sizeLine_eq
    have e30 : (100 : Int) < 10 ^ 30 := by decide +kernel
    refine ⟨_, (pss_cons (ps_set (i := 1) sc_l_right.nd rfl (Or.inl rfl) (pe_call (ok_l_lore T) (hr.mono (by decide)) rfl T.g_l_lore T.k_l_lore T.bn_l_lore .nil pass0 (pa_cons (pv 0) (pa_cons (pe_call (ok_l_of T) (hr.mono (by decide)) rfl T.g_l_of T.k_l_of T.bn_l_of .nil pass0 (pa_cons (pv 0) (pa_cons (pe_lst (pa_cons pe_int (pa_cons pe_int (pa_cons pe_int pa_nil)))) pa_nil))) (pa_cons pe_int (pa_cons pe_int pa_nil))))))
      (pss_cons (ps_asg (pe_tup (pa_cons (pe_call (ok_l_book T) (hr.mono (by decide)) rfl T.g_l_book T.k_l_book T.bn_l_book .nil pass0 (pa_cons (pv 1) pa_nil)) (pa_cons (pe_call (ok_l_lore T) (hr.mono (by decide)) rfl T.g_l_lore T.k_l_lore T.bn_l_lore .nil pass0 (pa_cons (pv 0) (pa_cons pe_int (pa_cons pe_int (pa_cons pe_int pa_nil))))) pa_nil))) (pg_tup rfl (pgs_cons (pg_name (i := 2) sc_l_right.nd rfl (Or.inr rfl)) (pgs_cons (pg_name (i := 3) sc_l_right.nd rfl (Or.inl rfl)) pgs_nil))))
      (pss_cons (ps_if (PW.pt (pw_or (pt_not (pt_val (pe_callG (ok_l_is_as T) g (hr.mono (by decide)) rfl T.g_l_is_as T.k_l_is_as T.bn_l_is_as .nil pass0 (pa_cons (pv 2) (pa_cons (pv 1) pa_nil))))) (pw_or1 (pt_not (pt_val (pe_callG (ok_l_is_as T) g (hr.mono (by decide)) rfl T.g_l_is_as T.k_l_is_as T.bn_l_is_as .nil pass0 (pa_cons (pe_call (ok_l_book T) (hr.mono (by decide)) rfl T.g_l_book T.k_l_book T.bn_l_book .nil pass0 (pa_cons (pv 3) pa_nil)) (pa_cons (pv 3) pa_nil)))))))) (pss_one (ps_ret pe_bl)) pss_nil)
      (pss_cons (ps_if (PW.pt (pw_or (pt_cmpR op_ne (pe_cmpR (op_eqO (E := E0) (ok_B_eq T) (hr.mono (by decide)) T.bn_B_eq pass0 T.z_notTB T.a_B_eq T.i_B_eq) (pv 2) (pe_call (ok_l_book T) (hr.mono (by decide)) rfl T.g_l_book T.k_l_book T.bn_l_book .nil pass0 (pa_cons (pv 3) pa_nil)) (nomark _)) (pe_cmpR (op_eqDD (by exact (hr.mono (j := 1) (by decide)).in1.units)) (pv 1) (pv 3) (nomark _)) (nomark _)) (pw_or1 (pt_not (pt_cmpR (op_eqO (E := E0) (ok_B_eq T) (hr.mono (by decide)) T.bn_B_eq pass0 T.z_notTB T.a_B_eq T.i_B_eq) (pv 2) (pe_call (ok_l_book T) (hr.mono (by decide)) rfl T.g_l_book T.k_l_book T.bn_l_book .nil pass0 (pa_cons (pv 1) pa_nil)) (nomark _)))))) (pss_one (ps_ret pe_bl)) pss_nil)
      (pss_cons (ps_if (PW.pt (pw_or (pt_cmpR (op_eqT (E := E0) (ok_B_eq T) (hr.mono (by decide)) T.bn_B_eq pass0 T.a_B_eq T.i_B_eq) (pv 2) (pe_fld (pv 2) rfl) (nomark _)) (pw_or1 (pt_not (pt_cmpR (op_neT (E := E0) (ok_B_eq T) ((hr.mono (j := 2) (by decide)).in1) hr.units T.bn_B_eq pass0 T.z_mroB T.z_neB T.a_B_eq T.i_B_eq) (pv 2) pe_int (nomark _)))))) (pss_one (ps_ret pe_bl)) pss_nil)
      (pss_cons (ps_for PassesOwn.never rfl (pi_enum (by rfl) T.b_enumerate (pa_cons (pe_dget (hu_of hr) (pv 1) pe_str (fun _ _ => rfl)) pa_nil)) (pg_tup rfl (pgs_cons (pg_name (i := 4) sc_l_right.nd rfl (Or.inl rfl)) (pgs_cons (pg_name (i := 5) sc_l_right.nd rfl (Or.inl rfl)) pgs_nil))) (pss_one (ps_if (PW.pt (pw_or (pt_not (pt_cmpR (op_eqO (E := E0) (ok_T_eqB T) (hr.mono (by decide)) T.bn_T_eq pass0 T.z_notT T.a_T_eq T.i_T_eq) (pe_ixO (E := E0) (ok_B_getitem T) ((hr.mono (j := 5) (by decide)).in1) T.bn_B_getitem passF T.a_B_getitem T.i_B_getitem T.z_fn (pv 2) (pv 4) (fun _ _ => rfl)) (pe_call (ok_l_tie T) (hr.mono (by decide)) rfl T.g_l_tie T.k_l_tie T.bn_l_tie .nil pass0 (pa_cons (pv 5) pa_nil)) (nomark _))) (pw_or1 (pt_cmpR (op_notInOwn (E := E0) (ok_B_contains T) (hr.mono (by decide)) T.bn_B_contains pass0 T.a_B_contains T.i_B_contains) (pe_call (ok_l_tie T) (hr.mono (by decide)) rfl T.g_l_tie T.k_l_tie T.bn_l_tie .nil pass0 (pa_cons (pv 5) pa_nil)) (pv 2) (by with_unfolding_all rfl))))) (pss_one (ps_ret pe_bl)) pss_nil)))
      (pss_cons (ps_for PassesOwn.never rfl (pi_tup (pe_tup (pa_cons (pe_un un_neg pe_int) (pa_cons (pe_callB  call_len (by rfl) T.b_len (by decide +kernel) (pa_cons (pe_dget (hu_of hr) (pv 1) pe_str (fun _ _ => rfl)) pa_nil)) (pa_cons pe_bl (pa_cons pe_non (pa_cons pe_str (pa_cons (pe_tup (pa_cons pe_int pa_nil)) (pa_cons (pe_lst pa_nil) (pa_cons pe_dnewK (pa_cons (pe_op op_powW pe_int pe_int) (pa_cons (pe_call (ok_l_odd T) (hr.mono (by decide)) rfl T.g_l_odd T.k_l_odd T.bn_l_odd .nil pass0 (pa_cons (pv 0) pa_nil)) pa_nil)))))))))))) (pg_name (i := 6) sc_l_right.nd rfl (Or.inr rfl)) (pss_cons (ps_set (i := 7) sc_l_right.nd rfl (Or.inl rfl) (pe_lam (T := tabs Z) (t := tI K Z) (ok_l_met_error T) (by exact g) (hr.mono (by decide)) T.bn_l_met_error rfl T.g_l_met_error T.k_l_met_error pa_nil TB rfl (tabs_mem Z) (tabs_one Z) (lamS_by (sc := defScope s_l_right) (by decide +kernel)) rfl (fun _ _ _ _ _ => rfl) (fun A outer s H E f c' hr' => (pe_ixO (ok_B_getitem T) ((hr'.mono (k := 5) (by decide)).in1) T.bn_B_getitem (passes_call (takes_of rfl rfl rfl rfl) (fun _ _ _ _ h => h)) T.a_B_getitem T.i_B_getitem T.z_fn (pv 2) (pv 6) (fun _ _ => rfl)))))
      (pss_one (ps_if (PW.pt (pw_or (pt_not (pt_val (pe_callB (r := rIsM K) (id := "isinstance") call_isM (by rfl) T.b_isinstance (by decide +kernel) (pa_cons (pv 7) (pa_cons (pe_glob (v := .ref (Z.c 0)) rfl T.g_NoTie rfl) pa_nil))))) (pw_or1 (pt_cmpR op_ne (pe_callB (r := rReprD K) (id := "repr") (call_reprS (by exact g) (by exact hr.units)) (by rfl) T.b_repr (by decide +kernel) (pa_cons (show PE _ _ (tMv K "value" (tVar 7)) from pe_mv (pv 7)) pa_nil)) (pe_callB (r := rReprD K) (id := "repr") (call_reprS (by exact g) (by exact hr.units)) (by rfl) T.b_repr (by decide +kernel) (pa_cons (pv 6) pa_nil)) (nomark _))))) (pss_one (ps_ret pe_bl)) pss_nil))))
      (pss_cons (ps_set (i := 5) sc_l_right.nd rfl (Or.inl rfl) (pe_call (ok_l_row T) (hr.mono (by decide)) rfl T.g_l_row T.k_l_row T.bn_l_row .nil pass0 (pa_cons (pv 0) (pa_cons (pe_dget (hu_of hr) (pv 1) pe_str (fun _ _ => rfl)) pa_nil))))
      (pss_cons (ps_if (PW.pt (pw_or (pt_cmpR op_ne (pe_cmpR (op_inOwn (E := E0) (ok_B_contains T) (hr.mono (by decide)) T.bn_B_contains pass0 T.a_B_contains T.i_B_contains) (pe_call (ok_l_tie T) (hr.mono (by decide)) rfl T.g_l_tie T.k_l_tie T.bn_l_tie .nil pass0 (pa_cons (pv 5) pa_nil)) (pv 2) (by with_unfolding_all rfl)) (pe_cmpR (op_inD (by exact (hr.mono (j := 1) (by decide)).in1.units)) (pv 5) (pe_dget (hu_of hr) (pv 1) pe_str (fun _ _ => rfl)) (by with_unfolding_all rfl)) (nomark _)) (pw_or1 (pt_cmpR (op_inOwn (E := E0) (ok_B_contains T) (hr.mono (by decide)) T.bn_B_contains pass0 T.a_B_contains T.i_B_contains) (pe_call (ok_l_odd T) (hr.mono (by decide)) rfl T.g_l_odd T.k_l_odd T.bn_l_odd .nil pass0 (pa_cons (pv 0) pa_nil)) (pv 2) (by with_unfolding_all rfl))))) (pss_one (ps_ret pe_bl)) pss_nil)
      (pss_cons (ps_set (i := 8) sc_l_right.nd rfl (Or.inl rfl) (pe_disp (pps_cons pe_str (pe_op op_powW pe_int pe_int) (pps_cons pe_str (pe_op op_rep (pe_lst (pa_cons (pv 5) pa_nil)) pe_int) (pps_cons pe_str (pe_lc (own := [("_law_at", 4)]) rfl sc_l_right.nd (pi_range1 rfl T.b_range (pa_cons pe_int pa_nil)) (blkOk_by (own := [("_law_at", 4)]) (N := ["_law_pot_here", "_law_lore_here", "_law_book_here", "_law_other", "_law_at", "_law_row_here", "_law_value", "_law_caught", "_law_great"]) (sc := defScope s_l_right) (by decide +kernel)) (fun _ _ _ _ _ => (pg_name (i := 4) sc_l_right.nd rfl (Or.inl rfl))) (fun _ _ _ _ _ => pts_nil) (fun _ _ _ _ _ => (pe_tup (pa_cons (pe_op op_add (pe_op op_powW pe_int pe_int) (pv 4)) (pa_cons (pe_op op_sub (pv 4) pe_int) pa_nil))))) pps_nil))) (by rfl) (by rfl) (fun z => by cases z) (by decide)))
      (pss_one (ps_ret (pe_callG (ok_l_is_as T) g (hr.mono (by decide)) rfl T.g_l_is_as T.k_l_is_as T.bn_l_is_as .nil pass0 (pa_cons (pe_call (ok_l_book T) (hr.mono (by decide)) rfl T.g_l_book T.k_l_book T.bn_l_book .nil pass0 (pa_cons (pv 8) pa_nil)) (pa_cons (pv 8) pa_nil))))))))))))))), ?_⟩
    -- a book, another one
    refine ⟨_, rfl, _, rfl, by show 3 ≤ sizeLine; decide, fun a1 ha1 => ⟨p, a1, n, _, rfl, hp.new ha1, by omega, upd_same, (hp.ne ha1).symm, by decide, by decide, fun v1 n1 H1 hv1 hn1 hp1 k1 => ?_⟩⟩
    obtain ⟨z1, rfl, z10, z11⟩ := three_of hv1
    refine ⟨p, n1, z1, 5, 5, rfl, hp1, by omega, z10, by omega, by decide, by decide, by decide, by decide, fun d b n2 H2 f1 bz1 bt1 bn1 nd1 hn2 hp2 k2 nD L2' => ?_⟩
    have kp2 : Keep p H H2 := ((Keep.rfl'.new ha1).trans k1).trans k2
    have hT2 := Tabs.keep kp2 hp hT
    have okb : b.Ok := ⟨f1, by omega, by omega, nd1⟩
    have bz : b.z ≤ 30 := by omega
    refine ⟨_, rfl, p, d, b, rfl, L2', okb, fun x H3 nx s3 K3 => ?_⟩
    have W3 : W9 Z p d x n2 H H3 b := ⟨hp2.same s3, hT2.ext s3, KeepN.of (kp2.same s3), L2'.same s3, K3⟩
    clear ha1 k1 hp1 hv1 k2 hp2 kp2 hT2 nD L2' K3 s3
    refine ⟨_, rfl, p, n2, 3, 1, 1, rfl, W3.hp, by omega, by decide, by decide, by decide, by decide, by decide, by decide, fun e c n4 H4 f2 cz ct cn nd2 hn4 hp4 k4 nE L4 => ?_⟩
    have okc : c.Ok := ⟨f2, by omega, by omega, nd2⟩
    have W4 := W3.keep k4 hp4
    refine ⟨by show 2 ≤ sizeLine; decide, fun u hu => ⟨u, _, rfl, SqT.of upd_same, rfl, _, _, rfl, _, _, rfl, rfl, ?_⟩⟩
    have s5 := Same.new (o := .tup [.ref x, .ref e]) (Same.refl H4) hu
    generalize upd H4 u (.tup [.ref x, .ref e]) = H5 at s5 ⊢
    have W5 := W4.same s5
    have L5 := L4.same s5
    clear W3 W4 L4 s5 hu k4 hp4 nE
    -- they tell what their lines do
    refine ⟨_, rfl, _, rfl, p, x, d, b, rfl, W5.K, W5.L, okb, fun H6 s6 => ⟨true, rfl, iteF ?_⟩⟩
    refine ⟨_, rfl, p, e, c, rfl, L5.same s6, okc, fun y H7 ny s7 K7 => ⟨_, rfl, p, y, e, c, rfl, K7, (L5.same s6).same s7, okc, fun H8 s8 => ⟨true, rfl, iteF ?_⟩⟩⟩
    have W8 := W5.same ((s6.trans s7).trans s8)
    have L8 := L5.same ((s6.trans s7).trans s8)
    clear W5 L5 s6 s7 s8 K7
    -- equal just if they tell the same
    refine ⟨_, rfl, _, rfl, p, e, c, rfl, L8, okc, fun y H9 ny s9 K9 => eq_books (W8.same s9).K K9 ?_⟩
    have W9' := W8.same s9
    obtain ⟨ta, na, tr, nr, I9⟩ := id W9'.L
    obtain ⟨tb, nb, ts, ns, J9⟩ := L8.same s9
    refine ⟨_, rfl, _, rfl, d, e, _, _, _, rfl, rfl, I9.dic, J9.dic, rfl, lore_hits I9 J9, rfl, false, ?_, iteF ?_⟩
    · have e1 : decide (b.text = c.text) = loreEq b c := by
        by_cases q : b = c
        · rw [loreEq_iff.mpr q, decide_eq_true ((text_inj okb.fine okc.fine).mpr q)]
        · rw [decide_eq_false fun z => q ((text_inj okb.fine okc.fine).mp z)]
          cases h : loreEq b c with
          | false => rfl
          | true => exact absurd (loreEq_iff.mp h) q
      rw [e1, decide_eq_true rfl]
      rfl
    refine ⟨_, rfl, _, rfl, p, d, b, rfl, W9'.L, okb, fun y2 HA ny2 sA KA => eq_books (W9'.same sA).K KA ?_⟩
    rw [decide_eq_true rfl]
    refine ⟨true, rfl, iteF ?_⟩
    have WA := W9'.same sA
    clear W8 L8 W9' I9 J9 KA K9 s9 sA
    obtain ⟨dx, ta, na, tr, nr, qA⟩ := id WA.K
    -- unequal to all else
    refine ⟨_, rfl, _, rfl, x, _, dx, _, _, rfl, qA.ins, T.clB, T.nB_text, bfs_text _ _ _ _, x, _, _, "str", rfl, qA.ins, .str _, T.z_notSB, .inr ⟨x, _, b, _, rfl, WA.K, ⟨_, .base (.str _), T.z_kitSB⟩, ⟨_, rfl⟩, false, rfl, iteF ?_⟩⟩
    refine ⟨_, rfl, x, _, _, "int", rfl, qA.ins, .int _, T.z_notIB, .inr ⟨x, _, b, _, rfl, WA.K, ⟨_, .base (.int _), T.z_kitIB⟩, false, rfl, true, rfl, iteF ?_⟩⟩
    -- its ties by their numbers
    obtain ⟨tl1, nl1, trl, nrl, IA⟩ := id WA.L
    have lta := Paired.len IA.ts
    have tn := okb.tn
    have hmem : ∀ {r : Row}, r ∈ b.ts → (b.ts.any fun t => eqB t r) = true := fun h => List.any_eq_true.mpr ⟨_, h, eqB_iff.mpr rfl⟩
    refine ⟨_, rfl, d, _, rfl, get_ties IA.dic, tl1, _, rfl, SqL.of IA.ties, ?_⟩
    refine for_it (walk_enum (xs := trl)) (fun i σ H' => ∃ v4 v5, σ = [some (.ref p), some (.ref d), some (.ref x), some (.ref e), v4, v5, none, none, none] ∧ Same HA H') ⟨_, _, rfl, Same.refl _⟩ (fun i σ H' _ ⟨_, _, _, s⟩ => SqL.of (s _ _ IA.ties)) ?_ ?_
    · rintro i y0 σ HB HC hi ⟨v4, v5, rfl, sB⟩ ⟨T4, x1, x2, rfl, nT, rfl, e1, e2⟩
      obtain rfl := Option.some.inj e1
      obtain ⟨r, hr', y, rfl, hy⟩ := Paired.at IA.ts e2
      have sC := sB.trans (Same.new (o := .tup [.int (i : Nat), .ref y]) (Same.refl HB) nT)
      have hT4 : upd HB T4 (.tup [.int (i : Nat), .ref y]) T4 = some (.tup [.int (i : Nat), .ref y]) := upd_same
      refine ⟨T4, _, rfl, SqT.of hT4, rfl, _, _, rfl, _, _, rfl, rfl, ?_⟩
      generalize upd HB T4 (.tup [.int (i : Nat), .ref y]) = HC at sC ⊢
      have WC := WA.same sC
      obtain ⟨dxc, tac, nac, trc, nrc, qC⟩ := id WC.K
      have okr := (okb.fine.ts r (List.mem_of_getElem? hr')).ok
      have rowC : RowAt HC y r := sC _ _ hy
      refine ⟨_, rfl, _, rfl, x, _, _, rfl, qC.ins, x, _, b, _, rfl, WC.K, by omega, .inl ⟨i, r, rfl, hr', fun q hq => ?_⟩⟩
      refine ⟨_, rfl, y, r, rfl, rowC, okr, fun tt HD nt sD ht => ?_⟩
      obtain ⟨dq, hq'⟩ := Same.tie sD hq
      obtain ⟨dt, ht'⟩ := id ht
      refine ⟨q, dq, _, rfl, hq', .ins ht', q, .ref tt, r, rfl, ⟨dq, hq'⟩, .inl ⟨tt, r, rfl, ht, ⟨_, rfl⟩, ?_⟩⟩
      rw [show eqB r r = true by rw [eqB_eq]; simp]
      refine ⟨true, rfl, iteF ?_⟩
      have sAD := sC.trans sD
      refine ⟨_, rfl, y, r, rfl, sD _ _ rowC, okr, fun tt2 HE nt2 sE ht2 => ⟨_, rfl, ?_⟩⟩
      have WE := WA.same (sAD.trans sE)
      obtain ⟨dxe, tae, nae, tre, nre, qE⟩ := id WE.K
      refine ⟨x, _, _, rfl, qE.ins, .inl ⟨x, tt2, _, b, r, rfl, WE.K, ht2, _, rfl, ?_⟩⟩
      rw [hmem (List.mem_of_getElem? hr')]
      exact ⟨false, rfl, iteF ⟨_, _, rfl, sAD.trans sE⟩⟩
    rintro σ HB ⟨v4, v5, rfl, sB⟩
    have WB := WA.same sB
    clear WA IA qA sB
    -- numbers of no tie
    obtain ⟨tl1, nl1, trl, nrl, IB⟩ := id WB.L
    have ltb := Paired.len IB.ts
    refine ⟨_, rfl, _, rfl, d, _, rfl, get_ties IB.dic, _, _, rfl, .inl ⟨_, SqL.of IB.ties, rfl⟩, ?_⟩
    refine ⟨by show 1 ≤ sizeLine; decide, fun t1 h1 => ⟨by show 0 ≤ sizeLine; exact Nat.zero_le _, fun t2 h2 => ?_⟩⟩
    intro t3 h3
    have sA := Same.new (o := .tup [.int 0]) (Same.refl HB) h1
    have sB := Same.new (o := .lst []) (Same.refl (upd HB t1 (.tup [.int 0]))) h2
    have sC := Same.new (o := .dK []) (Same.refl (upd (upd HB t1 (.tup [.int 0])) t2 (.lst []))) h3
    have c1 := (sB.trans sC) _ _ (upd_same (H := HB) (a := t1) (o := .tup [.int 0]))
    have c2 := sC _ _ (upd_same (H := upd HB t1 (.tup [.int 0])) (a := t2) (o := .lst []))
    have c3 := upd_same (H := upd (upd HB t1 (.tup [.int 0])) t2 (.lst [])) (a := t3) (o := .dK [])
    have sAC := sA.trans (sB.trans sC)
    have m1 : t1 ≠ p := (WB.hp.ne h1).symm
    have m2 : t2 ≠ p := ((WB.hp.same sA).ne h2).symm
    have m3 : t3 ≠ p := (((WB.hp.same sA).same sB).ne h3).symm
    generalize upd (upd (upd HB t1 (.tup [.int 0])) t2 (.lst [])) t3 (.dK []) = HC at c1 c2 c3 sAC ⊢
    clear sA sB sC
    have WC := WB.same sAC
    refine ⟨_, _, rfl, rfl, ⟨by decide, by decide +kernel⟩, ?_⟩
    refine ⟨_, rfl, p, n4, rfl, WC.hp, by omega, fun vo dvo n10 HD hdo odo hn10 hpD kD => ⟨by show 10 ≤ sizeLine; decide, fun tt htt => ⟨tt, rfl, ⟨_, SqT.of upd_same⟩, ?_⟩⟩⟩
    have WD := WC.keep kD hpD
    have sT := Same.new (o := .tup [.int (-1), .int (trl.length : Int), .bl true, .non, .str "0", .ref t1, .ref t2, .ref t3, .int ((10 : Int) ^ (30 : Int).toNat), vo]) (Same.refl HD) htt
    have c1 := sT _ _ (kD _ _ m1 c1)
    have c2 := sT _ _ (kD _ _ m2 c2)
    have c3 := sT _ _ (kD _ _ m3 c3)
    have odo := odo.keep (Keep.of sT)
    have W0 := WD.same sT
    have at0 : upd HD tt (.tup [.int (-1), .int (trl.length : Int), .bl true, .non, .str "0", .ref t1, .ref t2, .ref t3, .int ((10 : Int) ^ (30 : Int).toNat), vo]) tt = some (.tup [.int (-1), .int (trl.length : Int), .bl true, .non, .str "0", .ref t1, .ref t2, .ref t3, .int ((10 : Int) ^ (30 : Int).toNat), vo]) := upd_same
    generalize upd HD tt (.tup [.int (-1), .int (trl.length : Int), .bl true, .non, .str "0", .ref t1, .ref t2, .ref t3, .int ((10 : Int) ^ (30 : Int).toNat), vo]) = Hq at c1 c2 c3 odo W0 at0 ⊢
    clear sT WD WC WB IB
    have odd : ∀ y ∈ ([.int (-1), .int (trl.length : Int), .bl true, .non, .str "0", .ref t1, .ref t2, .ref t3, .int ((10 : Int) ^ (30 : Int).toNat), vo] : List V), ∃ dd, Odd p Hq y dd ∧ Nice dd ∧ ∀ i, isInt y = some i → ¬ (0 ≤ i ∧ i < b.ts.length) := fun y hy => by
      simp only [List.mem_cons, List.not_mem_nil, or_false] at hy
      rcases hy with rfl | rfl | rfl | rfl | rfl | rfl | rfl | rfl | rfl | rfl
      · exact ⟨_, .fl (.int _), nice_i (by decide) (by decide), fun i e => by cases e; omega⟩
      · exact ⟨_, .fl (.int _), nice_i (by omega) (by omega), fun i e => by cases e; omega⟩
      · exact ⟨_, .fl (.bl _), nice_menu (by simp [menu]), fun i e => by cases e⟩
      · exact ⟨_, .fl .non, nice_menu (by simp [menu]), fun i e => by cases e⟩
      · exact ⟨_, .fl (.str _), nice_menu (by simp [menu]), fun i e => by cases e⟩
      · exact ⟨_, .t m1 c1 (.cons (.int 0) .nil), nice_menu (by simp [menu]), fun i e => by cases e⟩
      · exact ⟨_, .l m2 c2 .nil, nice_menu (by simp [menu]), fun i e => by cases e⟩
      · exact ⟨_, .d0 m3 c3, nice_menu (by simp [menu]), fun i e => by cases e⟩
      · refine ⟨_, .fl (.int _), nice_i (by decide +kernel) (by decide +kernel), fun i e => ?_⟩
        have e' : i = (10 : Int) ^ 30 := by
          have : some ((10 : Int) ^ (30 : Int).toNat) = some i := e
          exact (Option.some.inj this).symm
        rw [e']
        omega
      · refine ⟨dvo, odo, nice_menu hdo, fun i e => ?_⟩
        obtain rfl := isInt_some e
        cases odo with
        | fl h =>
          cases h with
          | int =>
            have : i = -1 := by simpa [menu] using hdo
            omega
    generalize ([.int (-1), .int (trl.length : Int), .bl true, .non, .str "0", .ref t1, .ref t2, .ref t3, .int ((10 : Int) ^ (30 : Int).toNat), vo] : List V) = xs at at0 odd
    have X0 := T.ex 0 (by decide)
    have Te := T.ex 1 (by decide)
    refine for_tup (xs := xs) (fun _ σ H' => ∃ v6 v7, σ = [some (.ref p), some (.ref d), some (.ref x), some (.ref e), v4, v5, v6, v7, none] ∧ ExtN Hq H' ∧ W9 Z p d x n10 H H' b) ⟨_, _, rfl, ExtN.refl _, W0⟩ (fun i σ H' _ ⟨_, _, _, e, _⟩ => SqT.of (e _ _ at0 (fun _ z => nomatch z))) ?_ ?_
    · rintro i y σ H1 hi ⟨v6, v7, rfl, eN, W1⟩
      obtain ⟨dd, od, nd, bad⟩ := odd y (List.mem_of_getElem? hi)
      have od1 := od.extN eN
      refine ⟨W1.hT, fun H2 c' e2 hT2 hc => ?_⟩
      have W2 := W1.ext e2 hT2
      have od2 := od1.extN e2
      obtain ⟨_, _, _, _, _, q2⟩ := id W2.K
      refine ⟨rfl, fun w' H3 => ∃ a, w' = V.ref a ∧ Same H2 H3 ∧ Met H3 a (Z.c 0) [("value", y)], fun w' H3 gw => ?rest1, ?look1⟩
      case look1 =>
        refine ⟨hc, _, rfl, _, rfl, x, _, _, rfl, q2.ins, x, _, b, y, rfl, W2.K, by omega, .inr ⟨isInt y, od2.isI, bad, ?_⟩⟩
        exact Out.met (G := fun w' H3 => ∃ a, w' = V.ref a ∧ Same H2 H3 ∧ Met H3 a (Z.c 0) [("value", y)]) X0 Te fun a H4 s4 m => ⟨a, rfl, s4, m⟩
      case rest1 =>
        obtain ⟨a, rfl, s3, mt⟩ := gw
        have W3 := W2.same s3
        have od3 := od2.keep (Keep.of s3)
        refine ⟨_, rfl, a, Z.c 0, _, .ref (Z.c 0), .ref (Z.c 0), true, true, rfl, mt, X0.ec, X0.selfC, .own _, X0.self, true, rfl, iteF ?_⟩
        refine ⟨_, rfl, a, Z.c 0, _, y, rfl, mt, X0.xf, X0.nv, rfl, y, dd, rfl, .one od3.dp, nd.sh.ok, nd.sh.dep, nd.sh.len, ?_⟩
        refine ⟨_, rfl, y, dd, rfl, .one od3.dp, nd.sh.ok, nd.sh.dep, nd.sh.len, rfl, false, ?_, iteF ?_⟩
        · rw [decide_eq_true rfl]
          rfl
        exact ⟨_, _, rfl, (eN.trans e2).trans (ExtN.same s3), W3⟩
    rintro σ H1 ⟨v6, v7, rfl, eN, W1⟩
    -- a drawn tie
    have z0 := okb.fine.z0
    obtain ⟨tl1, nl1, trl, nrl, I1⟩ := id W1.L
    refine ⟨_, rfl, _, rfl, d, _, rfl, get_size I1.dic, p, n10, b.z, rfl, W1.hp, by omega, by omega, by omega, fun r q n11 H2 ok fz sz lo hi' hn11 hp2 k2 hq nq => ?_⟩
    have W2 := W1.keep k2 hp2
    have inr : r.In b.z := ⟨ok, fz, sz⟩
    clear I1
    refine ⟨_, rfl, q, r, rfl, hq, ok, fun tt3 H3 nt s3 ht => ⟨_, rfl, ?_⟩⟩
    have W3 := W2.same s3
    obtain ⟨_, _, _, _, _, q3⟩ := id W3.K
    obtain ⟨tl1, nl1, trl, nrl, I3⟩ := id W3.L
    have hq3 : RowAt H3 q r := s3 _ _ hq
    refine ⟨x, _, _, rfl, q3.ins, .inl ⟨x, tt3, _, b, r, rfl, W3.K, ht, _, rfl, ?_⟩⟩
    refine ⟨_, rfl, _, rfl, d, _, rfl, get_ties I3.dic, r.dat, b.ts.map Row.dat, Row.dp hq3, .lst (SqL.of I3.ties) I3.ts.dps, rowD_shaped r, list_shaped (rowDs_lay _), rfl, false, ?_, iteF ?_⟩
    · rw [any_rows]
      show (V.bl !decide (V.bl (b.ts.any fun t => eqB t r) = V.bl (b.ts.any fun t => eqB t r))) = V.bl false
      rw [decide_eq_true rfl]
      rfl
    -- an odd thing
    refine ⟨_, rfl, p, n11, rfl, W3.hp, by omega, fun vo2 dvo2 n12 H4 hdo2 odo2 hn12 hp4 k4 => ⟨_, rfl, ?_⟩⟩
    have W4 := W3.keep k4 hp4
    obtain ⟨_, _, _, _, _, q4⟩ := id W4.K
    refine ⟨x, _, _, rfl, q4.ins, .inr ⟨x, _, b, vo2, rfl, W4.K, odo2.notC T, _, rfl, false, rfl, iteF ?_⟩⟩
    have hq4 : RowAt H4 q r := k4.row W3.hp hq3
    have fin : ∀ {H'}, Same H4 H' → Q (.bl true) H' := fun {H'} s => k n12 H' (by omega) (W4.same s).hp (W4.same s).hT (W4.same s).kp
    have npq := W4.hp
    clear W3 W2 W1 q3 q4 I3 hq3
    -- a great book
    have gok := great_ok inr bz
    refine fun D hD => ?_
    have s5 := Same.new (o := .dK []) (Same.refl H4) hD
    have hD5 : upd H4 D (.dK []) D = some (.dK []) := upd_same
    generalize upd H4 D (.dK []) = H5 at s5 hD5 ⊢
    refine ⟨_, _, rfl, rfl, ⟨by decide, by decide +kernel⟩, ?_⟩
    refine ⟨_, rfl, by show 1 ≤ sizeLine; decide, fun l1 hl1 => ?_⟩
    have s6 := s5.trans (Same.new (o := .lst [.ref q]) (Same.refl H5) hl1)
    have sx := Same.new (o := .lst [.ref q]) (Same.refl H5) hl1
    have at6 : upd H5 l1 (.lst [.ref q]) l1 = some (.lst [.ref q]) := upd_same
    have hD6 := sx _ _ hD5
    generalize upd H5 l1 (.lst [.ref q]) = H6 at s6 sx at6 hD6 ⊢
    refine ⟨l1, 12, _, rfl, rfl, at6, by decide, by decide, by show 1 * 12 ≤ sizeLine; decide, fun l2 hl2 => ?_⟩
    rw [show (List.replicate (12 : Int).toNat [V.ref q]).flatten = List.replicate 12 (V.ref q) from rfl]
    have sy := Same.new (o := .lst (List.replicate 12 (V.ref q))) (Same.refl H6) hl2
    have s7 := s6.trans sy
    have at7 : upd H6 l2 (.lst (List.replicate 12 (V.ref q))) l2 = some (.lst (List.replicate 12 (V.ref q))) := upd_same
    have hD7 := sy _ _ hD6
    have np2 : l2 ≠ p := ((npq.same s6).ne' hl2).symm
    generalize upd H6 l2 (.lst (List.replicate 12 (V.ref q))) = H7 at s7 sy at7 hD7 ⊢
    clear sx sy
    refine ⟨12, rfl, by decide, by decide, fun G hG => ?_⟩
    have npG : G ≠ p := ((npq.same s7).ne' hG).symm
    refine lc_range (n := 12) (fun i H' => ∃ l, H' G = some (.lst l) ∧ l.length ≤ i ∧ Notes H' l ((List.range i).map fun j : Nat => ((10 : Int) ^ 29 + (j : Int), (j : Int) - 6)) ∧ Same H7 H') ⟨[], upd_same, Nat.le_refl _, .nil, Same.new (Same.refl H7) hG⟩ ?_ ?_
    · rintro j H' hj ⟨l, hGl, ll, hn', s8⟩
      refine ⟨rfl, ?_⟩
      unfold tYes
      refine iteT ?_
      refine ⟨_, _, rfl, rfl, ⟨by decide, by decide +kernel⟩, ?_⟩
      refine ⟨_, rfl, _, _, rfl, rfl, _, rfl, _, _, rfl, rfl, by show 2 ≤ sizeLine; decide, fun t4 ht4 => ?_⟩
      have s9 := Same.new (o := .tup [.int ((10 : Int) ^ (29 : Int).toNat + (0 + (j : Int))), .int (0 + (j : Int) - 6)]) (Same.refl H') ht4
      have hG2 := s9 _ _ hGl
      refine ⟨_, hG2, by omega, l ++ [.ref t4], upd_same, by rw [List.length_append]; simp; omega, ?_, same_put (s8.trans s9) hG⟩
      rw [List.range_succ, List.map_append]
      refine Paired.snoc ⟨t4, rfl, (upd_ne (ne_of upd_same hG2 fun z => nomatch z)).trans ?_⟩ ((hn'.same s9).put hG2)
      rw [upd_same, Int.zero_add]
      rfl
    rintro H8 ⟨ln, hG8, lln, hn8, s8⟩
    have s48 := s7.trans s8
    have hD8 := s8 _ _ hD7
    refine ⟨hD8, loreK ((10 : Int) ^ (30 : Int).toNat) l2 G, rfl, by show 3 ≤ 15; decide, ?_⟩
    rw [merge_lore]
    have put : ∀ {q : Addr} {o o' : HO}, H8 q = some o → (∀ kvs, o ≠ .dK kvs) → upd H8 D o' q = some o := fun e n => (upd_ne (ne_of e hD8 (fun z => n _ z))).trans e
    have sY : Same H4 (upd H8 D (.dK (loreK ((10 : Int) ^ (30 : Int).toNat) l2 G))) := same_put s48 hD
    have rows : RowsAt H8 (List.replicate 12 (V.ref q)) (great r).ts := Paired.rep ⟨q, rfl, s48 _ _ hq4⟩ 12
    have Lg : LoreAt (upd H8 D (.dK (loreK ((10 : Int) ^ (30 : Int).toNat) l2 G))) p D (great r) :=
      ⟨l2, G, _, ln, upd_same, put (s8 _ _ at7) (fun _ z => nomatch z), put hG8 (fun _ z => nomatch z), np2, npG, rows.dput hD8, Notes.dput hD8 (show Notes H8 ln (great r).ns from hn8)⟩
    generalize upd H8 D (.dK (loreK ((10 : Int) ^ (30 : Int).toNat) l2 G)) = H9 at sY Lg ⊢
    refine ⟨_, rfl, p, D, great r, rfl, Lg, gok, fun y3 HA ny3 sA KA => ?_⟩
    refine ⟨_, rfl, p, y3, D, great r, rfl, KA, Lg.same sA, gok, fun HB' sB => ?_⟩
    exact fin ((sY.trans sA).trans sB)
end
end TT

namespace TT
open PySem PySem.Spec PyProof.Rows L2 LamX
def sp_law (K : PySem.W.Frag) (Z : Zs) : Sp := fun vs H Q _ => ∃ (a : Addr) (ns : List Int), vs = [.ref a] ∧ SqL K H a (ns.map V.int) ∧ ns.length ≤ 63 ∧ Tabs (tabs Z) H ∧ ∀ H', Q (.bl true) H'
theorem rg_item {m : Int} {i : Nat} {x : V} (h : (rgV 0 m)[i]? = some x) : ∃ z : Int, x = .int z ∧ 0 ≤ z ∧ z < m := by
  have := List.mem_of_getElem? h
  unfold rgV at this
  obtain ⟨j, hj, rfl⟩ := List.mem_map.mp this
  have := List.mem_range.mp hj
  exact ⟨0 + (j : Int), rfl, by omega, by omega⟩
section
variable {P : Program} {w : World} {K : PySem.W.Frag} {mg : Str → Option Value} {base : Heap} {Z : Zs}
theorem ok_law (T : Txt K mg Z) (TB : TabB base mg Z.c_l_right Z.t_l_right) : GOk P w K mg base CX0 20 Z.f_law Z.d_law ["_law_script"] (sp_law K Z) := by
  refine okG T.F_law sc_law (fun vs H Q E h => ?_) (fun cdv A outer s H vs Q E g hr h => ?_)
  · obtain ⟨a, ns, rfl, _⟩ := h
    rfl
  · obtain ⟨a, ns, rfl, hS, hl, hT, k⟩ := h
    refine ⟨_, (pss_cons (ps_for PassesOwn.never rfl (pi_list (pe_call (ok_l_cells T) (hr.mono (by decide)) rfl T.g_l_cells T.k_l_cells T.bn_l_cells .nil pass0 (pa_cons (pv 0) (pa_cons pe_int pa_nil)))) (pg_name (i := 1) sc_law.nd rfl (Or.inl rfl)) (pss_cons (ps_set (i := 2) sc_law.nd rfl (Or.inr rfl) (pe_call (ok_l_pot T) (hr.mono (by decide)) rfl T.g_l_pot T.k_l_pot T.bn_l_pot .nil pass0 (pa_cons (pv 0) (pa_cons (pv 1) pa_nil))))
      (pss_one (ps_if (pt_not (pt_val (pe_callB  (cr_all rfl) (by rfl) T.b_all (by decide +kernel) (pa_cons (pe_lc (own := [("_law_lap", 3)]) rfl sc_law.nd (pi_range1 rfl T.b_range (pa_cons pe_int pa_nil)) (blkOk_by (own := [("_law_lap", 3)]) (N := ["_law_script", "_law_k", "_law_pot_here", "_law_lap"]) (sc := defScope s_law) (by decide +kernel)) (fun _ _ _ _ _ => (pg_name (i := 3) sc_law.nd rfl (Or.inl rfl))) (fun _ _ _ _ _ => pts_nil) (fun _ _ _ _ _ => (pe_callG (ok_l_right T TB) (by exact g) (hr.mono (by decide)) rfl T.g_l_right T.k_l_right T.bn_l_right .nil pass0 (pa_cons (pv 2) pa_nil)))) pa_nil)))) (pss_one (ps_ret pe_bl)) pss_nil))))
      (pss_one (ps_ret pe_bl))), ?_⟩
    refine ⟨_, rfl, a, ns, 4, rfl, hS, hl, by decide, by decide, fun q m nq m1 m2 => ?_⟩
    have s0 := Same.new (o := .lst (rgV 0 m)) (Same.refl H) nq
    refine ⟨q, rfl, ⟨_, SqL.of upd_same⟩, for_list (xs := rgV 0 m) (fun _ σ H' => ∃ v1 v2, σ = [some (.ref a), v1, v2, none] ∧ ExtN (upd H q (.lst (rgV 0 m))) H' ∧ Tabs (tabs Z) H') ⟨_, _, rfl, ExtN.refl _, hT.ext s0⟩ (fun i σ H' _ ⟨_, _, _, e, _⟩ => ExtN.seq e (SqL.of upd_same)) ?_ ?_⟩
    · rintro i x σ H1 hi ⟨v1, v2, rfl, e1, hT1⟩
      obtain ⟨z, rfl, z0, z1⟩ := rg_item hi
      refine ⟨_, rfl, _, rfl, a, ns, z, rfl, ExtN.seq e1 (s0.seq hS), hl, z0, by omega, fun p H2 np s2 hp2 => ?_⟩
      refine ⟨4, rfl, by decide, by decide, fun D hD => ?_⟩
      have npD : p ≠ D := hp2.ne hD
      have hT2 := hT1.ext s2
      have sD := Same.new (o := .lst []) (Same.refl H2) hD
      refine lc_range (n := 4) (fun i H' => ∃ n', n' ≤ 500 * i ∧ Pot H' p n' ∧ H' D = some (.lst (List.replicate i (.bl true))) ∧ KeepN p H2 H' ∧ Tabs (tabs Z) H') ⟨0, Nat.le_refl _, hp2.new hD, upd_same, KeepN.of (Keep.rfl'.new hD), hT2.ext sD⟩ ?_ ?_
      · rintro j H' hj ⟨n', hn', hp', hD', kp', hT'⟩
        refine ⟨rfl, ?_⟩
        unfold tYes
        refine iteT ?_
        refine ⟨_, rfl, p, n', rfl, hp', by omega, hT', fun n2 H3 hn2 hp3 hT3 k3 => ?_⟩
        have hD3 := k3 _ _ npD.symm hD' (fun _ z => nomatch z)
        have kD : ∀ b o, b ≠ D → H3 b = some o → upd H3 D (.lst (List.replicate j (.bl true) ++ [.bl true])) b = some o := fun b o n e => by rw [upd_ne n]; exact e
        refine ⟨_, hD3, ?_, n2, by omega, ?_, ?_, fun b o nb e t => ?_, fun y hy => ?_⟩
        · rw [List.length_replicate]
          exact Nat.lt_trans hj (by decide)
        · obtain ⟨x1, x2, e1, e2⟩ := hp3
          exact ⟨x1, x2, kD _ _ npD e1, e2⟩
        · rw [← List.replicate_succ']
          exact upd_same
        · exact kD _ _ (ne_of_none e hD) (k3 _ _ nb (kp' _ _ nb e t) t)
        · obtain ⟨ps, h1, h2, h3⟩ := hT3 y hy
          refine ⟨ps, kD _ _ (ne_of h1 hD3 fun z => by cases z) h1, h2, fun pos cv hc => ?_⟩
          obtain ⟨c, g1, g2⟩ := h3 pos cv hc
          exact ⟨c, g1, kD _ _ (ne_of g2 hD3 fun z => by unfold CodeO at z; cases z) g2⟩
      · rintro H' ⟨n', hn', hp', hD', kp', hT'⟩
        refine ⟨D, List.replicate 4 true, rfl, SqL.of (by rw [List.map_replicate]; exact hD'), _, rfl, ?_⟩
        refine iteF ?_
        refine ⟨_, _, rfl, fun b o e t => ?_, hT'⟩
        have q1 := e1 _ _ e t
        exact kp' _ _ (ne_of_none q1 np) (s2 _ _ q1) t
    · rintro σ H' ⟨v1, v2, rfl, _⟩
      exact k H'
end
end TT

set_option Elab.async false
set_option linter.all false
set_option maxRecDepth 100000
set_option maxHeartbeats 8000000
namespace TT
open PySem PySem.Spec PyProof.Rows L2 LamX
theorem kit_self {K : PySem.W.Frag} {a : Addr} : PySem.W.kitOne K (.ref a) (.ref a) = some true := by
  unfold PySem.W.kitOne
  rw [if_pos (beq_iff_eq.mpr rfl)]
theorem kit_not {K : PySem.W.Frag} {T : String} {C : Addr} (h1 : PySem.W.mroIn K C (.type "object") = some true) (h2 : PySem.W.typeIn K (.ref C) = some (.type "type")) (h3 : PySem.W.subIn K (.type T) (.ref C) = some false) : PySem.W.kitOne K (.type T) (.ref C) = some false := by
  have h0 : (PySem.W.clsIn K C).isSome = true := by
    unfold PySem.W.mroIn at h1
    obtain ⟨cd, a, _⟩ := Option.bind_eq_some_iff.mp h1
    rw [a]; rfl
  have hc : PySem.W.kitCls K (.type T) (.ref C) = some false := by
    unfold PySem.W.kitCls
    simp only
    rw [if_pos (by rw [h0, h2]; rfl)]
    exact h3
  unfold PySem.W.kitOne
  have ne : ¬ ((Value.type T == Value.ref C) = true) := fun e => by
    have e2 := beq_iff_eq.mp e
    cases e2
  rw [if_neg ne]
  exact hc
theorem all_mk {l : PySem.W.OpenLaw} {q : Program} {w : World} {K : PySem.W.Frag} {h : Heap} {mg : Str → Option Value} {fa C CB c0 c1 f0 f1 f2 f3 f4 f5 f6 f7 f8 f9 f10 f11 f12 f13 f14 f15 f16 f17 f18 f19 f20 f21 f22 f23 f24 f25 f26 f27 f28 f29 f30 f31 f32 f33 f34 f35 f36 f37 f38 f39 f40 f41 f42 f43 f44 aT7 aD7 : Addr} (X : K.In h) (G : h.Ns mainGlobals mg) (hfa : mg "law" = some (.ref fa))
    (tab : ∀ d ∈ recsOf q, ∃ a o fd c P, mg d.name = some (.ref a) ∧ h.get? a = some o ∧ o.data = .func fd ∧ fd.code = .ref c ∧ h.IsCode c P #[] ∧ h.TableAt c P #[])
    {pS : Addr} {rS : List Value} {od0 an0 od1 an1 od2 an2 od3 an3 od4 an4 od5 an5 od6 an6 od7 an7 odT7 od8 an8 od9 an9 od10 an10 od11 an11 od12 an12 od13 an13 od14 an14 od15 an15 od16 an16 od17 an17 od18 an18 od19 an19 od20 an20 od21 an21 od22 an22 od23 an23 od24 an24 od25 an25 od26 an26 od27 an27 od28 an28 od29 an29 od30 an30 od31 an31 od32 an32 od33 an33 od34 an34 od35 an35 od36 an36 od37 an37 od38 an38 od39 an39 od40 an40 od41 an41 od42 an42 od43 an43 od44 an44 : Option Addr} {sl0 sl1 sl2 sl3 sl4 sl5 sl6 sl7 slT7 sl8 sl9 sl10 sl11 sl12 sl13 sl14 sl15 sl16 sl17 sl18 sl19 sl20 sl21 sl22 sl23 sl24 sl25 sl26 sl27 sl28 sl29 sl30 sl31 sl32 sl33 sl34 sl35 sl36 sl37 sl38 sl39 sl40 sl41 sl42 sl43 sl44 : Array (Option Value)} {oc0 kV0 dc0 pm0 cd0 ct0 oc1 kV1 dc1 pm1 cd1 ct1 oc2 kV2 dc2 pm2 cd2 ct2 oc3 kV3 dc3 pm3 cd3 ct3 oc4 kV4 dc4 pm4 cd4 ct4 oc5 kV5 dc5 pm5 cd5 ct5 oc6 kV6 dc6 pm6 cd6 ct6 oc7 dc7 pm7 cd7 ct7 ocT7 oc8 kV8 dc8 pm8 cd8 ct8 oc9 kV9 dc9 pm9 cd9 ct9 oc10 kV10 dc10 pm10 cd10 ct10 oc11 kV11 dc11 pm11 cd11 ct11 oc12 kV12 dc12 pm12 cd12 ct12 oc13 kV13 dc13 pm13 cd13 ct13 oc14 kV14 dc14 pm14 cd14 ct14 oc15 kV15 dc15 pm15 cd15 ct15 oc16 kV16 dc16 pm16 cd16 ct16 oc17 kV17 dc17 pm17 cd17 ct17 oc18 kV18 dc18 pm18 cd18 ct18 oc19 kV19 dc19 pm19 cd19 ct19 oc20 kV20 dc20 pm20 cd20 ct20 oc21 kV21 dc21 pm21 cd21 ct21 oc22 kV22 dc22 pm22 cd22 ct22 oc23 kV23 dc23 pm23 cd23 ct23 oc24 kV24 dc24 pm24 cd24 ct24 oc25 kV25 dc25 pm25 cd25 ct25 oc26 kV26 dc26 pm26 cd26 ct26 oc27 kV27 dc27 pm27 cd27 ct27 oc28 kV28 dc28 pm28 cd28 ct28 oc29 kV29 dc29 pm29 cd29 ct29 oc30 kV30 dc30 pm30 cd30 ct30 oc31 kV31 dc31 pm31 cd31 ct31 oc32 kV32 dc32 pm32 cd32 ct32 oc33 kV33 dc33 pm33 cd33 ct33 oc34 kV34 dc34 pm34 cd34 ct34 oc35 kV35 dc35 pm35 cd35 ct35 oc36 kV36 dc36 pm36 cd36 ct36 oc37 kV37 dc37 pm37 cd37 ct37 oc38 kV38 dc38 pm38 cd38 ct38 oc39 kV39 dc39 pm39 cd39 ct39 oc40 kV40 dc40 pm40 cd40 ct40 oc41 kV41 dc41 pm41 cd41 ct41 oc42 kV42 dc42 pm42 cd42 ct42 oc43 kV43 dc43 pm43 cd43 ct43 oc44 kV44 dc44 pm44 cd44 ct44 : Value} {nT7 : Nat} {tD7_0 t_GREATEST t__DIGITS t__CHUNK t_MOST : Tok}
    (aC : PySem.W.nsIn K mainGlobals "Tie" = some (some (.ref C)))
    (aB : PySem.W.nsIn K mainGlobals "Book" = some (some (.ref CB)))
    (m_read : PySem.W.readsIn K C (.type "type") = true)
    (m_ga : PySem.W.specialIn K (.ref C) "__getattribute__" = some (some (.builtin "type.__getattribute__")))
    (m_sta : PySem.W.findCls K (.ref C) (.type "type") "of" = some (.get (.builtin "staticmethod.__get__") (.ref pS) .none (.ref C)))
    (ge0 : PySem.W.nsIn K mainGlobals "NoTie" = some (some (.ref c0)))
    (ge1 : PySem.W.nsIn K mainGlobals "TuneError" = some (some (.ref c1)))
    (hin : PySem.W.findIn K (.ref c1) "__init__" = some (some (.ref f0)))
    (i0 : PySem.W.isFn K (.ref f0) = true)
    (l0 : K.lookup f0 = some ⟨oc0, od0, .func (PySem.W.fnOf "__init__" "TuneError.__init__" (defArgs s_E_init) (defBody s_E_init) (defScope s_E_init) .none kV0 dc0 pm0 an0 cd0 ct0), sl0⟩)
    (d0 : PySem.W.codeIn K cd0 "TuneError.__init__" = true)
    (k0 : PySem.W.keepIn K (.ref f0) = true)
    (a1 : PySem.W.nsIn K mainGlobals "is_whole" = some (some (.ref f1)))
    (l1 : K.lookup f1 = some ⟨oc1, od1, .func (PySem.W.fnOf "is_whole" "is_whole" (defArgs s_is_whole) (defBody s_is_whole) (defScope s_is_whole) .none kV1 dc1 pm1 an1 cd1 ct1), sl1⟩)
    (d1 : PySem.W.codeIn K cd1 "is_whole" = true)
    (k1 : PySem.W.keepIn K (.ref f1) = true)
    (a2 : PySem.W.nsIn K mainGlobals "is_from" = some (some (.ref f2)))
    (l2 : K.lookup f2 = some ⟨oc2, od2, .func (PySem.W.fnOf "is_from" "is_from" (defArgs s_is_from) (defBody s_is_from) (defScope s_is_from) .none kV2 dc2 pm2 an2 cd2 ct2), sl2⟩)
    (d2 : PySem.W.codeIn K cd2 "is_from" = true)
    (k2 : PySem.W.keepIn K (.ref f2) = true)
    (a3 : PySem.W.nsIn K mainGlobals "is_between" = some (some (.ref f3)))
    (l3 : K.lookup f3 = some ⟨oc3, od3, .func (PySem.W.fnOf "is_between" "is_between" (defArgs s_is_between) (defBody s_is_between) (defScope s_is_between) .none kV3 dc3 pm3 an3 cd3 ct3), sl3⟩)
    (d3 : PySem.W.codeIn K cd3 "is_between" = true)
    (k3 : PySem.W.keepIn K (.ref f3) = true)
    (a4 : PySem.W.nsIn K mainGlobals "written" = some (some (.ref f4)))
    (l4 : K.lookup f4 = some ⟨oc4, od4, .func (PySem.W.fnOf "written" "written" (defArgs s_written) (defBody s_written) (defScope s_written) .none kV4 dc4 pm4 an4 cd4 ct4), sl4⟩)
    (d4 : PySem.W.codeIn K cd4 "written" = true)
    (k4 : PySem.W.keepIn K (.ref f4) = true)
    (a5 : PySem.W.nsIn K mainGlobals "number_in" = some (some (.ref f5)))
    (l5 : K.lookup f5 = some ⟨oc5, od5, .func (PySem.W.fnOf "number_in" "number_in" (defArgs s_number_in) (defBody s_number_in) (defScope s_number_in) .none kV5 dc5 pm5 an5 cd5 ct5), sl5⟩)
    (d5 : PySem.W.codeIn K cd5 "number_in" = true)
    (k5 : PySem.W.keepIn K (.ref f5) = true)
    (a6 : PySem.W.nsIn K mainGlobals "_number_of" = some (some (.ref f6)))
    (l6 : K.lookup f6 = some ⟨oc6, od6, .func (PySem.W.fnOf "_number_of" "_number_of" (defArgs s_number_of) (defBody s_number_of) (defScope s_number_of) .none kV6 dc6 pm6 an6 cd6 ct6), sl6⟩)
    (d6 : PySem.W.codeIn K cd6 "_number_of" = true)
    (k6 : PySem.W.keepIn K (.ref f6) = true)
    (a7 : PySem.W.findIn K (.ref C) "__init__" = some (some (.ref f7)))
    (i7 : PySem.W.isFn K (.ref f7) = true)
    (l7 : K.lookup f7 = some ⟨oc7, od7, .func (PySem.W.fnOf "__init__" "Tie.__init__" (defArgs s_T_init) (defBody s_T_init) (defScope s_T_init) (.ref aT7) (.ref aD7) dc7 pm7 an7 cd7 ct7), sl7⟩)
    (d7 : PySem.W.codeIn K cd7 "Tie.__init__" = true)
    (k7 : PySem.W.keepIn K (.ref f7) = true)
    (lT7 : K.lookup aT7 = some ⟨ocT7, odT7, .seq ([Value.int 0 tD7_0] : List Value).toArray nT7, slT7⟩)
    (w7_down : PySem.W.nsIn K aD7 "down" = some (some (.bool false)))
    (w7_backward : PySem.W.nsIn K aD7 "backward" = some (some (.bool false)))
    (a8 : PySem.W.recIn K pS "staticmethod" = some ((.ref f8) :: rS))
    (i8 : PySem.W.isFn K (.ref f8) = true)
    (l8 : K.lookup f8 = some ⟨oc8, od8, .func (PySem.W.fnOf "of" "Tie.of" (defArgs s_T_of) (defBody s_T_of) (defScope s_T_of) .none kV8 dc8 pm8 an8 cd8 ct8), sl8⟩)
    (d8 : PySem.W.codeIn K cd8 "Tie.of" = true)
    (k8 : PySem.W.keepIn K (.ref f8) = true)
    (a9 : PySem.W.findIn K (.ref C) "__eq__" = some (some (.ref f9)))
    (i9 : PySem.W.isFn K (.ref f9) = true)
    (l9 : K.lookup f9 = some ⟨oc9, od9, .func (PySem.W.fnOf "__eq__" "Tie.__eq__" (defArgs s_T_eq) (defBody s_T_eq) (defScope s_T_eq) .none kV9 dc9 pm9 an9 cd9 ct9), sl9⟩)
    (d9 : PySem.W.codeIn K cd9 "Tie.__eq__" = true)
    (k9 : PySem.W.keepIn K (.ref f9) = true)
    (a10 : PySem.W.nsIn K mainGlobals "is_tie_within" = some (some (.ref f10)))
    (l10 : K.lookup f10 = some ⟨oc10, od10, .func (PySem.W.fnOf "is_tie_within" "is_tie_within" (defArgs s_is_tie_within) (defBody s_is_tie_within) (defScope s_is_tie_within) .none kV10 dc10 pm10 an10 cd10 ct10), sl10⟩)
    (d10 : PySem.W.codeIn K cd10 "is_tie_within" = true)
    (k10 : PySem.W.keepIn K (.ref f10) = true)
    (a11 : PySem.W.nsIn K mainGlobals "_check_parts" = some (some (.ref f11)))
    (l11 : K.lookup f11 = some ⟨oc11, od11, .func (PySem.W.fnOf "_check_parts" "_check_parts" (defArgs s_check_parts) (defBody s_check_parts) (defScope s_check_parts) .none kV11 dc11 pm11 an11 cd11 ct11), sl11⟩)
    (d11 : PySem.W.codeIn K cd11 "_check_parts" = true)
    (k11 : PySem.W.keepIn K (.ref f11) = true)
    (a12 : PySem.W.nsIn K mainGlobals "_check_leading" = some (some (.ref f12)))
    (l12 : K.lookup f12 = some ⟨oc12, od12, .func (PySem.W.fnOf "_check_leading" "_check_leading" (defArgs s_check_leading) (defBody s_check_leading) (defScope s_check_leading) .none kV12 dc12 pm12 an12 cd12 ct12), sl12⟩)
    (d12 : PySem.W.codeIn K cd12 "_check_leading" = true)
    (k12 : PySem.W.keepIn K (.ref f12) = true)
    (a13 : PySem.W.nsIn K mainGlobals "_values_in" = some (some (.ref f13)))
    (l13 : K.lookup f13 = some ⟨oc13, od13, .func (PySem.W.fnOf "_values_in" "_values_in" (defArgs s_values_in) (defBody s_values_in) (defScope s_values_in) .none kV13 dc13 pm13 an13 cd13 ct13), sl13⟩)
    (d13 : PySem.W.codeIn K cd13 "_values_in" = true)
    (k13 : PySem.W.keepIn K (.ref f13) = true)
    (a14 : PySem.W.nsIn K mainGlobals "numbers_behind" = some (some (.ref f14)))
    (l14 : K.lookup f14 = some ⟨oc14, od14, .func (PySem.W.fnOf "numbers_behind" "numbers_behind" (defArgs s_numbers_behind) (defBody s_numbers_behind) (defScope s_numbers_behind) .none kV14 dc14 pm14 an14 cd14 ct14), sl14⟩)
    (d14 : PySem.W.codeIn K cd14 "numbers_behind" = true)
    (k14 : PySem.W.keepIn K (.ref f14) = true)
    (a15 : PySem.W.nsIn K mainGlobals "tie_behind" = some (some (.ref f15)))
    (l15 : K.lookup f15 = some ⟨oc15, od15, .func (PySem.W.fnOf "tie_behind" "tie_behind" (defArgs s_tie_behind) (defBody s_tie_behind) (defScope s_tie_behind) .none kV15 dc15 pm15 an15 cd15 ct15), sl15⟩)
    (d15 : PySem.W.codeIn K cd15 "tie_behind" = true)
    (k15 : PySem.W.keepIn K (.ref f15) = true)
    (a16 : PySem.W.nsIn K mainGlobals "size_in" = some (some (.ref f16)))
    (l16 : K.lookup f16 = some ⟨oc16, od16, .func (PySem.W.fnOf "size_in" "size_in" (defArgs s_size_in) (defBody s_size_in) (defScope s_size_in) .none kV16 dc16 pm16 an16 cd16 ct16), sl16⟩)
    (d16 : PySem.W.codeIn K cd16 "size_in" = true)
    (k16 : PySem.W.keepIn K (.ref f16) = true)
    (a17 : PySem.W.nsIn K mainGlobals "tie_in" = some (some (.ref f17)))
    (l17 : K.lookup f17 = some ⟨oc17, od17, .func (PySem.W.fnOf "tie_in" "tie_in" (defArgs s_tie_in) (defBody s_tie_in) (defScope s_tie_in) .none kV17 dc17 pm17 an17 cd17 ct17), sl17⟩)
    (d17 : PySem.W.codeIn K cd17 "tie_in" = true)
    (k17 : PySem.W.keepIn K (.ref f17) = true)
    (a18 : PySem.W.nsIn K mainGlobals "note_in" = some (some (.ref f18)))
    (l18 : K.lookup f18 = some ⟨oc18, od18, .func (PySem.W.fnOf "note_in" "note_in" (defArgs s_note_in) (defBody s_note_in) (defScope s_note_in) .none kV18 dc18 pm18 an18 cd18 ct18), sl18⟩)
    (d18 : PySem.W.codeIn K cd18 "note_in" = true)
    (k18 : PySem.W.keepIn K (.ref f18) = true)
    (a19 : PySem.W.findIn K (.ref CB) "__init__" = some (some (.ref f19)))
    (i19 : PySem.W.isFn K (.ref f19) = true)
    (l19 : K.lookup f19 = some ⟨oc19, od19, .func (PySem.W.fnOf "__init__" "Book.__init__" (defArgs s_B_init) (defBody s_B_init) (defScope s_B_init) .none kV19 dc19 pm19 an19 cd19 ct19), sl19⟩)
    (d19 : PySem.W.codeIn K cd19 "Book.__init__" = true)
    (k19 : PySem.W.keepIn K (.ref f19) = true)
    (a20 : PySem.W.findIn K (.ref CB) "__len__" = some (some (.ref f20)))
    (i20 : PySem.W.isFn K (.ref f20) = true)
    (l20 : K.lookup f20 = some ⟨oc20, od20, .func (PySem.W.fnOf "__len__" "Book.__len__" (defArgs s_B_len) (defBody s_B_len) (defScope s_B_len) .none kV20 dc20 pm20 an20 cd20 ct20), sl20⟩)
    (d20 : PySem.W.codeIn K cd20 "Book.__len__" = true)
    (k20 : PySem.W.keepIn K (.ref f20) = true)
    (a21 : PySem.W.findIn K (.ref CB) "__getitem__" = some (some (.ref f21)))
    (i21 : PySem.W.isFn K (.ref f21) = true)
    (l21 : K.lookup f21 = some ⟨oc21, od21, .func (PySem.W.fnOf "__getitem__" "Book.__getitem__" (defArgs s_B_getitem) (defBody s_B_getitem) (defScope s_B_getitem) .none kV21 dc21 pm21 an21 cd21 ct21), sl21⟩)
    (d21 : PySem.W.codeIn K cd21 "Book.__getitem__" = true)
    (k21 : PySem.W.keepIn K (.ref f21) = true)
    (a22 : PySem.W.findIn K (.ref CB) "__contains__" = some (some (.ref f22)))
    (i22 : PySem.W.isFn K (.ref f22) = true)
    (l22 : K.lookup f22 = some ⟨oc22, od22, .func (PySem.W.fnOf "__contains__" "Book.__contains__" (defArgs s_B_contains) (defBody s_B_contains) (defScope s_B_contains) .none kV22 dc22 pm22 an22 cd22 ct22), sl22⟩)
    (d22 : PySem.W.codeIn K cd22 "Book.__contains__" = true)
    (k22 : PySem.W.keepIn K (.ref f22) = true)
    (a23 : PySem.W.findIn K (.ref CB) "__eq__" = some (some (.ref f23)))
    (i23 : PySem.W.isFn K (.ref f23) = true)
    (l23 : K.lookup f23 = some ⟨oc23, od23, .func (PySem.W.fnOf "__eq__" "Book.__eq__" (defArgs s_B_eq) (defBody s_B_eq) (defScope s_B_eq) .none kV23 dc23 pm23 an23 cd23 ct23), sl23⟩)
    (d23 : PySem.W.codeIn K cd23 "Book.__eq__" = true)
    (k23 : PySem.W.keepIn K (.ref f23) = true)
    (a24 : PySem.W.nsIn K mainGlobals "_contents" = some (some (.ref f24)))
    (l24 : K.lookup f24 = some ⟨oc24, od24, .func (PySem.W.fnOf "_contents" "_contents" (defArgs s_contents) (defBody s_contents) (defScope s_contents) .none kV24 dc24 pm24 an24 cd24 ct24), sl24⟩)
    (d24 : PySem.W.codeIn K cd24 "_contents" = true)
    (k24 : PySem.W.keepIn K (.ref f24) = true)
    (a25 : PySem.W.nsIn K mainGlobals "_first_ties" = some (some (.ref f25)))
    (l25 : K.lookup f25 = some ⟨oc25, od25, .func (PySem.W.fnOf "_first_ties" "_first_ties" (defArgs s_first_ties) (defBody s_first_ties) (defScope s_first_ties) .none kV25 dc25 pm25 an25 cd25 ct25), sl25⟩)
    (d25 : PySem.W.codeIn K cd25 "_first_ties" = true)
    (k25 : PySem.W.keepIn K (.ref f25) = true)
    (a26 : PySem.W.nsIn K mainGlobals "_first_notes" = some (some (.ref f26)))
    (l26 : K.lookup f26 = some ⟨oc26, od26, .func (PySem.W.fnOf "_first_notes" "_first_notes" (defArgs s_first_notes) (defBody s_first_notes) (defScope s_first_notes) .none kV26 dc26 pm26 an26 cd26 ct26), sl26⟩)
    (d26 : PySem.W.codeIn K cd26 "_first_notes" = true)
    (k26 : PySem.W.keepIn K (.ref f26) = true)
    (a27 : PySem.W.nsIn K mainGlobals "_has_note" = some (some (.ref f27)))
    (l27 : K.lookup f27 = some ⟨oc27, od27, .func (PySem.W.fnOf "_has_note" "_has_note" (defArgs s_has_note) (defBody s_has_note) (defScope s_has_note) .none kV27 dc27 pm27 an27 cd27 ct27), sl27⟩)
    (d27 : PySem.W.codeIn K cd27 "_has_note" = true)
    (k27 : PySem.W.keepIn K (.ref f27) = true)
    (a28 : PySem.W.nsIn K mainGlobals "_law_pot" = some (some (.ref f28)))
    (l28 : K.lookup f28 = some ⟨oc28, od28, .func (PySem.W.fnOf "_law_pot" "_law_pot" (defArgs s_l_pot) (defBody s_l_pot) (defScope s_l_pot) .none kV28 dc28 pm28 an28 cd28 ct28), sl28⟩)
    (d28 : PySem.W.codeIn K cd28 "_law_pot" = true)
    (k28 : PySem.W.keepIn K (.ref f28) = true)
    (a29 : PySem.W.nsIn K mainGlobals "_law_take" = some (some (.ref f29)))
    (l29 : K.lookup f29 = some ⟨oc29, od29, .func (PySem.W.fnOf "_law_take" "_law_take" (defArgs s_l_take) (defBody s_l_take) (defScope s_l_take) .none kV29 dc29 pm29 an29 cd29 ct29), sl29⟩)
    (d29 : PySem.W.codeIn K cd29 "_law_take" = true)
    (k29 : PySem.W.keepIn K (.ref f29) = true)
    (a30 : PySem.W.nsIn K mainGlobals "_law_of" = some (some (.ref f30)))
    (l30 : K.lookup f30 = some ⟨oc30, od30, .func (PySem.W.fnOf "_law_of" "_law_of" (defArgs s_l_of) (defBody s_l_of) (defScope s_l_of) .none kV30 dc30 pm30 an30 cd30 ct30), sl30⟩)
    (d30 : PySem.W.codeIn K cd30 "_law_of" = true)
    (k30 : PySem.W.keepIn K (.ref f30) = true)
    (a31 : PySem.W.nsIn K mainGlobals "_law_cells" = some (some (.ref f31)))
    (l31 : K.lookup f31 = some ⟨oc31, od31, .func (PySem.W.fnOf "_law_cells" "_law_cells" (defArgs s_l_cells) (defBody s_l_cells) (defScope s_l_cells) .none kV31 dc31 pm31 an31 cd31 ct31), sl31⟩)
    (d31 : PySem.W.codeIn K cd31 "_law_cells" = true)
    (k31 : PySem.W.keepIn K (.ref f31) = true)
    (a32 : PySem.W.nsIn K mainGlobals "_law_met_error" = some (some (.ref f32)))
    (l32 : K.lookup f32 = some ⟨oc32, od32, .func (PySem.W.fnOf "_law_met_error" "_law_met_error" (defArgs s_l_met_error) (defBody s_l_met_error) (defScope s_l_met_error) .none kV32 dc32 pm32 an32 cd32 ct32), sl32⟩)
    (d32 : PySem.W.codeIn K cd32 "_law_met_error" = true)
    (k32 : PySem.W.keepIn K (.ref f32) = true)
    (a33 : PySem.W.nsIn K mainGlobals "_law_odd" = some (some (.ref f33)))
    (l33 : K.lookup f33 = some ⟨oc33, od33, .func (PySem.W.fnOf "_law_odd" "_law_odd" (defArgs s_l_odd) (defBody s_l_odd) (defScope s_l_odd) .none kV33 dc33 pm33 an33 cd33 ct33), sl33⟩)
    (d33 : PySem.W.codeIn K cd33 "_law_odd" = true)
    (k33 : PySem.W.keepIn K (.ref f33) = true)
    (a34 : PySem.W.nsIn K mainGlobals "_law_amount" = some (some (.ref f34)))
    (l34 : K.lookup f34 = some ⟨oc34, od34, .func (PySem.W.fnOf "_law_amount" "_law_amount" (defArgs s_l_amount) (defBody s_l_amount) (defScope s_l_amount) .none kV34 dc34 pm34 an34 cd34 ct34), sl34⟩)
    (d34 : PySem.W.codeIn K cd34 "_law_amount" = true)
    (k34 : PySem.W.keepIn K (.ref f34) = true)
    (a35 : PySem.W.nsIn K mainGlobals "_law_row" = some (some (.ref f35)))
    (l35 : K.lookup f35 = some ⟨oc35, od35, .func (PySem.W.fnOf "_law_row" "_law_row" (defArgs s_l_row) (defBody s_l_row) (defScope s_l_row) .none kV35 dc35 pm35 an35 cd35 ct35), sl35⟩)
    (d35 : PySem.W.codeIn K cd35 "_law_row" = true)
    (k35 : PySem.W.keepIn K (.ref f35) = true)
    (a36 : PySem.W.nsIn K mainGlobals "_law_tie" = some (some (.ref f36)))
    (l36 : K.lookup f36 = some ⟨oc36, od36, .func (PySem.W.fnOf "_law_tie" "_law_tie" (defArgs s_l_tie) (defBody s_l_tie) (defScope s_l_tie) .none kV36 dc36 pm36 an36 cd36 ct36), sl36⟩)
    (d36 : PySem.W.codeIn K cd36 "_law_tie" = true)
    (k36 : PySem.W.keepIn K (.ref f36) = true)
    (a37 : PySem.W.nsIn K mainGlobals "_law_row_of" = some (some (.ref f37)))
    (l37 : K.lookup f37 = some ⟨oc37, od37, .func (PySem.W.fnOf "_law_row_of" "_law_row_of" (defArgs s_l_row_of) (defBody s_l_row_of) (defScope s_l_row_of) .none kV37 dc37 pm37 an37 cd37 ct37), sl37⟩)
    (d37 : PySem.W.codeIn K cd37 "_law_row_of" = true)
    (k37 : PySem.W.keepIn K (.ref f37) = true)
    (a38 : PySem.W.nsIn K mainGlobals "_law_text_of" = some (some (.ref f38)))
    (l38 : K.lookup f38 = some ⟨oc38, od38, .func (PySem.W.fnOf "_law_text_of" "_law_text_of" (defArgs s_l_text_of) (defBody s_l_text_of) (defScope s_l_text_of) .none kV38 dc38 pm38 an38 cd38 ct38), sl38⟩)
    (d38 : PySem.W.codeIn K cd38 "_law_text_of" = true)
    (k38 : PySem.W.keepIn K (.ref f38) = true)
    (a39 : PySem.W.nsIn K mainGlobals "_law_lore" = some (some (.ref f39)))
    (l39 : K.lookup f39 = some ⟨oc39, od39, .func (PySem.W.fnOf "_law_lore" "_law_lore" (defArgs s_l_lore) (defBody s_l_lore) (defScope s_l_lore) .none kV39 dc39 pm39 an39 cd39 ct39), sl39⟩)
    (d39 : PySem.W.codeIn K cd39 "_law_lore" = true)
    (k39 : PySem.W.keepIn K (.ref f39) = true)
    (a40 : PySem.W.nsIn K mainGlobals "_law_lines" = some (some (.ref f40)))
    (l40 : K.lookup f40 = some ⟨oc40, od40, .func (PySem.W.fnOf "_law_lines" "_law_lines" (defArgs s_l_lines) (defBody s_l_lines) (defScope s_l_lines) .none kV40 dc40 pm40 an40 cd40 ct40), sl40⟩)
    (d40 : PySem.W.codeIn K cd40 "_law_lines" = true)
    (k40 : PySem.W.keepIn K (.ref f40) = true)
    (a41 : PySem.W.nsIn K mainGlobals "_law_book" = some (some (.ref f41)))
    (l41 : K.lookup f41 = some ⟨oc41, od41, .func (PySem.W.fnOf "_law_book" "_law_book" (defArgs s_l_book) (defBody s_l_book) (defScope s_l_book) .none kV41 dc41 pm41 an41 cd41 ct41), sl41⟩)
    (d41 : PySem.W.codeIn K cd41 "_law_book" = true)
    (k41 : PySem.W.keepIn K (.ref f41) = true)
    (a42 : PySem.W.nsIn K mainGlobals "_law_is_as" = some (some (.ref f42)))
    (l42 : K.lookup f42 = some ⟨oc42, od42, .func (PySem.W.fnOf "_law_is_as" "_law_is_as" (defArgs s_l_is_as) (defBody s_l_is_as) (defScope s_l_is_as) .none kV42 dc42 pm42 an42 cd42 ct42), sl42⟩)
    (d42 : PySem.W.codeIn K cd42 "_law_is_as" = true)
    (k42 : PySem.W.keepIn K (.ref f42) = true)
    (a43 : PySem.W.nsIn K mainGlobals "_law_right" = some (some (.ref f43)))
    (l43 : K.lookup f43 = some ⟨oc43, od43, .func (PySem.W.fnOf "_law_right" "_law_right" (defArgs s_l_right) (defBody s_l_right) (defScope s_l_right) .none kV43 dc43 pm43 an43 cd43 ct43), sl43⟩)
    (d43 : PySem.W.codeIn K cd43 "_law_right" = true)
    (k43 : PySem.W.keepIn K (.ref f43) = true)
    (a44 : PySem.W.nsIn K mainGlobals "law" = some (some (.ref f44)))
    (l44 : K.lookup f44 = some ⟨oc44, od44, .func (PySem.W.fnOf "law" "law" (defArgs s_law) (defBody s_law) (defScope s_law) .none kV44 dc44 pm44 an44 cd44 ct44), sl44⟩)
    (d44 : PySem.W.codeIn K cd44 "law" = true)
    (k44 : PySem.W.keepIn K (.ref f44) = true)
    (b_isinstance : PySem.W.nsIn K mainGlobals "isinstance" = some none)
    (b_int : PySem.W.nsIn K mainGlobals "int" = some none)
    (b_bool : PySem.W.nsIn K mainGlobals "bool" = some none)
    (b_str : PySem.W.nsIn K mainGlobals "str" = some none)
    (b_range : PySem.W.nsIn K mainGlobals "range" = some none)
    (b_len : PySem.W.nsIn K mainGlobals "len" = some none)
    (b_max : PySem.W.nsIn K mainGlobals "max" = some none)
    (b_tuple : PySem.W.nsIn K mainGlobals "tuple" = some none)
    (b_abs : PySem.W.nsIn K mainGlobals "abs" = some none)
    (b_list : PySem.W.nsIn K mainGlobals "list" = some none)
    (b_min : PySem.W.nsIn K mainGlobals "min" = some none)
    (b_repr : PySem.W.nsIn K mainGlobals "repr" = some none)
    (b_enumerate : PySem.W.nsIn K mainGlobals "enumerate" = some none)
    (b_all : PySem.W.nsIn K mainGlobals "all" = some none)
    (y_GREATEST : PySem.W.nsIn K mainGlobals "GREATEST" = some (some (.int 1000000000000000000000000000000 t_GREATEST)))
    (y__DIGITS : PySem.W.nsIn K mainGlobals "_DIGITS" = some (some (.int 64 t__DIGITS)))
    (y__CHUNK : PySem.W.nsIn K mainGlobals "_CHUNK" = some (some (.int 10000000000000000000000000000000000000000000000000000000000000000 t__CHUNK)))
    (y_MOST : PySem.W.nsIn K mainGlobals "MOST" = some (some (.int 12 t_MOST)))
    (pg : PySem.W.plainGet K C Str.empty = true)
    (hd : PySem.W.hasDictIn K C = true)
    (po : PySem.W.plainOver K C = true)
    (sa : PySem.W.findIn K (.ref C) "__setattr__" = some (some (.builtin "object.__setattr__")))
    (mkc : PySem.W.makesIn K C = true)
    (kcc : PySem.W.keepIn K (.ref C) = true)
    (n_first : PySem.W.findIn K (.ref C) "first" = some none)
    (n_second : PySem.W.findIn K (.ref C) "second" = some none)
    (n_length : PySem.W.findIn K (.ref C) "length" = some none)
    (n_amount : PySem.W.findIn K (.ref C) "amount" = some none)
    (n_down : PySem.W.findIn K (.ref C) "down" = some none)
    (n_backward : PySem.W.findIn K (.ref C) "backward" = some none)
    (n_text : PySem.W.findIn K (.ref C) "text" = some none)
    (pgB : PySem.W.plainGet K CB Str.empty = true)
    (hdB : PySem.W.hasDictIn K CB = true)
    (poB : PySem.W.plainOver K CB = true)
    (saB : PySem.W.findIn K (.ref CB) "__setattr__" = some (some (.builtin "object.__setattr__")))
    (mkcB : PySem.W.makesIn K CB = true)
    (kccB : PySem.W.keepIn K (.ref CB) = true)
    (nB_text : PySem.W.findIn K (.ref CB) "text" = some none)
    (nB_size : PySem.W.findIn K (.ref CB) "size" = some none)
    (nB_ties : PySem.W.findIn K (.ref CB) "ties" = some none)
    (nB_notes : PySem.W.findIn K (.ref CB) "notes" = some none)
    (m_z_cls : PySem.W.findIn K (.ref C) "__class__" = some (some (.builtin "object.__class__")))
    (m_z_mro : PySem.W.mroIn K C (.type "object") = some true)
    (m_z_ty : PySem.W.typeIn K (.ref C) = some (.type "type"))
    (m_z_clsB : PySem.W.findIn K (.ref CB) "__class__" = some (some (.builtin "object.__class__")))
    (m_z_mroB : PySem.W.mroIn K CB (.type "object") = some true)
    (m_z_tyB : PySem.W.typeIn K (.ref CB) = some (.type "type"))
    (m_z_get : PySem.W.specialIn K (.builtin "object.__class__") "__get__" = some (some (.builtin "getset_descriptor.__get__")))
    (m_z_tk : PySem.W.takesIn K (.builtin "object.__class__") = some true)
    (m_z_subN : PySem.W.subIn K (.type "NoneType") (.ref C) = some false)
    (m_z_subT : PySem.W.subIn K (.type "tuple") (.ref C) = some false)
    (m_z_subL : PySem.W.subIn K (.type "list") (.ref C) = some false)
    (m_z_subD : PySem.W.subIn K (.type "dict") (.ref C) = some false)
    (m_z_subI : PySem.W.subIn K (.type "int") (.ref C) = some false)
    (m_z_subO : PySem.W.subIn K (.type "bool") (.ref C) = some false)
    (m_z_subS : PySem.W.subIn K (.type "str") (.ref C) = some false)
    (m_z_subIB : PySem.W.subIn K (.type "int") (.ref CB) = some false)
    (m_z_notIB : PySem.W.notFirst K CB (.type "int") = true)
    (m_z_subSB : PySem.W.subIn K (.type "str") (.ref CB) = some false)
    (m_z_notSB : PySem.W.notFirst K CB (.type "str") = true)
    (m_z_notT : PySem.W.notFirst K C (.type "tuple") = true)
    (m_z_notTB : PySem.W.notFirst K CB (.type "tuple") = true)
    (m_z_neB : PySem.W.findIn K (.ref CB) "__ne__" = some (some (.builtin "object.__ne__")))
    (m_z_fn : PySem.W.fnIn K f21 = true)
    (b_ValueErrorX : PySem.W.nsIn K mainGlobals "ValueError" = some none)
    (zve : PySem.W.findCls K (.type "ValueError") (.type "type") "__init__" = some (.val (.builtin "ValueError.__init__")))
    (tin : PySem.W.typeIn K (.ref f0) = some (.type "function"))
    (zget : PySem.W.specialIn K (.builtin "object.__class__") "__get__" = some (some (.builtin "getset_descriptor.__get__")))
    (ztk : PySem.W.takesIn K (.builtin "object.__class__") = some true)
    (e0 : ExcF K c1 f0 c0)
    (e1 : ExcF K c1 f0 c1)
    (nd : ([c0, c1] : List Addr).Nodup)
    (hx43 : ((recsOf q).any fun d => d.name == "_law_right") = true) :
    ∃ (fd : FuncData) (cs : List (Addr × Addr)) (sp : Sp), (∀ p ∈ cs, PySem.W.CodeHd h p.1 p.2 ∧ h.get? p.2 = some tab0) ∧ (∀ (s : Shared) (u : Value), BindsTo s fd ⟨[u], []⟩ [("_law_script", u)]) ∧
        (∀ (H : Hp) (a : Addr) (ns : List Int), ns.length ≤ 63 → (∀ p ∈ cs, H p.2 = some (.tbl #[])) → SqL K H a (ns.map V.int) → sp [.ref a] H (fun v _ => v = .bl true) fun _ _ _ => False) ∧
        ∀ base : Heap, K.In base → base.Ns mainGlobals mg → (∀ p ∈ cs, TabB base mg p.1 p.2) → GOk l.prog w K mg base CX0 20 fa fd ["_law_script"] sp := by
  have e := hfa.symm.trans (PySem.W.mg_of X G a44)
  cases e
  have F0 := fun_mk (st := s_E_init) l0 d0 k0
  have F1 := fun_mk (st := s_is_whole) l1 d1 k1
  have F2 := fun_mk (st := s_is_from) l2 d2 k2
  have F3 := fun_mk (st := s_is_between) l3 d3 k3
  have F4 := fun_mk (st := s_written) l4 d4 k4
  have F5 := fun_mk (st := s_number_in) l5 d5 k5
  have F6 := fun_mk (st := s_number_of) l6 d6 k6
  have F7 : FunD K "__init__" "Tie.__init__" (defArgs s_T_init) (defBody s_T_init) (defScope s_T_init) [.int 0] [("down", .bl false), ("backward", .bl false)] f7 (PySem.W.fnOf "__init__" "Tie.__init__" (defArgs s_T_init) (defBody s_T_init) (defScope s_T_init) (.ref aT7) (.ref aD7) dc7 pm7 an7 cd7 ct7) := by
    refine ⟨⟨_, _, _, _, _, _, _, _, _, _, rfl, l7, d7, .inr ⟨by decide, aT7, _, _, _, rfl, lT7, rfl, .cons ⟨_, rfl⟩ .nil⟩, .inr ⟨aD7, rfl, fun q hq => ?_⟩⟩, k7⟩
    simp only [List.mem_cons, List.not_mem_nil, or_false] at hq
    rcases hq with rfl | rfl
    · exact ⟨_, w7_down, rfl⟩
    · exact ⟨_, w7_backward, rfl⟩
  have F8 := fun_mk (st := s_T_of) l8 d8 k8
  have F9 := fun_mk (st := s_T_eq) l9 d9 k9
  have F10 := fun_mk (st := s_is_tie_within) l10 d10 k10
  have F11 := fun_mk (st := s_check_parts) l11 d11 k11
  have F12 := fun_mk (st := s_check_leading) l12 d12 k12
  have F13 := fun_mk (st := s_values_in) l13 d13 k13
  have F14 := fun_mk (st := s_numbers_behind) l14 d14 k14
  have F15 := fun_mk (st := s_tie_behind) l15 d15 k15
  have F16 := fun_mk (st := s_size_in) l16 d16 k16
  have F17 := fun_mk (st := s_tie_in) l17 d17 k17
  have F18 := fun_mk (st := s_note_in) l18 d18 k18
  have F19 := fun_mk (st := s_B_init) l19 d19 k19
  have F20 := fun_mk (st := s_B_len) l20 d20 k20
  have F21 := fun_mk (st := s_B_getitem) l21 d21 k21
  have F22 := fun_mk (st := s_B_contains) l22 d22 k22
  have F23 := fun_mk (st := s_B_eq) l23 d23 k23
  have F24 := fun_mk (st := s_contents) l24 d24 k24
  have F25 := fun_mk (st := s_first_ties) l25 d25 k25
  have F26 := fun_mk (st := s_first_notes) l26 d26 k26
  have F27 := fun_mk (st := s_has_note) l27 d27 k27
  have F28 := fun_mk (st := s_l_pot) l28 d28 k28
  have F29 := fun_mk (st := s_l_take) l29 d29 k29
  have F30 := fun_mk (st := s_l_of) l30 d30 k30
  have F31 := fun_mk (st := s_l_cells) l31 d31 k31
  have F32 := fun_mk (st := s_l_met_error) l32 d32 k32
  have F33 := fun_mk (st := s_l_odd) l33 d33 k33
  have F34 := fun_mk (st := s_l_amount) l34 d34 k34
  have F35 := fun_mk (st := s_l_row) l35 d35 k35
  have F36 := fun_mk (st := s_l_tie) l36 d36 k36
  have F37 := fun_mk (st := s_l_row_of) l37 d37 k37
  have F38 := fun_mk (st := s_l_text_of) l38 d38 k38
  have F39 := fun_mk (st := s_l_lore) l39 d39 k39
  have F40 := fun_mk (st := s_l_lines) l40 d40 k40
  have F41 := fun_mk (st := s_l_book) l41 d41 k41
  have F42 := fun_mk (st := s_l_is_as) l42 d42 k42
  obtain ⟨cc43, PT43, ecd43, hcd43, htb43⟩ := tab_at tab X hx43 (PySem.W.mg_of X G a43) l43
  have ecd43' : cd43 = .ref cc43 := ecd43
  subst ecd43'
  have F43 : FunC K "_law_right" "_law_right" s_l_right f43 (PySem.W.fnOf "_law_right" "_law_right" (defArgs s_l_right) (defBody s_l_right) (defScope s_l_right) .none kV43 dc43 pm43 an43 (.ref cc43) ct43) cc43 := ⟨⟨_, _, _, _, _, _, _, _, rfl, l43, d43⟩, k43⟩
  have F44 := fun_mk (st := s_law) l44 d44 k44
  have cs_all : ∀ i, i < 2 → ExcT K c1 f0 (([c0, c1] : List Addr).getD i 0) := fun i hi => match i, hi with
    | 0, _ => e0.all zget ztk
    | 1, _ => e1.all zget ztk
    | i + 2, h => absurd h (by omega)
  have T : Txt K mg { pS := pS, f_E_init := f0, d_E_init := PySem.W.fnOf "__init__" "TuneError.__init__" (defArgs s_E_init) (defBody s_E_init) (defScope s_E_init) .none kV0 dc0 pm0 an0 cd0 ct0, f_is_whole := f1, d_is_whole := PySem.W.fnOf "is_whole" "is_whole" (defArgs s_is_whole) (defBody s_is_whole) (defScope s_is_whole) .none kV1 dc1 pm1 an1 cd1 ct1, f_is_from := f2, d_is_from := PySem.W.fnOf "is_from" "is_from" (defArgs s_is_from) (defBody s_is_from) (defScope s_is_from) .none kV2 dc2 pm2 an2 cd2 ct2, f_is_between := f3, d_is_between := PySem.W.fnOf "is_between" "is_between" (defArgs s_is_between) (defBody s_is_between) (defScope s_is_between) .none kV3 dc3 pm3 an3 cd3 ct3, f_written := f4, d_written := PySem.W.fnOf "written" "written" (defArgs s_written) (defBody s_written) (defScope s_written) .none kV4 dc4 pm4 an4 cd4 ct4, f_number_in := f5, d_number_in := PySem.W.fnOf "number_in" "number_in" (defArgs s_number_in) (defBody s_number_in) (defScope s_number_in) .none kV5 dc5 pm5 an5 cd5 ct5, f_number_of := f6, d_number_of := PySem.W.fnOf "_number_of" "_number_of" (defArgs s_number_of) (defBody s_number_of) (defScope s_number_of) .none kV6 dc6 pm6 an6 cd6 ct6, f_T_init := f7, d_T_init := PySem.W.fnOf "__init__" "Tie.__init__" (defArgs s_T_init) (defBody s_T_init) (defScope s_T_init) (.ref aT7) (.ref aD7) dc7 pm7 an7 cd7 ct7, f_T_of := f8, d_T_of := PySem.W.fnOf "of" "Tie.of" (defArgs s_T_of) (defBody s_T_of) (defScope s_T_of) .none kV8 dc8 pm8 an8 cd8 ct8, f_T_eq := f9, d_T_eq := PySem.W.fnOf "__eq__" "Tie.__eq__" (defArgs s_T_eq) (defBody s_T_eq) (defScope s_T_eq) .none kV9 dc9 pm9 an9 cd9 ct9, f_is_tie_within := f10, d_is_tie_within := PySem.W.fnOf "is_tie_within" "is_tie_within" (defArgs s_is_tie_within) (defBody s_is_tie_within) (defScope s_is_tie_within) .none kV10 dc10 pm10 an10 cd10 ct10, f_check_parts := f11, d_check_parts := PySem.W.fnOf "_check_parts" "_check_parts" (defArgs s_check_parts) (defBody s_check_parts) (defScope s_check_parts) .none kV11 dc11 pm11 an11 cd11 ct11, f_check_leading := f12, d_check_leading := PySem.W.fnOf "_check_leading" "_check_leading" (defArgs s_check_leading) (defBody s_check_leading) (defScope s_check_leading) .none kV12 dc12 pm12 an12 cd12 ct12, f_values_in := f13, d_values_in := PySem.W.fnOf "_values_in" "_values_in" (defArgs s_values_in) (defBody s_values_in) (defScope s_values_in) .none kV13 dc13 pm13 an13 cd13 ct13, f_numbers_behind := f14, d_numbers_behind := PySem.W.fnOf "numbers_behind" "numbers_behind" (defArgs s_numbers_behind) (defBody s_numbers_behind) (defScope s_numbers_behind) .none kV14 dc14 pm14 an14 cd14 ct14, f_tie_behind := f15, d_tie_behind := PySem.W.fnOf "tie_behind" "tie_behind" (defArgs s_tie_behind) (defBody s_tie_behind) (defScope s_tie_behind) .none kV15 dc15 pm15 an15 cd15 ct15, f_size_in := f16, d_size_in := PySem.W.fnOf "size_in" "size_in" (defArgs s_size_in) (defBody s_size_in) (defScope s_size_in) .none kV16 dc16 pm16 an16 cd16 ct16, f_tie_in := f17, d_tie_in := PySem.W.fnOf "tie_in" "tie_in" (defArgs s_tie_in) (defBody s_tie_in) (defScope s_tie_in) .none kV17 dc17 pm17 an17 cd17 ct17, f_note_in := f18, d_note_in := PySem.W.fnOf "note_in" "note_in" (defArgs s_note_in) (defBody s_note_in) (defScope s_note_in) .none kV18 dc18 pm18 an18 cd18 ct18, f_B_init := f19, d_B_init := PySem.W.fnOf "__init__" "Book.__init__" (defArgs s_B_init) (defBody s_B_init) (defScope s_B_init) .none kV19 dc19 pm19 an19 cd19 ct19, f_B_len := f20, d_B_len := PySem.W.fnOf "__len__" "Book.__len__" (defArgs s_B_len) (defBody s_B_len) (defScope s_B_len) .none kV20 dc20 pm20 an20 cd20 ct20, f_B_getitem := f21, d_B_getitem := PySem.W.fnOf "__getitem__" "Book.__getitem__" (defArgs s_B_getitem) (defBody s_B_getitem) (defScope s_B_getitem) .none kV21 dc21 pm21 an21 cd21 ct21, f_B_contains := f22, d_B_contains := PySem.W.fnOf "__contains__" "Book.__contains__" (defArgs s_B_contains) (defBody s_B_contains) (defScope s_B_contains) .none kV22 dc22 pm22 an22 cd22 ct22, f_B_eq := f23, d_B_eq := PySem.W.fnOf "__eq__" "Book.__eq__" (defArgs s_B_eq) (defBody s_B_eq) (defScope s_B_eq) .none kV23 dc23 pm23 an23 cd23 ct23, f_contents := f24, d_contents := PySem.W.fnOf "_contents" "_contents" (defArgs s_contents) (defBody s_contents) (defScope s_contents) .none kV24 dc24 pm24 an24 cd24 ct24, f_first_ties := f25, d_first_ties := PySem.W.fnOf "_first_ties" "_first_ties" (defArgs s_first_ties) (defBody s_first_ties) (defScope s_first_ties) .none kV25 dc25 pm25 an25 cd25 ct25, f_first_notes := f26, d_first_notes := PySem.W.fnOf "_first_notes" "_first_notes" (defArgs s_first_notes) (defBody s_first_notes) (defScope s_first_notes) .none kV26 dc26 pm26 an26 cd26 ct26, f_has_note := f27, d_has_note := PySem.W.fnOf "_has_note" "_has_note" (defArgs s_has_note) (defBody s_has_note) (defScope s_has_note) .none kV27 dc27 pm27 an27 cd27 ct27, f_l_pot := f28, d_l_pot := PySem.W.fnOf "_law_pot" "_law_pot" (defArgs s_l_pot) (defBody s_l_pot) (defScope s_l_pot) .none kV28 dc28 pm28 an28 cd28 ct28, f_l_take := f29, d_l_take := PySem.W.fnOf "_law_take" "_law_take" (defArgs s_l_take) (defBody s_l_take) (defScope s_l_take) .none kV29 dc29 pm29 an29 cd29 ct29, f_l_of := f30, d_l_of := PySem.W.fnOf "_law_of" "_law_of" (defArgs s_l_of) (defBody s_l_of) (defScope s_l_of) .none kV30 dc30 pm30 an30 cd30 ct30, f_l_cells := f31, d_l_cells := PySem.W.fnOf "_law_cells" "_law_cells" (defArgs s_l_cells) (defBody s_l_cells) (defScope s_l_cells) .none kV31 dc31 pm31 an31 cd31 ct31, f_l_met_error := f32, d_l_met_error := PySem.W.fnOf "_law_met_error" "_law_met_error" (defArgs s_l_met_error) (defBody s_l_met_error) (defScope s_l_met_error) .none kV32 dc32 pm32 an32 cd32 ct32, f_l_odd := f33, d_l_odd := PySem.W.fnOf "_law_odd" "_law_odd" (defArgs s_l_odd) (defBody s_l_odd) (defScope s_l_odd) .none kV33 dc33 pm33 an33 cd33 ct33, f_l_amount := f34, d_l_amount := PySem.W.fnOf "_law_amount" "_law_amount" (defArgs s_l_amount) (defBody s_l_amount) (defScope s_l_amount) .none kV34 dc34 pm34 an34 cd34 ct34, f_l_row := f35, d_l_row := PySem.W.fnOf "_law_row" "_law_row" (defArgs s_l_row) (defBody s_l_row) (defScope s_l_row) .none kV35 dc35 pm35 an35 cd35 ct35, f_l_tie := f36, d_l_tie := PySem.W.fnOf "_law_tie" "_law_tie" (defArgs s_l_tie) (defBody s_l_tie) (defScope s_l_tie) .none kV36 dc36 pm36 an36 cd36 ct36, f_l_row_of := f37, d_l_row_of := PySem.W.fnOf "_law_row_of" "_law_row_of" (defArgs s_l_row_of) (defBody s_l_row_of) (defScope s_l_row_of) .none kV37 dc37 pm37 an37 cd37 ct37, f_l_text_of := f38, d_l_text_of := PySem.W.fnOf "_law_text_of" "_law_text_of" (defArgs s_l_text_of) (defBody s_l_text_of) (defScope s_l_text_of) .none kV38 dc38 pm38 an38 cd38 ct38, f_l_lore := f39, d_l_lore := PySem.W.fnOf "_law_lore" "_law_lore" (defArgs s_l_lore) (defBody s_l_lore) (defScope s_l_lore) .none kV39 dc39 pm39 an39 cd39 ct39, f_l_lines := f40, d_l_lines := PySem.W.fnOf "_law_lines" "_law_lines" (defArgs s_l_lines) (defBody s_l_lines) (defScope s_l_lines) .none kV40 dc40 pm40 an40 cd40 ct40, f_l_book := f41, d_l_book := PySem.W.fnOf "_law_book" "_law_book" (defArgs s_l_book) (defBody s_l_book) (defScope s_l_book) .none kV41 dc41 pm41 an41 cd41 ct41, f_l_is_as := f42, d_l_is_as := PySem.W.fnOf "_law_is_as" "_law_is_as" (defArgs s_l_is_as) (defBody s_l_is_as) (defScope s_l_is_as) .none kV42 dc42 pm42 an42 cd42 ct42, f_l_right := f43, d_l_right := PySem.W.fnOf "_law_right" "_law_right" (defArgs s_l_right) (defBody s_l_right) (defScope s_l_right) .none kV43 dc43 pm43 an43 (.ref cc43) ct43, c_l_right := cc43, t_l_right := PT43, f_law := fa, d_law := PySem.W.fnOf "law" "law" (defArgs s_law) (defBody s_law) (defScope s_law) .none kV44 dc44 pm44 an44 cd44 ct44, t_GREATEST := t_GREATEST, t__DIGITS := t__DIGITS, t__CHUNK := t__CHUNK, t_MOST := t_MOST, cC := C, cB := CB, c := fun i => ([c0, c1] : List Addr).getD i 0 } := { g_NoTie := PySem.W.mg_of X G ge0, g_TuneError := PySem.W.mg_of X G ge1, F_E_init := F0, bn_E_init := F0.binds (ps := ["self", "value"]) fun _ _ _ _ _ _ us hl => match us, hl with | [_, _], _ => rfl, k_E_init := k0, i_E_init := i0, F_is_whole := F1, bn_is_whole := F1.binds (ps := ["value"]) fun _ _ _ _ _ _ us hl => match us, hl with | [_], _ => rfl, k_is_whole := k1, g_is_whole := PySem.W.mg_of X G a1, F_is_from := F2, bn_is_from := F2.binds (ps := ["value", "least"]) fun _ _ _ _ _ _ us hl => match us, hl with | [_, _], _ => rfl, k_is_from := k2, g_is_from := PySem.W.mg_of X G a2, F_is_between := F3, bn_is_between := F3.binds (ps := ["value", "least", "greatest"]) fun _ _ _ _ _ _ us hl => match us, hl with | [_, _, _], _ => rfl, k_is_between := k3, g_is_between := PySem.W.mg_of X G a3, F_written := F4, bn_written := F4.binds (ps := ["number"]) fun _ _ _ _ _ _ us hl => match us, hl with | [_], _ => rfl, k_written := k4, g_written := PySem.W.mg_of X G a4, F_number_in := F5, bn_number_in := F5.binds (ps := ["word"]) fun _ _ _ _ _ _ us hl => match us, hl with | [_], _ => rfl, k_number_in := k5, g_number_in := PySem.W.mg_of X G a5, F_number_of := F6, bn_number_of := F6.binds (ps := ["digits"]) fun _ _ _ _ _ _ us hl => match us, hl with | [_], _ => rfl, k_number_of := k6, g_number_of := PySem.W.mg_of X G a6, F_T_init := F7, k_T_init := k7, i_T_init := i7, a_T_init := a7, F_T_of := F8, bn_T_of := F8.binds (ps := ["text"]) fun _ _ _ _ _ _ us hl => match us, hl with | [_], _ => rfl, k_T_of := k8, i_T_of := i8, F_T_eq := F9, bn_T_eq := F9.binds (ps := ["self", "other"]) fun _ _ _ _ _ _ us hl => match us, hl with | [_, _], _ => rfl, k_T_eq := k9, i_T_eq := i9, a_T_eq := a9, F_is_tie_within := F10, bn_is_tie_within := F10.binds (ps := ["value", "size"]) fun _ _ _ _ _ _ us hl => match us, hl with | [_, _], _ => rfl, k_is_tie_within := k10, g_is_tie_within := PySem.W.mg_of X G a10, F_check_parts := F11, bn_check_parts := F11.binds (ps := ["first", "second", "length"]) fun _ _ _ _ _ _ us hl => match us, hl with | [_, _, _], _ => rfl, k_check_parts := k11, g_check_parts := PySem.W.mg_of X G a11, F_check_leading := F12, bn_check_leading := F12.binds (ps := ["amount", "down", "backward"]) fun _ _ _ _ _ _ us hl => match us, hl with | [_, _, _], _ => rfl, k_check_leading := k12, g_check_leading := PySem.W.mg_of X G a12, F_values_in := F13, bn_values_in := F13.binds (ps := ["text"]) fun _ _ _ _ _ _ us hl => match us, hl with | [_], _ => rfl, k_values_in := k13, g_values_in := PySem.W.mg_of X G a13, F_numbers_behind := F14, bn_numbers_behind := F14.binds (ps := ["line", "word", "many"]) fun _ _ _ _ _ _ us hl => match us, hl with | [_, _, _], _ => rfl, k_numbers_behind := k14, g_numbers_behind := PySem.W.mg_of X G a14, F_tie_behind := F15, bn_tie_behind := F15.binds (ps := ["line", "word"]) fun _ _ _ _ _ _ us hl => match us, hl with | [_, _], _ => rfl, k_tie_behind := k15, g_tie_behind := PySem.W.mg_of X G a15, F_size_in := F16, bn_size_in := F16.binds (ps := ["line"]) fun _ _ _ _ _ _ us hl => match us, hl with | [_], _ => rfl, k_size_in := k16, g_size_in := PySem.W.mg_of X G a16, F_tie_in := F17, bn_tie_in := F17.binds (ps := ["line", "size"]) fun _ _ _ _ _ _ us hl => match us, hl with | [_, _], _ => rfl, k_tie_in := k17, g_tie_in := PySem.W.mg_of X G a17, F_note_in := F18, bn_note_in := F18.binds (ps := ["line", "size"]) fun _ _ _ _ _ _ us hl => match us, hl with | [_, _], _ => rfl, k_note_in := k18, g_note_in := PySem.W.mg_of X G a18, F_B_init := F19, bn_B_init := F19.binds (ps := ["self", "text"]) fun _ _ _ _ _ _ us hl => match us, hl with | [_, _], _ => rfl, k_B_init := k19, i_B_init := i19, a_B_init := a19, F_B_len := F20, bn_B_len := F20.binds (ps := ["self"]) fun _ _ _ _ _ _ us hl => match us, hl with | [_], _ => rfl, k_B_len := k20, i_B_len := i20, a_B_len := a20, F_B_getitem := F21, bn_B_getitem := F21.binds (ps := ["self", "at"]) fun _ _ _ _ _ _ us hl => match us, hl with | [_, _], _ => rfl, k_B_getitem := k21, i_B_getitem := i21, a_B_getitem := a21, F_B_contains := F22, bn_B_contains := F22.binds (ps := ["self", "x"]) fun _ _ _ _ _ _ us hl => match us, hl with | [_, _], _ => rfl, k_B_contains := k22, i_B_contains := i22, a_B_contains := a22, F_B_eq := F23, bn_B_eq := F23.binds (ps := ["self", "other"]) fun _ _ _ _ _ _ us hl => match us, hl with | [_, _], _ => rfl, k_B_eq := k23, i_B_eq := i23, a_B_eq := a23, F_contents := F24, bn_contents := F24.binds (ps := ["text"]) fun _ _ _ _ _ _ us hl => match us, hl with | [_], _ => rfl, k_contents := k24, g_contents := PySem.W.mg_of X G a24, F_first_ties := F25, bn_first_ties := F25.binds (ps := ["lines", "size"]) fun _ _ _ _ _ _ us hl => match us, hl with | [_, _], _ => rfl, k_first_ties := k25, g_first_ties := PySem.W.mg_of X G a25, F_first_notes := F26, bn_first_notes := F26.binds (ps := ["lines", "size"]) fun _ _ _ _ _ _ us hl => match us, hl with | [_, _], _ => rfl, k_first_notes := k26, g_first_notes := PySem.W.mg_of X G a26, F_has_note := F27, bn_has_note := F27.binds (ps := ["notes", "place"]) fun _ _ _ _ _ _ us hl => match us, hl with | [_, _], _ => rfl, k_has_note := k27, g_has_note := PySem.W.mg_of X G a27, F_l_pot := F28, bn_l_pot := F28.binds (ps := ["_law_script", "_law_k"]) fun _ _ _ _ _ _ us hl => match us, hl with | [_, _], _ => rfl, k_l_pot := k28, g_l_pot := PySem.W.mg_of X G a28, F_l_take := F29, bn_l_take := F29.binds (ps := ["_law_pot_here", "_law_under"]) fun _ _ _ _ _ _ us hl => match us, hl with | [_, _], _ => rfl, k_l_take := k29, g_l_take := PySem.W.mg_of X G a29, F_l_of := F30, bn_l_of := F30.binds (ps := ["_law_pot_here", "_law_some"]) fun _ _ _ _ _ _ us hl => match us, hl with | [_, _], _ => rfl, k_l_of := k30, g_l_of := PySem.W.mg_of X G a30, F_l_cells := F31, bn_l_cells := F31.binds (ps := ["_law_script", "_law_most"]) fun _ _ _ _ _ _ us hl => match us, hl with | [_, _], _ => rfl, k_l_cells := k31, g_l_cells := PySem.W.mg_of X G a31, F_l_met_error := F32, bn_l_met_error := F32.binds (ps := ["_law_look"]) fun _ _ _ _ _ _ us hl => match us, hl with | [_], _ => rfl, k_l_met_error := k32, g_l_met_error := PySem.W.mg_of X G a32, F_l_odd := F33, bn_l_odd := F33.binds (ps := ["_law_pot_here"]) fun _ _ _ _ _ _ us hl => match us, hl with | [_], _ => rfl, k_l_odd := k33, g_l_odd := PySem.W.mg_of X G a33, F_l_amount := F34, bn_l_amount := F34.binds (ps := ["_law_pot_here"]) fun _ _ _ _ _ _ us hl => match us, hl with | [_], _ => rfl, k_l_amount := k34, g_l_amount := PySem.W.mg_of X G a34, F_l_row := F35, bn_l_row := F35.binds (ps := ["_law_pot_here", "_law_size"]) fun _ _ _ _ _ _ us hl => match us, hl with | [_, _], _ => rfl, k_l_row := k35, g_l_row := PySem.W.mg_of X G a35, F_l_tie := F36, bn_l_tie := F36.binds (ps := ["_law_row_here"]) fun _ _ _ _ _ _ us hl => match us, hl with | [_], _ => rfl, k_l_tie := k36, g_l_tie := PySem.W.mg_of X G a36, F_l_row_of := F37, bn_l_row_of := F37.binds (ps := ["_law_tie_here"]) fun _ _ _ _ _ _ us hl => match us, hl with | [_], _ => rfl, k_l_row_of := k37, g_l_row_of := PySem.W.mg_of X G a37, F_l_text_of := F38, bn_l_text_of := F38.binds (ps := ["_law_row_here"]) fun _ _ _ _ _ _ us hl => match us, hl with | [_], _ => rfl, k_l_text_of := k38, g_l_text_of := PySem.W.mg_of X G a38, F_l_lore := F39, bn_l_lore := F39.binds (ps := ["_law_pot_here", "_law_most", "_law_ties", "_law_notes"]) fun _ _ _ _ _ _ us hl => match us, hl with | [_, _, _, _], _ => rfl, k_l_lore := k39, g_l_lore := PySem.W.mg_of X G a39, F_l_lines := F40, bn_l_lines := F40.binds (ps := ["_law_lore_here"]) fun _ _ _ _ _ _ us hl => match us, hl with | [_], _ => rfl, k_l_lines := k40, g_l_lines := PySem.W.mg_of X G a40, F_l_book := F41, bn_l_book := F41.binds (ps := ["_law_lore_here"]) fun _ _ _ _ _ _ us hl => match us, hl with | [_], _ => rfl, k_l_book := k41, g_l_book := PySem.W.mg_of X G a41, F_l_is_as := F42, bn_l_is_as := F42.binds (ps := ["_law_book_here", "_law_lore_here"]) fun _ _ _ _ _ _ us hl => match us, hl with | [_, _], _ => rfl, k_l_is_as := k42, g_l_is_as := PySem.W.mg_of X G a42, F_l_right := F43, bn_l_right := F43.fn.binds (ps := ["_law_pot_here"]) fun _ _ _ _ _ _ us hl => match us, hl with | [_], _ => rfl, k_l_right := k43, g_l_right := PySem.W.mg_of X G a43, F_law := F44, bn_law := F44.binds (ps := ["_law_script"]) fun _ _ _ _ _ _ us hl => match us, hl with | [_], _ => rfl, k_law := k44, g_law := PySem.W.mg_of X G a44, b_isinstance := PySem.W.mg_none_of X G b_isinstance, b_int := PySem.W.mg_none_of X G b_int, b_bool := PySem.W.mg_none_of X G b_bool, b_str := PySem.W.mg_none_of X G b_str, b_range := PySem.W.mg_none_of X G b_range, b_len := PySem.W.mg_none_of X G b_len, b_max := PySem.W.mg_none_of X G b_max, b_tuple := PySem.W.mg_none_of X G b_tuple, b_abs := PySem.W.mg_none_of X G b_abs, b_list := PySem.W.mg_none_of X G b_list, b_min := PySem.W.mg_none_of X G b_min, b_repr := PySem.W.mg_none_of X G b_repr, b_enumerate := PySem.W.mg_none_of X G b_enumerate, b_all := PySem.W.mg_none_of X G b_all, c_GREATEST := PySem.W.mg_of X G y_GREATEST, c__DIGITS := PySem.W.mg_of X G y__DIGITS, c__CHUNK := PySem.W.mg_of X G y__CHUNK, c_MOST := PySem.W.mg_of X G y_MOST, cl := ⟨pg, hd, po, sa⟩, g_C := PySem.W.mg_of X G aC, mkC := mkc, kC := kcc, n_first := n_first, n_second := n_second, n_length := n_length, n_amount := n_amount, n_down := n_down, n_backward := n_backward, n_text := n_text, clB := ⟨pgB, hdB, poB, saB⟩, g_Bk := PySem.W.mg_of X G aB, mkBc := mkcB, kB := kccB, nB_text := nB_text, nB_size := nB_size, nB_ties := nB_ties, nB_notes := nB_notes, z_cls := m_z_cls, z_mro := m_z_mro, z_kit := kit_self, z_ty := m_z_ty, z_clsB := m_z_clsB, z_mroB := m_z_mroB, z_kitB := kit_self, z_tyB := m_z_tyB, z_get := m_z_get, z_tk := m_z_tk, z_read := ⟨m_read, m_ga⟩, z_sta := ⟨m_sta, ⟨_, a8⟩, k8⟩, z_subN := m_z_subN, z_kitN := (kit_not m_z_mro m_z_ty m_z_subN), z_subT := m_z_subT, z_kitT := (kit_not m_z_mro m_z_ty m_z_subT), z_subL := m_z_subL, z_kitL := (kit_not m_z_mro m_z_ty m_z_subL), z_subD := m_z_subD, z_kitD := (kit_not m_z_mro m_z_ty m_z_subD), z_subI := m_z_subI, z_kitI := (kit_not m_z_mro m_z_ty m_z_subI), z_subO := m_z_subO, z_kitO := (kit_not m_z_mro m_z_ty m_z_subO), z_subS := m_z_subS, z_kitS := (kit_not m_z_mro m_z_ty m_z_subS), z_subIB := m_z_subIB, z_kitIB := (kit_not m_z_mroB m_z_tyB m_z_subIB), z_notIB := m_z_notIB, z_subSB := m_z_subSB, z_kitSB := (kit_not m_z_mroB m_z_tyB m_z_subSB), z_notSB := m_z_notSB, z_notT := m_z_notT, z_notTB := m_z_notTB, z_neB := m_z_neB, z_fn := m_z_fn, b_ValueError := PySem.W.mg_none_of X G b_ValueErrorX, z_ve := zve, t_E_init := tin, ex := fun i hi => cs_all i hi, nd := fun i j hi hj e => nd_at nd (by simpa using hi) (by simpa using hj) e }
  refine ⟨_, [(cc43, PT43)], sp_law K { pS := pS, f_E_init := f0, d_E_init := PySem.W.fnOf "__init__" "TuneError.__init__" (defArgs s_E_init) (defBody s_E_init) (defScope s_E_init) .none kV0 dc0 pm0 an0 cd0 ct0, f_is_whole := f1, d_is_whole := PySem.W.fnOf "is_whole" "is_whole" (defArgs s_is_whole) (defBody s_is_whole) (defScope s_is_whole) .none kV1 dc1 pm1 an1 cd1 ct1, f_is_from := f2, d_is_from := PySem.W.fnOf "is_from" "is_from" (defArgs s_is_from) (defBody s_is_from) (defScope s_is_from) .none kV2 dc2 pm2 an2 cd2 ct2, f_is_between := f3, d_is_between := PySem.W.fnOf "is_between" "is_between" (defArgs s_is_between) (defBody s_is_between) (defScope s_is_between) .none kV3 dc3 pm3 an3 cd3 ct3, f_written := f4, d_written := PySem.W.fnOf "written" "written" (defArgs s_written) (defBody s_written) (defScope s_written) .none kV4 dc4 pm4 an4 cd4 ct4, f_number_in := f5, d_number_in := PySem.W.fnOf "number_in" "number_in" (defArgs s_number_in) (defBody s_number_in) (defScope s_number_in) .none kV5 dc5 pm5 an5 cd5 ct5, f_number_of := f6, d_number_of := PySem.W.fnOf "_number_of" "_number_of" (defArgs s_number_of) (defBody s_number_of) (defScope s_number_of) .none kV6 dc6 pm6 an6 cd6 ct6, f_T_init := f7, d_T_init := PySem.W.fnOf "__init__" "Tie.__init__" (defArgs s_T_init) (defBody s_T_init) (defScope s_T_init) (.ref aT7) (.ref aD7) dc7 pm7 an7 cd7 ct7, f_T_of := f8, d_T_of := PySem.W.fnOf "of" "Tie.of" (defArgs s_T_of) (defBody s_T_of) (defScope s_T_of) .none kV8 dc8 pm8 an8 cd8 ct8, f_T_eq := f9, d_T_eq := PySem.W.fnOf "__eq__" "Tie.__eq__" (defArgs s_T_eq) (defBody s_T_eq) (defScope s_T_eq) .none kV9 dc9 pm9 an9 cd9 ct9, f_is_tie_within := f10, d_is_tie_within := PySem.W.fnOf "is_tie_within" "is_tie_within" (defArgs s_is_tie_within) (defBody s_is_tie_within) (defScope s_is_tie_within) .none kV10 dc10 pm10 an10 cd10 ct10, f_check_parts := f11, d_check_parts := PySem.W.fnOf "_check_parts" "_check_parts" (defArgs s_check_parts) (defBody s_check_parts) (defScope s_check_parts) .none kV11 dc11 pm11 an11 cd11 ct11, f_check_leading := f12, d_check_leading := PySem.W.fnOf "_check_leading" "_check_leading" (defArgs s_check_leading) (defBody s_check_leading) (defScope s_check_leading) .none kV12 dc12 pm12 an12 cd12 ct12, f_values_in := f13, d_values_in := PySem.W.fnOf "_values_in" "_values_in" (defArgs s_values_in) (defBody s_values_in) (defScope s_values_in) .none kV13 dc13 pm13 an13 cd13 ct13, f_numbers_behind := f14, d_numbers_behind := PySem.W.fnOf "numbers_behind" "numbers_behind" (defArgs s_numbers_behind) (defBody s_numbers_behind) (defScope s_numbers_behind) .none kV14 dc14 pm14 an14 cd14 ct14, f_tie_behind := f15, d_tie_behind := PySem.W.fnOf "tie_behind" "tie_behind" (defArgs s_tie_behind) (defBody s_tie_behind) (defScope s_tie_behind) .none kV15 dc15 pm15 an15 cd15 ct15, f_size_in := f16, d_size_in := PySem.W.fnOf "size_in" "size_in" (defArgs s_size_in) (defBody s_size_in) (defScope s_size_in) .none kV16 dc16 pm16 an16 cd16 ct16, f_tie_in := f17, d_tie_in := PySem.W.fnOf "tie_in" "tie_in" (defArgs s_tie_in) (defBody s_tie_in) (defScope s_tie_in) .none kV17 dc17 pm17 an17 cd17 ct17, f_note_in := f18, d_note_in := PySem.W.fnOf "note_in" "note_in" (defArgs s_note_in) (defBody s_note_in) (defScope s_note_in) .none kV18 dc18 pm18 an18 cd18 ct18, f_B_init := f19, d_B_init := PySem.W.fnOf "__init__" "Book.__init__" (defArgs s_B_init) (defBody s_B_init) (defScope s_B_init) .none kV19 dc19 pm19 an19 cd19 ct19, f_B_len := f20, d_B_len := PySem.W.fnOf "__len__" "Book.__len__" (defArgs s_B_len) (defBody s_B_len) (defScope s_B_len) .none kV20 dc20 pm20 an20 cd20 ct20, f_B_getitem := f21, d_B_getitem := PySem.W.fnOf "__getitem__" "Book.__getitem__" (defArgs s_B_getitem) (defBody s_B_getitem) (defScope s_B_getitem) .none kV21 dc21 pm21 an21 cd21 ct21, f_B_contains := f22, d_B_contains := PySem.W.fnOf "__contains__" "Book.__contains__" (defArgs s_B_contains) (defBody s_B_contains) (defScope s_B_contains) .none kV22 dc22 pm22 an22 cd22 ct22, f_B_eq := f23, d_B_eq := PySem.W.fnOf "__eq__" "Book.__eq__" (defArgs s_B_eq) (defBody s_B_eq) (defScope s_B_eq) .none kV23 dc23 pm23 an23 cd23 ct23, f_contents := f24, d_contents := PySem.W.fnOf "_contents" "_contents" (defArgs s_contents) (defBody s_contents) (defScope s_contents) .none kV24 dc24 pm24 an24 cd24 ct24, f_first_ties := f25, d_first_ties := PySem.W.fnOf "_first_ties" "_first_ties" (defArgs s_first_ties) (defBody s_first_ties) (defScope s_first_ties) .none kV25 dc25 pm25 an25 cd25 ct25, f_first_notes := f26, d_first_notes := PySem.W.fnOf "_first_notes" "_first_notes" (defArgs s_first_notes) (defBody s_first_notes) (defScope s_first_notes) .none kV26 dc26 pm26 an26 cd26 ct26, f_has_note := f27, d_has_note := PySem.W.fnOf "_has_note" "_has_note" (defArgs s_has_note) (defBody s_has_note) (defScope s_has_note) .none kV27 dc27 pm27 an27 cd27 ct27, f_l_pot := f28, d_l_pot := PySem.W.fnOf "_law_pot" "_law_pot" (defArgs s_l_pot) (defBody s_l_pot) (defScope s_l_pot) .none kV28 dc28 pm28 an28 cd28 ct28, f_l_take := f29, d_l_take := PySem.W.fnOf "_law_take" "_law_take" (defArgs s_l_take) (defBody s_l_take) (defScope s_l_take) .none kV29 dc29 pm29 an29 cd29 ct29, f_l_of := f30, d_l_of := PySem.W.fnOf "_law_of" "_law_of" (defArgs s_l_of) (defBody s_l_of) (defScope s_l_of) .none kV30 dc30 pm30 an30 cd30 ct30, f_l_cells := f31, d_l_cells := PySem.W.fnOf "_law_cells" "_law_cells" (defArgs s_l_cells) (defBody s_l_cells) (defScope s_l_cells) .none kV31 dc31 pm31 an31 cd31 ct31, f_l_met_error := f32, d_l_met_error := PySem.W.fnOf "_law_met_error" "_law_met_error" (defArgs s_l_met_error) (defBody s_l_met_error) (defScope s_l_met_error) .none kV32 dc32 pm32 an32 cd32 ct32, f_l_odd := f33, d_l_odd := PySem.W.fnOf "_law_odd" "_law_odd" (defArgs s_l_odd) (defBody s_l_odd) (defScope s_l_odd) .none kV33 dc33 pm33 an33 cd33 ct33, f_l_amount := f34, d_l_amount := PySem.W.fnOf "_law_amount" "_law_amount" (defArgs s_l_amount) (defBody s_l_amount) (defScope s_l_amount) .none kV34 dc34 pm34 an34 cd34 ct34, f_l_row := f35, d_l_row := PySem.W.fnOf "_law_row" "_law_row" (defArgs s_l_row) (defBody s_l_row) (defScope s_l_row) .none kV35 dc35 pm35 an35 cd35 ct35, f_l_tie := f36, d_l_tie := PySem.W.fnOf "_law_tie" "_law_tie" (defArgs s_l_tie) (defBody s_l_tie) (defScope s_l_tie) .none kV36 dc36 pm36 an36 cd36 ct36, f_l_row_of := f37, d_l_row_of := PySem.W.fnOf "_law_row_of" "_law_row_of" (defArgs s_l_row_of) (defBody s_l_row_of) (defScope s_l_row_of) .none kV37 dc37 pm37 an37 cd37 ct37, f_l_text_of := f38, d_l_text_of := PySem.W.fnOf "_law_text_of" "_law_text_of" (defArgs s_l_text_of) (defBody s_l_text_of) (defScope s_l_text_of) .none kV38 dc38 pm38 an38 cd38 ct38, f_l_lore := f39, d_l_lore := PySem.W.fnOf "_law_lore" "_law_lore" (defArgs s_l_lore) (defBody s_l_lore) (defScope s_l_lore) .none kV39 dc39 pm39 an39 cd39 ct39, f_l_lines := f40, d_l_lines := PySem.W.fnOf "_law_lines" "_law_lines" (defArgs s_l_lines) (defBody s_l_lines) (defScope s_l_lines) .none kV40 dc40 pm40 an40 cd40 ct40, f_l_book := f41, d_l_book := PySem.W.fnOf "_law_book" "_law_book" (defArgs s_l_book) (defBody s_l_book) (defScope s_l_book) .none kV41 dc41 pm41 an41 cd41 ct41, f_l_is_as := f42, d_l_is_as := PySem.W.fnOf "_law_is_as" "_law_is_as" (defArgs s_l_is_as) (defBody s_l_is_as) (defScope s_l_is_as) .none kV42 dc42 pm42 an42 cd42 ct42, f_l_right := f43, d_l_right := PySem.W.fnOf "_law_right" "_law_right" (defArgs s_l_right) (defBody s_l_right) (defScope s_l_right) .none kV43 dc43 pm43 an43 (.ref cc43) ct43, c_l_right := cc43, t_l_right := PT43, f_law := fa, d_law := PySem.W.fnOf "law" "law" (defArgs s_law) (defBody s_law) (defScope s_law) .none kV44 dc44 pm44 an44 cd44 ct44, t_GREATEST := t_GREATEST, t__DIGITS := t__DIGITS, t__CHUNK := t__CHUNK, t_MOST := t_MOST, cC := C, cB := CB, c := fun i => ([c0, c1] : List Addr).getD i 0 }, fun p hp => ?_, fun s v => .of_eq rfl, fun H a ns hl hT hS => ⟨a, ns, rfl, hS, hl, fun p hp => ?_, fun _ => rfl⟩, fun base _ _ hTB => ok_law T (hTB (cc43, PT43) (by simp))⟩
  · simp only [List.mem_cons, List.not_mem_nil, or_false] at hp
    rcases hp with rfl
    · exact ⟨hcd43, htb43⟩
  · simp only [tabs, List.mem_cons, List.not_mem_nil, or_false] at hp
    rcases hp with rfl
    · exact TabS.nil (hT (cc43, PT43) (by simp))
end TT

set_option Elab.async false
set_option linter.all false
open PySem PySem.W PyProof.Rows
set_option maxRecDepth 100000 in
set_option maxHeartbeats 0 in
theorem PySem.Challenge.cw_turnedtunes_k09_books_read_holds : PySem.Challenge.rw_turnedtunes_k09_books_read.Holds := by
  w_on; o_law; k_head; (case hw => w_witness2)
  k_fill
  refine TT.walk_gT (n := 63) (k := 20) (x := "_law_script") (l := PySem.Challenge.rw_turnedtunes_k09_books_read) rfl (by decide) rfl ⟨rfl, by decide, by decide⟩ (fun w h Y => by first | exact PySem.W.km_in_of Y | exact PySem.W.kIn_of Y) (fun w => by kernel_rfl) ?F
  case F =>
    intro w mg fa h KX G hmg tab
    refine' TT.all_mk KX G hmg tab ?zz_aC ?zz_aB ?zz_m_read ?zz_m_ga ?zz_m_sta ?zz_ge0 ?zz_ge1 ?zz_hin ?zz_i0 ?zz_l0 ?zz_d0 ?zz_k0 ?zz_a1 ?zz_l1 ?zz_d1 ?zz_k1 ?zz_a2 ?zz_l2 ?zz_d2 ?zz_k2 ?zz_a3 ?zz_l3 ?zz_d3 ?zz_k3 ?zz_a4 ?zz_l4 ?zz_d4 ?zz_k4 ?zz_a5 ?zz_l5 ?zz_d5 ?zz_k5 ?zz_a6 ?zz_l6 ?zz_d6 ?zz_k6 ?zz_a7 ?zz_i7 ?zz_l7 ?zz_d7 ?zz_k7 ?zz_lT7 ?zz_w7_down ?zz_w7_backward ?zz_a8 ?zz_i8 ?zz_l8 ?zz_d8 ?zz_k8 ?zz_a9 ?zz_i9 ?zz_l9 ?zz_d9 ?zz_k9 ?zz_a10 ?zz_l10 ?zz_d10 ?zz_k10 ?zz_a11 ?zz_l11 ?zz_d11 ?zz_k11 ?zz_a12 ?zz_l12 ?zz_d12 ?zz_k12 ?zz_a13 ?zz_l13 ?zz_d13 ?zz_k13 ?zz_a14 ?zz_l14 ?zz_d14 ?zz_k14 ?zz_a15 ?zz_l15 ?zz_d15 ?zz_k15 ?zz_a16 ?zz_l16 ?zz_d16 ?zz_k16 ?zz_a17 ?zz_l17 ?zz_d17 ?zz_k17 ?zz_a18 ?zz_l18 ?zz_d18 ?zz_k18 ?zz_a19 ?zz_i19 ?zz_l19 ?zz_d19 ?zz_k19 ?zz_a20 ?zz_i20 ?zz_l20 ?zz_d20 ?zz_k20 ?zz_a21 ?zz_i21 ?zz_l21 ?zz_d21 ?zz_k21 ?zz_a22 ?zz_i22 ?zz_l22 ?zz_d22 ?zz_k22 ?zz_a23 ?zz_i23 ?zz_l23 ?zz_d23 ?zz_k23 ?zz_a24 ?zz_l24 ?zz_d24 ?zz_k24 ?zz_a25 ?zz_l25 ?zz_d25 ?zz_k25 ?zz_a26 ?zz_l26 ?zz_d26 ?zz_k26 ?zz_a27 ?zz_l27 ?zz_d27 ?zz_k27 ?zz_a28 ?zz_l28 ?zz_d28 ?zz_k28 ?zz_a29 ?zz_l29 ?zz_d29 ?zz_k29 ?zz_a30 ?zz_l30 ?zz_d30 ?zz_k30 ?zz_a31 ?zz_l31 ?zz_d31 ?zz_k31 ?zz_a32 ?zz_l32 ?zz_d32 ?zz_k32 ?zz_a33 ?zz_l33 ?zz_d33 ?zz_k33 ?zz_a34 ?zz_l34 ?zz_d34 ?zz_k34 ?zz_a35 ?zz_l35 ?zz_d35 ?zz_k35 ?zz_a36 ?zz_l36 ?zz_d36 ?zz_k36 ?zz_a37 ?zz_l37 ?zz_d37 ?zz_k37 ?zz_a38 ?zz_l38 ?zz_d38 ?zz_k38 ?zz_a39 ?zz_l39 ?zz_d39 ?zz_k39 ?zz_a40 ?zz_l40 ?zz_d40 ?zz_k40 ?zz_a41 ?zz_l41 ?zz_d41 ?zz_k41 ?zz_a42 ?zz_l42 ?zz_d42 ?zz_k42 ?zz_a43 ?zz_l43 ?zz_d43 ?zz_k43 ?zz_a44 ?zz_l44 ?zz_d44 ?zz_k44 ?zz_b_isinstance ?zz_b_int ?zz_b_bool ?zz_b_str ?zz_b_range ?zz_b_len ?zz_b_max ?zz_b_tuple ?zz_b_abs ?zz_b_list ?zz_b_min ?zz_b_repr ?zz_b_enumerate ?zz_b_all ?zz_y_GREATEST ?zz_y__DIGITS ?zz_y__CHUNK ?zz_y_MOST ?zz_pg ?zz_hd ?zz_po ?zz_sa ?zz_mkc ?zz_kcc ?zz_n_first ?zz_n_second ?zz_n_length ?zz_n_amount ?zz_n_down ?zz_n_backward ?zz_n_text ?zz_pgB ?zz_hdB ?zz_poB ?zz_saB ?zz_mkcB ?zz_kccB ?zz_nB_text ?zz_nB_size ?zz_nB_ties ?zz_nB_notes ?zz_m_z_cls ?zz_m_z_mro ?zz_m_z_ty ?zz_m_z_clsB ?zz_m_z_mroB ?zz_m_z_tyB ?zz_m_z_get ?zz_m_z_tk ?zz_m_z_subN ?zz_m_z_subT ?zz_m_z_subL ?zz_m_z_subD ?zz_m_z_subI ?zz_m_z_subO ?zz_m_z_subS ?zz_m_z_subIB ?zz_m_z_notIB ?zz_m_z_subSB ?zz_m_z_notSB ?zz_m_z_notT ?zz_m_z_notTB ?zz_m_z_neB ?zz_m_z_fn ?zz_b_ValueErrorX ?zz_zve ?zz_tin ?zz_zget ?zz_ztk ?zz_e0 ?zz_e1 ?zz_nd ?zz_hx43
    (case zz_aC => k_is)
    (case zz_aB => k_is)
    (case zz_m_read => k_is)
    (case zz_m_ga => k_is)
    (case zz_m_sta => k_is)
    (case zz_ge0 => k_is)
    (case zz_ge1 => k_is)
    (case zz_hin => k_is)
    (case zz_i0 => k_is)
    (case zz_l0 => k_is)
    (case zz_d0 => k_is)
    (case zz_k0 => k_is)
    (case zz_a1 => k_is)
    (case zz_l1 => k_is)
    (case zz_d1 => k_is)
    (case zz_k1 => k_is)
    (case zz_a2 => k_is)
    (case zz_l2 => k_is)
    (case zz_d2 => k_is)
    (case zz_k2 => k_is)
    (case zz_a3 => k_is)
    (case zz_l3 => k_is)
    (case zz_d3 => k_is)
    (case zz_k3 => k_is)
    (case zz_a4 => k_is)
    (case zz_l4 => k_is)
    (case zz_d4 => k_is)
    (case zz_k4 => k_is)
    (case zz_a5 => k_is)
    (case zz_l5 => k_is)
    (case zz_d5 => k_is)
    (case zz_k5 => k_is)
    (case zz_a6 => k_is)
    (case zz_l6 => k_is)
    (case zz_d6 => k_is)
    (case zz_k6 => k_is)
    (case zz_a7 => k_is)
    (case zz_i7 => k_is)
    (case zz_l7 => k_is)
    (case zz_d7 => k_is)
    (case zz_k7 => k_is)
    (case zz_lT7 => k_is)
    (case zz_w7_down => k_is)
    (case zz_w7_backward => k_is)
    (case zz_a8 => k_is)
    (case zz_i8 => k_is)
    (case zz_l8 => k_is)
    (case zz_d8 => k_is)
    (case zz_k8 => k_is)
    (case zz_a9 => k_is)
    (case zz_i9 => k_is)
    (case zz_l9 => k_is)
    (case zz_d9 => k_is)
    (case zz_k9 => k_is)
    (case zz_a10 => k_is)
    (case zz_l10 => k_is)
    (case zz_d10 => k_is)
    (case zz_k10 => k_is)
    (case zz_a11 => k_is)
    (case zz_l11 => k_is)
    (case zz_d11 => k_is)
    (case zz_k11 => k_is)
    (case zz_a12 => k_is)
    (case zz_l12 => k_is)
    (case zz_d12 => k_is)
    (case zz_k12 => k_is)
    (case zz_a13 => k_is)
    (case zz_l13 => k_is)
    (case zz_d13 => k_is)
    (case zz_k13 => k_is)
    (case zz_a14 => k_is)
    (case zz_l14 => k_is)
    (case zz_d14 => k_is)
    (case zz_k14 => k_is)
    (case zz_a15 => k_is)
    (case zz_l15 => k_is)
    (case zz_d15 => k_is)
    (case zz_k15 => k_is)
    (case zz_a16 => k_is)
    (case zz_l16 => k_is)
    (case zz_d16 => k_is)
    (case zz_k16 => k_is)
    (case zz_a17 => k_is)
    (case zz_l17 => k_is)
    (case zz_d17 => k_is)
    (case zz_k17 => k_is)
    (case zz_a18 => k_is)
    (case zz_l18 => k_is)
    (case zz_d18 => k_is)
    (case zz_k18 => k_is)
    (case zz_a19 => k_is)
    (case zz_i19 => k_is)
    (case zz_l19 => k_is)
    (case zz_d19 => k_is)
    (case zz_k19 => k_is)
    (case zz_a20 => k_is)
    (case zz_i20 => k_is)
    (case zz_l20 => k_is)
    (case zz_d20 => k_is)
    (case zz_k20 => k_is)
    (case zz_a21 => k_is)
    (case zz_i21 => k_is)
    (case zz_l21 => k_is)
    (case zz_d21 => k_is)
    (case zz_k21 => k_is)
    (case zz_a22 => k_is)
    (case zz_i22 => k_is)
    (case zz_l22 => k_is)
    (case zz_d22 => k_is)
    (case zz_k22 => k_is)
    (case zz_a23 => k_is)
    (case zz_i23 => k_is)
    (case zz_l23 => k_is)
    (case zz_d23 => k_is)
    (case zz_k23 => k_is)
    (case zz_a24 => k_is)
    (case zz_l24 => k_is)
    (case zz_d24 => k_is)
    (case zz_k24 => k_is)
    (case zz_a25 => k_is)
    (case zz_l25 => k_is)
    (case zz_d25 => k_is)
    (case zz_k25 => k_is)
    (case zz_a26 => k_is)
    (case zz_l26 => k_is)
    (case zz_d26 => k_is)
    (case zz_k26 => k_is)
    (case zz_a27 => k_is)
    (case zz_l27 => k_is)
    (case zz_d27 => k_is)
    (case zz_k27 => k_is)
    (case zz_a28 => k_is)
    (case zz_l28 => k_is)
    (case zz_d28 => k_is)
    (case zz_k28 => k_is)
    (case zz_a29 => k_is)
    (case zz_l29 => k_is)
    (case zz_d29 => k_is)
    (case zz_k29 => k_is)
    (case zz_a30 => k_is)
    (case zz_l30 => k_is)
    (case zz_d30 => k_is)
    (case zz_k30 => k_is)
    (case zz_a31 => k_is)
    (case zz_l31 => k_is)
    (case zz_d31 => k_is)
    (case zz_k31 => k_is)
    (case zz_a32 => k_is)
    (case zz_l32 => k_is)
    (case zz_d32 => k_is)
    (case zz_k32 => k_is)
    (case zz_a33 => k_is)
    (case zz_l33 => k_is)
    (case zz_d33 => k_is)
    (case zz_k33 => k_is)
    (case zz_a34 => k_is)
    (case zz_l34 => k_is)
    (case zz_d34 => k_is)
    (case zz_k34 => k_is)
    (case zz_a35 => k_is)
    (case zz_l35 => k_is)
    (case zz_d35 => k_is)
    (case zz_k35 => k_is)
    (case zz_a36 => k_is)
    (case zz_l36 => k_is)
    (case zz_d36 => k_is)
    (case zz_k36 => k_is)
    (case zz_a37 => k_is)
    (case zz_l37 => k_is)
    (case zz_d37 => k_is)
    (case zz_k37 => k_is)
    (case zz_a38 => k_is)
    (case zz_l38 => k_is)
    (case zz_d38 => k_is)
    (case zz_k38 => k_is)
    (case zz_a39 => k_is)
    (case zz_l39 => k_is)
    (case zz_d39 => k_is)
    (case zz_k39 => k_is)
    (case zz_a40 => k_is)
    (case zz_l40 => k_is)
    (case zz_d40 => k_is)
    (case zz_k40 => k_is)
    (case zz_a41 => k_is)
    (case zz_l41 => k_is)
    (case zz_d41 => k_is)
    (case zz_k41 => k_is)
    (case zz_a42 => k_is)
    (case zz_l42 => k_is)
    (case zz_d42 => k_is)
    (case zz_k42 => k_is)
    (case zz_a43 => k_is)
    (case zz_l43 => k_is)
    (case zz_d43 => k_is)
    (case zz_k43 => k_is)
    (case zz_a44 => k_is)
    (case zz_l44 => k_is)
    (case zz_d44 => k_is)
    (case zz_k44 => k_is)
    (case zz_b_isinstance => k_is)
    (case zz_b_int => k_is)
    (case zz_b_bool => k_is)
    (case zz_b_str => k_is)
    (case zz_b_range => k_is)
    (case zz_b_len => k_is)
    (case zz_b_max => k_is)
    (case zz_b_tuple => k_is)
    (case zz_b_abs => k_is)
    (case zz_b_list => k_is)
    (case zz_b_min => k_is)
    (case zz_b_repr => k_is)
    (case zz_b_enumerate => k_is)
    (case zz_b_all => k_is)
    (case zz_y_GREATEST => k_is)
    (case zz_y__DIGITS => k_is)
    (case zz_y__CHUNK => k_is)
    (case zz_y_MOST => k_is)
    (case zz_pg => k_is)
    (case zz_hd => k_is)
    (case zz_po => k_is)
    (case zz_sa => k_is)
    (case zz_mkc => k_is)
    (case zz_kcc => k_is)
    (case zz_n_first => k_is)
    (case zz_n_second => k_is)
    (case zz_n_length => k_is)
    (case zz_n_amount => k_is)
    (case zz_n_down => k_is)
    (case zz_n_backward => k_is)
    (case zz_n_text => k_is)
    (case zz_pgB => k_is)
    (case zz_hdB => k_is)
    (case zz_poB => k_is)
    (case zz_saB => k_is)
    (case zz_mkcB => k_is)
    (case zz_kccB => k_is)
    (case zz_nB_text => k_is)
    (case zz_nB_size => k_is)
    (case zz_nB_ties => k_is)
    (case zz_nB_notes => k_is)
    (case zz_m_z_cls => k_is)
    (case zz_m_z_mro => k_is)
    (case zz_m_z_ty => k_is)
    (case zz_m_z_clsB => k_is)
    (case zz_m_z_mroB => k_is)
    (case zz_m_z_tyB => k_is)
    (case zz_m_z_get => k_is)
    (case zz_m_z_tk => k_is)
    (case zz_m_z_subN => k_is)
    (case zz_m_z_subT => k_is)
    (case zz_m_z_subL => k_is)
    (case zz_m_z_subD => k_is)
    (case zz_m_z_subI => k_is)
    (case zz_m_z_subO => k_is)
    (case zz_m_z_subS => k_is)
    (case zz_m_z_subIB => k_is)
    (case zz_m_z_notIB => k_is)
    (case zz_m_z_subSB => k_is)
    (case zz_m_z_notSB => k_is)
    (case zz_m_z_notT => k_is)
    (case zz_m_z_notTB => k_is)
    (case zz_m_z_neB => k_is)
    (case zz_m_z_fn => k_is)
    (case zz_b_ValueErrorX => k_is)
    (case zz_zve => k_is)
    (case zz_tin => k_is)
    (case zz_zget => k_is)
    (case zz_ztk => k_is)
    (case zz_e0 => (refine' TT.excF_mk ?zx0_xL rfl ?zx0_sa ?zx0_tyC ?zx0_kC ?zx0_ga ?zx0_gg ?zx0_ha ?zx0_ini ?zx0_nv; (case zx0_xL => k_is); (case zx0_sa => k_is); (case zx0_tyC => k_is); (case zx0_kC => k_is); (case zx0_ga => k_is); (case zx0_gg => k_is); (case zx0_ha => k_is); (case zx0_ini => k_is); (case zx0_nv => k_is)))
    (case zz_e1 => (refine' TT.excF_mk ?zx1_xL rfl ?zx1_sa ?zx1_tyC ?zx1_kC ?zx1_ga ?zx1_gg ?zx1_ha ?zx1_ini ?zx1_nv; (case zx1_xL => k_is); (case zx1_sa => k_is); (case zx1_tyC => k_is); (case zx1_kC => k_is); (case zx1_ga => k_is); (case zx1_gg => k_is); (case zx1_ha => k_is); (case zx1_ini => k_is); (case zx1_nv => k_is)))
    (case zz_nd => decide +kernel)
    (case zz_hx43 => kernel_rfl)
#print axioms PySem.Challenge.cw_turnedtunes_k09_books_read_holds
