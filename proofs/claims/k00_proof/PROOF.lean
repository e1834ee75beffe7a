import PyProof.Rows.All
import Wide.All
import OpenK.AllK
import Wide.FinOn
import PyProof.EqAt
import PyProof.EqKinds
import PyProof.TupleCall
import PyProof.ReprRoads
import HandS.Base
import HandS.Call
import HandS.List
import HandS.Ends
import HandS.Words
import HandS.Exc
import HandS.ExcInit
import HandS.ExcIs
import HandS.ExcField
import HandS.IsInst
import HandS.DeepEq
import HandS.Deep
import HandS.OwnEq
import HandS.Comp
import HandS.Iter
import HandS.Text
import HandS.Wide
import HandS.Dict
import HandS.More
import HandS.Conv
import HandS.Walk
import PySem.Challenge.RW_turnedtunes_k00_errors_keep_their_value
set_option Elab.async false
set_option linter.all false
set_option maxRecDepth 100000
set_option maxHeartbeats 4000000
/-! Rules of our own over the hand layer: powers of great ints, repr of data, own unary operators, promises that know that no repr is under way. -/
namespace TT
open PySem PySem.Spec PyProof.Rows L2
section
variable {X : Cx}
/-- a ** b of any size that fits -/
theorem op_powW : OpR X (binaryOp .Pow) (rI (fun i j => 0 ≤ j ∧ (Builtin.Int.intBits i : Int) * j ≤ 2 ^ 27) fun i j => .int (i ^ j.toNat)) :=
  opI fun _ _ _ _ _ _ _ hc q => pow_int hc.1 hc.2 q

/-- repr(x), x data without dicts -/
def rRepr (K : PySem.W.Frag) : List V → Hp → VK → Prop := fun xs H Q => ∃ (x : V) (d : PyData), xs = [x] ∧ Dp K H x d ∧ d.showable = true ∧ d.hasDict = false ∧ d.depth ≤ 60 ∧ d.shown.length ≤ sizeLine ∧ Q (.str d.shown) H
theorem call_repr (hg : X.A.guards = some []) (hu : X.A.units + 64 < cLine) : CallR X (.builtin "repr") (rRepr X.K) := by
  intro pins s σ H xs us Q I r h
  obtain ⟨x, d, rfl, hd, hs, hn, hdep, hz, q⟩ := h
  obtain ⟨u, rfl, rx⟩ : ∃ u, us = [u] ∧ RelV x u := by
    cases r with
    | cons a b => cases b; exact ⟨_, rfl, a⟩
  obtain ⟨as, rd⟩ := Dp.reads I d x u hd rx
  have fin : ∀ h' tk u', (∀ b o, s.heap.get? b = some o → h'.get? b = some o) → EP X pins σ Q (.str d.shown u') { s with heap := h', toks := tk } :=
    fun h' tk u' hk => ⟨.str d.shown, H, I.kept hk, ⟨_, rfl⟩, q⟩
  cases hd with
  | non => obtain rfl := rx; exact PySem.P.repr_of_none (fin s.heap _ _ fun _ _ e => e)
  | bl b => obtain rfl := rx; exact PySem.P.repr_of_bool (fin s.heap _ _ fun _ _ e => e)
  | int i => obtain ⟨t, rfl⟩ := rx; exact PySem.P.repr_of_int (by simpa [PyData.showable] using hs) (fin s.heap _ _ fun _ _ e => e)
  | str y => obtain ⟨t, rfl⟩ := rx; exact PySem.P.repr_of_str (fin s.heap _ _ fun _ _ e => e) hz
  | lst h1 h2 =>
    obtain rfl := rx
    exact repr_of_reads' rd hs (PyData.noDict_hsm hn) hg (by omega) (fun _ _ e => e) (fun h' u tk hk => fin h' tk u hk) hz
  | tup h1 h2 =>
    obtain rfl := rx
    exact repr_of_reads' rd hs (PyData.noDict_hsm hn) hg (by omega) (fun _ _ e => e) (fun h' u tk hk => fin h' tk u hk) hz
end

/-! ### promises that know that no repr is under way -/
/-- the def at f keeps sp wherever it is called while no repr runs -/
structure GOk (P : Program) (w : World) (K : PySem.W.Frag) (mg : Str → Option Value) (base : Heap) (CX : CXT) (k : Nat) (f : Addr) (fd : FuncData) (ps : List Str) (sp : Sp) : Prop where
  size : ∀ vs H Q E, sp vs H Q E → vs.length = ps.length
  go : ∀ (A : Around) (outer : List Env) (s : Shared) (H : Hp) (args : Args) (us : List Value) (vs : List V) (Q : VK) (E : XK), A.guards = some [] → Room k A →
    Env0 P w K mg base A outer s H → BindsTo s fd args (ps.zip us) → Vals vs us → sp vs H Q E → codeAny (model P w) A (.call (.ref f) args) (CR CX outer P w H s Q E) s

section
variable {P : Program} {w : World} {K : PySem.W.Frag} {mg : Str → Option Value} {base : Heap} {CX : CXT} {k : Nat} {f : Addr} {ps : List Str} {sp : Sp}
theorem GOk.mono {j : Nat} {fd : FuncData} (F : GOk P w K mg base CX j f fd ps sp) (h : j ≤ k) : GOk P w K mg base CX k f fd ps sp :=
  { size := F.size, go := fun A outer s H args us vs Q E g r => F.go A outer s H args us vs Q E g (r.mono h) }
theorem GOk.weak {sp' : Sp} {fd : FuncData} (F : GOk P w K mg base CX k f fd ps sp) (h : ∀ vs H Q E, sp' vs H Q E → sp vs H Q E) : GOk P w K mg base CX k f fd ps sp' :=
  { size := fun vs H Q E q => F.size vs H Q E (h vs H Q E q), go := fun A outer s H args us vs Q E g r e b v q => F.go A outer s H args us vs Q E g r e b v (h vs H Q E q) }
/-- any promise of the layer is one -/
theorem GOk.of {fd : FuncData} (F : FnOk P w K mg base CX k f fd ps sp) : GOk P w K mg base CX k f fd ps sp :=
  { size := F.len, go := fun A outer s H args us vs Q E _ => F.run A outer s H args us vs Q E }
/-- such a def by its body -/
theorem g_of {name qual : Str} {params : Arguments} {body : List Stmt} {scope : Scope} {dV kV doc pm cdv ct oc : Value} {an od : Option Addr} {osl : Array (Option Value)} {N : List Str}
    (lk : K.lookup f = some ⟨oc, od, .func (PySem.W.fnOf name qual params body scope dV kV doc pm an cdv ct), osl⟩) (hcd : PySem.W.codeIn K cdv qual = true) (S : FnScope N ps scope)
    (size : ∀ vs H Q E, sp vs H Q E → vs.length = ps.length)
    (hb : ∀ (A : Around) (outer : List Env) (s : Shared) (H : Hp) (vs : List V) (Q : VK) (E : XK), A.guards = some [] → Room k (A.deeper (envOfC qual scope s.heap.objs.size f cdv)) → sp vs H Q E →
      ∃ t, PSs (cxOf CX P w K mg base N qual scope f cdv A outer s H E) body t ∧ t { nx := fun _ H1 => Q .non H1, rt := Q } (start N vs) H) :
    GOk P w K mg base CX (k + 1) f (PySem.W.fnOf name qual params body scope dV kV doc pm an cdv ct) ps sp := by
  refine { size := size, go := fun A outer s H args us vs Q E g hr e0 bnd rv hsp => ?_ }
  have old : ∀ b o, base.get? b = some o → s.heap.get? b = some o := fun b o e => (e0.bs b o e).1
  have kinds : ∀ y ∈ ps.zip us, scope.names.lookup y.1 = some .local ∨ (scope.names.lookup y.1 = some .cell ∧ ((cellsFrom (s.heap.objs.size + 1) scope.names []).lookup y.1).isSome = true) := by
    intro y hy
    obtain ⟨n, v⟩ := y
    refine (S.par n (List.of_mem_zip hy).1).imp id fun q => ⟨q, ?_⟩
    exact PySem.W.cellsFrom_some _ _ _ (.inl q)
  refine codeAny_call_function hr.depth (e0.mod.kin.keeps old _ _ lk) rfl S.co S.gen rfl (PySem.W.codeRec_of (e0.mod.kin.keeps old) hcd) (bnd _ _ _ _ (wpAny_newFunctionEnv_cells S.kind kinds fun env he s1 x => ?_))
  subst he
  refine ⟨(e0.mod.nolimit.keeps old).keeps x.toInCall.keep, codeAny_func ?_⟩
  obtain ⟨t, ht, hq⟩ := hb A outer s H vs Q E g (hr.deeper _) hsp
  have J : Inv (cxOf CX P w K mg base N qual scope f cdv A outer s H E) [] (start N vs) H s1 := inv_start S hr.hd e0 (size _ _ _ _ hsp) rv x
  refine wpAny_mono (ht.run [] s1 (start N vs) H _ J hq) (fun fl s2 hs => ?_) fun _ _ z => z
  cases fl with
  | ret u => obtain ⟨v, σ1, H1, I1, r1, q1⟩ := hs; exact ⟨v, H1, I1.os, I1.bare, I1.base, I1.hok, r1, q1⟩
  | next => obtain ⟨σ1, H1, I1, q1⟩ := hs; exact ⟨V.non, H1, I1.os, I1.bare, I1.base, I1.hok, rfl, q1⟩
  | brk => obtain ⟨_, _, _, z⟩ := hs; exact z.elim
  | cont => obtain ⟨_, _, _, z⟩ := hs; exact z.elim
end

/-- a def of the text that nothing leaves but by return -/
theorem okG {P : Program} {w : World} {K : PySem.W.Frag} {mg : Str → Option Value} {base : Heap} {x qual : Str} {st : Stmt} {f : Addr} {fd : FuncData} {N ps : List Str} {k : Nat} {sp : Sp} (F : Fun K x qual st f fd) (S : FnScope N ps (defScope st))
    (size : ∀ vs H Q E, sp vs H Q E → vs.length = ps.length)
    (hb : ∀ (cdv : Value) (A : Around) (outer : List Env) (s : Shared) (H : Hp) (vs : List V) (Q : VK) (E : XK), A.guards = some [] → Room k (A.deeper (envOfC qual (defScope st) s.heap.objs.size f cdv)) → sp vs H Q E →
      ∃ t, PSs (cxOf CX0 P w K mg base N qual (defScope st) f cdv A outer s H E).nox (defBody st) t ∧ t { nx := fun _ H1 => Q .non H1, rt := Q } (start N vs) H) : GOk P w K mg base CX0 (k + 1) f fd ps sp := by
  obtain ⟨oc, od, kV, doc, pm, an, cdv, ct, osl, rfl, lk, hcd⟩ := F.ex
  refine g_of lk hcd S size fun A outer s H vs Q E g hr hsp => ?_
  obtain ⟨t, h, q⟩ := hb cdv A outer s H vs Q E g hr hsp
  exact ⟨t, h.nox, q⟩
section
variable {X : Cx} {CX : CXT} {k : Nat} {f : Addr} {fd : FuncData} {ps : List Str} {sp : Sp} {dvs : List V} {ds : List Value} {E : XK} {x : Str} {p pos : Pos} {e : Expr} {es : List Expr} {t : TA}
theorem run_g {pins : List (Addr × Obj)} {σ : L2.St} {H : Hp} {s : Shared} {Q : VK} {us : List Value} {vs : List V} (F : GOk X.prog X.w X.K X.mg X.base CX k f fd ps sp) (g : X.A.guards = some []) (hr : Room k X.A)
    (hb : Binds X.K fd ps ds) (hd : Vals dvs ds) (hx : Passes CX X E) (I : Inv X pins σ H s) (r : Vals vs us) (h : sp (vs ++ dvs) H Q E) : wpAny (model X.prog X.w) X.A (call (.ref f) us) (EP X pins σ Q) X.xe s := by
  have r2 := r.append hd
  have n : (us ++ ds).length = ps.length := r2.length ▸ F.size _ _ _ _ h
  refine wpAny_call (codeAny_mono (F.go X.A X.stack s H ⟨us, []⟩ _ _ Q E g hr I.env0 (hb s us I.kIn n) r2 h) fun res s1 z => ?_)
  match res, z with
  | .error e, z => exact hx pins σ H s e s1 I z
  | .ok (.ret u), z => exact I.after z
  | .ok .next, z => exact z.elim
  | .ok .brk, z => exact z.elim
  | .ok .cont, z => exact z.elim
/-- f(e, ..) of such a def -/
theorem pe_callG (F : GOk X.prog X.w X.K X.mg X.base CX k f fd ps sp) (g : X.A.guards = some []) (hr : Room k X.A) (hg : Gl X x) (hm : X.mg x = some (.ref f)) (hk : PySem.W.keepIn X.K (.ref f) = true)
    (hb : Binds X.K fd ps ds) (hd : Vals dvs ds) (hx : Passes CX X E) (ha : PA X (e :: es) t) (hdb : (x == ("__debug__" : Str)) = false := by decide)
    (he : starEach (e :: es) X.env = (false, eval e X.env) :: starEach es X.env := by rfl) (hpl : (backTo pos (starEach es X.env)).any (·.1) = false := by rfl) : PE X (.Call (.Name x p) (e :: es) [] pos) (tCall sp dvs E t) := by
  constructor
  intro pins s σ H Q I h
  exact wpAny_Call_Name_kw (ld_glob I hg hm (PySem.W.callWith_K (h₀ := X.base) I.ok.mod.kin hk (thn (ha.run pos pins s σ H _ I h) fun us s1 ⟨vs, H1, I1, r, q⟩ => ⟨I1.kIn, run_g F g hr hb hd hx I1 r q⟩) he hpl) hdb)

/-- ~x of an instance of an own class -/
theorem un_own {C : Addr} (F : FnOk X.prog X.w X.K X.mg X.base CX k f fd ps sp) (hr : Room k X.A) (hb : Binds X.K fd ps []) (hx : Passes CX X E)
    (hs : PySem.W.findIn X.K (.ref C) "__invert__" = some (some (.ref f))) (hf : PySem.W.isFn X.K (.ref f) = true) :
    UnR X (unaryOp .Invert) (fun x H Q => ∃ a dx fs, x = .ref a ∧ H a = some (.ins C dx fs) ∧ sp [.ref a] H Q E) := by
  intro pins s σ H x v Q I rx h
  obtain ⟨a, dx, fs, rfl, ha, hq⟩ := h
  obtain rfl : v = Value.ref a := rx
  obtain ⟨mA, O, _⟩ := ins_get I.hok ha
  obtain ⟨od, J, _⟩ := O.look
  obtain ⟨m, hF⟩ := I.fr
  exact PySem.W.ksp_inv hF I.ok.mod.kin J hs hf (run_fn (us := [.ref a]) (vs := [.ref a]) (dvs := []) (ds := []) F hr hb .nil hx I (.cons rfl .nil) hq)
end

/-! ### the end of a law's row for such a promise -/
/-- the script alone is tracked: as a known list, or not at all where it is an object of the module -/
def seen (a : Addr) (ob : Obj) (ns : List Int) (own : Bool) : Hp := fun b => if own = false ∧ b = a then some (.frz ob (.lst (ns.map V.int))) else none
theorem seen_own {a : Addr} {ob : Obj} {ns : List Int} (b : Addr) : seen a ob ns true b = none := if_neg fun z => nomatch z.1
theorem seen_at {a : Addr} {ob : Obj} {ns : List Int} : seen a ob ns false a = some (.frz ob (.lst (ns.map V.int))) := if_pos ⟨rfl, rfl⟩
theorem seen_ne {a b : Addr} {ob : Obj} {ns : List Int} {o : Bool} (h : b ≠ a) : seen a ob ns o b = none := if_neg fun z => h z.2
theorem run_law {P : Program} {w : World} {K : PySem.W.Frag} {mg mb : Str → Option Value} {CX : CXT} {k : Nat} {fa a : Addr} {fd : FuncData} {x : Str} {sp : Sp} {s : Shared} {vs : List Value} {ns : List Int}
    (KX : K.In s.heap) (hns : s.heap.Ns mainGlobals mg) (hb : s.heap.Ns builtinsNs mb) (hbb : ∀ x : Str, x ≠ "__name__" → mb x = bootBuiltins x) (lim : s.heap.NoLimit) (hg : s.gens = #[])
    (ha : s.heap.get? a = some { cls := .type "list", data := .seq vs.toArray }) (hi : IntsAre vs ns) (hl : ns.length ≤ sizeLine) (hr : Room k callerA)
    (F : ∀ base : Heap, K.In base → base.Ns mainGlobals mg → GOk P w K mg base CX k fa fd [x] sp) (bnd : ∀ (s : Shared) (u : Value), BindsTo s fd ⟨[u], []⟩ [(x, u)])
    (hsp : ∀ H : Hp, SqL K H a (ns.map V.int) → sp [.ref a] H (fun v _ => v = .bl true) fun _ _ _ => False) (noX : ∀ H e s1, CX [] H s (fun _ _ _ => False) e s1 → False) :
    codeAny (model P w) callerA (.call (.ref fa) ⟨[.ref a], []⟩) (fun r s1 => r = .ok (.ret (.bool true)) ∧ OldK s.heap s1.heap ∧ s1.os = s.os ∧ AllBare s1.gens) s := by
  have rv := vals_ints hi
  obtain ⟨own, hS, hT, hK⟩ : ∃ own, SqL K (seen a { cls := .type "list", data := .seq vs.toArray } ns own) a (ns.map V.int) ∧ HOk P w (seen a { cls := .type "list", data := .seq vs.toArray } ns own) s.heap ∧
      (∀ b o, K.lookup b = some o → seen a { cls := .type "list", data := .seq vs.toArray } ns own b = none) := by
    cases hk : K.lookup a with
    | some o =>
      have e := (KX a o hk).symm.trans ha
      cases e
      refine ⟨true, .inr ⟨_, vs.toArray, _, hk, rfl, rfl, rfl, ?_, by simpa using rv⟩, fun b u z => ?_, fun b _ _ => seen_own b⟩
      · rw [List.size_toArray, hi.length]; exact hl
      · rw [seen_own] at z; cases z
    | none =>
      refine ⟨false, .inl (.inr ⟨_, seen_at⟩), fun b u z => ?_, fun b o hb => seen_ne fun e => ?_⟩
      · by_cases h : b = a
        · subst h
          rw [seen_at] at z; cases z
          exact ⟨ha, by rw [List.length_map]; exact hl, vs, _, rv, ha⟩
        · rw [seen_ne h] at z; cases z
      · subst e; rw [hk] at hb; cases hb
  generalize hH : seen a { cls := .type "list", data := .seq vs.toArray } ns own = H at hS hT hK
  have only : ∀ b u, H b = some u → b = a ∧ u = .frz { cls := .type "list", data := .seq vs.toArray } (.lst (ns.map V.int)) := fun b u z => by
    subst hH
    by_cases h : b = a
    · subst h
      cases own with
      | true => rw [seen_own] at z; cases z
      | false => rw [seen_at] at z; exact ⟨rfl, (Option.some.inj z).symm⟩
    · rw [seen_ne h] at z; cases z
  have free : ∀ {b : Addr} {o : Obj} {es : Array DictEntry} {ep : Nat}, s.heap.get? b = some o → o.data = .dict es ep → H b = none := fun {b o es ep} e d => by
    cases q : H b with
    | none => rfl
    | some u =>
      obtain ⟨rfl, _⟩ := only b u q
      have e' := e.symm.trans ha
      cases e'
      have d' : Data.seq vs.toArray _ = Data.dict es ep := d
      cases d'
  have ns' : ∀ {b : Addr} {m : Str → Option Value}, s.heap.Ns b m → (hidT s.heap H).Ns b m := fun {b m} n => by
    obtain ⟨o, es, ep, e, d, r⟩ := n
    exact ⟨o, es, ep, hidT_get e (free e d), d, r⟩
  have inK : K.In (hidT s.heap H) := fun b o e => hidT_get (KX b o e) (hK b o e)
  obtain ⟨mc, l1, l2⟩ := lim
  have e0 : Env0 P w K mg (hidT s.heap H) callerA [] s H :=
    { frames := rfl, mod := ⟨inK, ns' hns, ⟨mb, ns' hb, hbb⟩, ⟨mc, ns' l1, l2⟩⟩, bs := fun b o e => of_hidT e, bsz := Nat.le_of_eq (hidT_size _ _), funs := trivial, frf := fun b z => absurd (show b ∈ ([] : List Addr) from z) List.not_mem_nil, hok := hT, bare := .of_eq hg }
  refine codeAny_mono ((F _ inK (ns' hns)).go callerA [] s H ⟨[.ref a], []⟩ [.ref a] [.ref a] _ _ rfl hr e0 (bnd s (.ref a)) (.cons rfl .nil) (hsp H hS)) fun r s1 z => ?_
  match r, z with
  | .error e, z => exact (noX H e s1 z).elim
  | .ok .next, z => exact z.elim
  | .ok .brk, z => exact z.elim
  | .ok .cont, z => exact z.elim
  | .ok (.ret u), z =>
    obtain ⟨v, H1, os, bare, un, hok, r1, q⟩ := z
    subst q
    obtain rfl : u = Value.bool true := r1
    refine ⟨rfl, OldK.of_keep fun b o e => ?_, os, bare⟩
    cases q : H b with
    | none => exact un.keep b o e q (fun z => absurd (show b ∈ ([] : List Addr) from z) List.not_mem_nil) List.not_mem_nil
    | some u =>
      obtain ⟨rfl, rfl⟩ := only b u q
      obtain ⟨e1, _⟩ := hT _ _ q
      obtain ⟨e2, _⟩ := hok _ _ (un.frzs _ _ _ q)
      rw [e] at e1; cases e1
      exact e2
theorem walk_g {l : PySem.W.OpenLaw} {n k : Nat} {q : Program} {loose : List Str} {XP : (Str → Option Value) → Heap → Prop} {YP : World → Heap → Prop} {d : DefRec} {K : Params → PySem.W.Frag} {CX : CXT} {sp : PySem.W.Frag → Sp} {x : Str}
    (hn : l.most = some n) (hn2 : n ≤ sizeLine) (hdf : d.params.defaults = []) (hr : Room k callerA) (hY : ∀ (w : World) (h : Heap), YP w h → (K w.params).In h)
    (F : ∀ (w : World) (mg : Str → Option Value) (fa : Addr) (h : Heap), (K w.params).In h → h.Ns mainGlobals mg → mg d.name = some (.ref fa) → ∃ fd : FuncData, (∀ (s : Shared) (u : Value), BindsTo s fd ⟨[u], []⟩ [(x, u)]) ∧
        ∀ base : Heap, (K w.params).In base → base.Ns mainGlobals mg → GOk l.prog w (K w.params) mg base CX k fa fd [x] (sp (K w.params)))
    (hsp : ∀ (K : PySem.W.Frag) (H : Hp) (a : Addr) (ns : List Int), ns.length ≤ n → SqL K H a (ns.map V.int) → sp K [.ref a] H (fun v _ => v = .bl true) fun _ _ _ => False)
    (noX : ∀ (H : Hp) (s : Shared) (e : Value) (s1 : Shared), CX [] H s (fun _ _ _ => False) e s1 → False) : PySem.W.WalkO q loose XP YP l.row.toRowW d [] (fun f vs => PySem.call f vs) :=
  Att.attach_call hn hdf fun w s₀ s₁ mg mb fa o pm cd doc a vs ns G Y ho hd hcd hmg hobj hints hlen hg => by
    obtain ⟨fd, hb, hF⟩ := F w mg fa _ (hY w _ Y) G.T.g hmg
    exact run_law (hY w _ Y) G.T.g G.T.b G.T.builtins G.T.nolimit hg hobj hints (Nat.le_trans hlen hn2) hr hF hb (fun H hS => hsp _ H a ns hlen hS) fun H e s1 => noX H s₁ e s1
end TT

set_option Elab.async false
set_option linter.all false
set_option maxRecDepth 100000
set_option maxHeartbeats 4000000
/-! Errors of own classes as values: made, kept, asked (isinstance, their fields). -/
namespace TT
open PySem PySem.Spec PyProof.Rows L2
/-- at a stands an error of the class at C whose own dict holds fs -/
def Err (H : Hp) (a C : Addr) (fs : List (Str × V)) : Prop := ∃ d, H a = some (exo a C (some d)) ∧ H d = some (exd d fs)
section
variable {X : Cx}
/-- C(e, ..): the error stays with us -/
def tMkX (C : Addr) (sp : Sp) (dvs : List V) (ta : TA) : TE := fun σ H Q => ta σ H fun vs H1 => vs.length ≤ 1000 ∧ ∀ a, H1 a = none → sp (.ref a :: (vs ++ dvs)) (upd H1 a (exo a C none)) (fun v H2 => v = .non ∧ Q (.ref a) H2) fun _ _ _ => False
theorem pe_mkX {CX : CXT} {x : Str} {C fI : Addr} {k : Nat} {fd : FuncData} {ps : List Str} {sp : Sp} {ds : List Value} {dvs : List V} {e : Expr} {es : List Expr} {ta : TA} {p pos : Pos}
    (T : OexC X.K C) (iC : PySem.W.findIn X.K (.ref C) "__init__" = some (some (.ref fI))) (tI : PySem.W.typeIn X.K (.ref fI) = some (.type "function")) (F1 : FnOk X.prog X.w X.K X.mg X.base CX k fI fd ps sp) (hr : Room (k + 1) X.A)
    (hb : Binds X.K fd ps ds) (hd : Vals dvs ds) (hx : Passes CX X fun _ _ _ => False) (hg : Gl X x) (hm : X.mg x = some (.ref C)) (ha : PA X (e :: es) ta) (hdb : (x == ("__debug__" : Str)) = false := by decide)
    (he : starEach (e :: es) X.env = (false, eval e X.env) :: starEach es X.env := by rfl) (hpl : (backTo pos (starEach es X.env)).any (·.1) = false := by rfl) : PE X (.Call (.Name x p) (e :: es) [] pos) (tMkX C sp dvs ta) := by
  constructor
  intro pins s σ H Q I h
  obtain ⟨_, _, _, _, bm, _, _, _, _, _, _, _, _, _, _, hC, hbm⟩ := T.cls
  refine wpAny_Call_Name_kw (ld_glob I hg hm (PySem.W.callWith_K (h₀ := X.base) I.ok.mod.kin T.kC (thn (ha.run pos pins s σ H _ I h) fun us s1 w => ?_) he hpl) hdb)
  obtain ⟨vs, H1, I1, r1, hz, q1⟩ := w
  refine ⟨I1.kIn, ?_⟩
  obtain ⟨hp, g, dr, tk, os⟩ := s1
  have nn : hp.objs.size ≤ hp.objs.size + 1 := Nat.le_succ _
  have fr : H1 (hp.objs.size + 1) = none := I1.hok.fresh nn
  have q2 := q1 _ fr
  have keep : ∀ b o, hp.get? b = some o → ((hp.push (PySem.W.kdv_tup us)).push (PySem.HandSPX.excO C hp.objs.size)).get? b = some o := fun b o z => Heap.get?_push_of_some _ (Heap.get?_push_of_some _ z)
  have here : ((hp.push (PySem.W.kdv_tup us)).push (PySem.HandSPX.excO C hp.objs.size)).get? (hp.objs.size + 1) = some (PySem.HandSPX.excO C hp.objs.size) := by heap_get
  have I2 := I1.laid (t' := tk) (a := hp.objs.size + 1) (o := exo (hp.objs.size + 1) C none) keep nn (exo_ok here)
  have r2 : Vals (V.ref (hp.objs.size + 1) :: (vs ++ dvs)) (Value.ref (hp.objs.size + 1) :: us ++ ds) := .cons rfl (r1.append hd)
  have n1 : (Value.ref (hp.objs.size + 1) :: us ++ ds).length = ps.length := r2.length ▸ F1.len _ _ _ _ q2
  have n2 : us.length ≤ sizeLine := by
    have sl : sizeLine = 16777216 := sizeLine_eq
    have := Paired.length r1
    omega
  have run := F1.run _ X.stack _ _ ⟨Value.ref (hp.objs.size + 1) :: us, []⟩ _ _ _ (fun _ _ _ => False) (hr.make C us []) (I2.env0.make C us []) (hb _ (Value.ref (hp.objs.size + 1) :: us) I2.kIn n1) r2 q2
  refine wpAny_call (PySem.HandSPX.call_own F.excBase_ValueError (fun Y => PySem.HandSPX.refsVE_contains Y bm hbm) (I1.kIn _ _ hC) (PySem.W.looks_findIn I1.kIn iC) (fun self => PySem.W.bind_fn I1.kIn self tI) n2 (codeAny_mono run fun r s' z => ?_))
  match r, z with
  | .error er, z => exact hx pins σ _ _ er s' I2 z
  | .ok .next, z => exact z.elim
  | .ok .brk, z => exact z.elim
  | .ok .cont, z => exact z.elim
  | .ok (.ret u), z =>
    obtain ⟨v, H2, o2, b2, u2, k2, rv, ev, q3⟩ := z
    subst ev
    have un : Un (frs X.stack) [] H1 H2 hp s'.heap := (Un.laid keep nn fr).trans u2
    exact ⟨rv, .ref (hp.objs.size + 1), H2, I1.call' (ch := []) o2 un k2 b2 (fun b z => absurd z (by simp)), rfl, q3⟩
/-- the object of an error and its dict -/
theorem err_at {pins : List (Addr × Obj)} {σ : L2.St} {H : Hp} {s : Shared} {a C : Addr} {fs : List (Str × V)} (I : Inv X pins σ H s) (h : Err H a C fs) :
    ∃ ox od, PySem.W.InstAt s.heap a ox C (some od) ∧ ∃ mA : Str → Option Value, (∀ name, PySem.W.lookIn name od = some (mA name)) ∧ ∀ f, RelO (fs.lookup f) (mA f) := by
  obtain ⟨d, h1, h2⟩ := h
  obtain ⟨t1, e1⟩ := exo_at I.hok h1
  obtain ⟨mA, hn, hr⟩ := exd_at I.hok h2
  obtain ⟨od, ho, hl⟩ := lookIn_ns hn
  exact ⟨_, od, ⟨e1, rfl, rfl, ho⟩, mA, hl, hr⟩
/-- e.n of an error -/
def tXv (K : PySem.W.Frag) (n : Str) (te : TE) : TE := fun σ H Q => te σ H fun x H1 => ∃ a C fs v, x = .ref a ∧ Err H1 a C fs ∧ XfC K C ∧ PySem.W.findIn K (.ref C) n = some none ∧ fs.lookup n = some v ∧ Q v H1
theorem pe_xv {e : Expr} {te : TE} {pos : Pos} {n : Str} (he : PE X e te) (hb : attributeBase e n X.env (eval e X.env) = eval e X.env := by rfl) : PE X (.Attribute e n pos) (tXv X.K n te) := by
  constructor
  intro pins s σ H Q I h
  refine attr_of hb (thn (he.run pins s σ H _ I h) fun u s1 w => ?_)
  obtain ⟨x, H1, I1, rx, a, C, fs, v, rfl, hE, T, hno, l, q⟩ := w
  obtain rfl : u = Value.ref a := rx
  obtain ⟨ox, od, J, mA, hl, hr⟩ := err_at I1 hE
  obtain ⟨u, hu, ru⟩ := RelO.some_of (v := v) (o := mA n) (l ▸ hr n)
  exact HandSPX.exc_get I1.kIn J T.ga T.gg T.exC (PySem.W.findObj_own T.hdC hno rfl (by rw [hl, hu])) (handed_of ru) ⟨v, H1, I1.tok _, ru, q⟩
/-- x.__class__ of an error with a dict of its own, as isinstance asks it -/
theorem x_class {prog : Program} {w : World} {A : Around} {E : Value → Shared → Prop} {s : Shared} {K : PySem.W.Frag} {x D : Addr} {ox od : Obj} {Q : Option Value → Shared → Prop} (T : ExcC K D) (KX : K.In s.heap) (J : PySem.W.InstAt s.heap x ox D (some od))
    (h : Q (some (.ref D)) { s with toks := s.toks + 1 }) : wpAny (model prog w) A (getAttr? (.ref x) "__class__") Q E s := by
  have found : PySem.W.findObj K D (some od) "__class__" = some (.bind (.builtin "getset_descriptor.__get__") (.builtin "object.__class__")) := by
    obtain ⟨cd, e, _⟩ := PySem.W.any_some T.hd
    exact PySem.W.findObj_data (by rw [e] <;> rfl) T.ha T.hn T.ht
  have no2 : (Value.builtin "BaseException.__getattribute__" == Value.builtin "object.__getattribute__") = false := by decide +kernel
  have no1 : (onTheHeap (.ref D) && Value.builtin "BaseException.__getattribute__" == Value.builtin "object.__getattribute__") = false := by rw [no2] <;> rfl
  obtain ⟨hp, g, d, t, os⟩ := s
  have isB : PySem.W.Looks (model prog w) hp (isInstance (.ref x) (.type "BaseException")) true := (J.type (M := model prog w)).andThen (PySem.W.looks_subIn KX T.hs)
  have tail : ∀ R : Fin → Shared → Prop, ∀ E' : Value → Shared → Prop, R (.done (.ret (.ref D))) ⟨hp, g, d, t + 1, os⟩ → wpAny (model prog w) (Around.in1 A) (Builtin.«object.__getattribute__» ⟨[.ref x, .str "__class__" t], []⟩) R E' ⟨hp, g, d, t + 1, os⟩ := fun R E' hR => by
    unfold Builtin.«object.__getattribute__»
    refine wpAny_bind (wpAny_of_eq (a := (Value.ref x, [Value.str "__class__" t])) (by first | rfl | (simp only [slotArgs]; rfl)) (wpAny_bind (wpAny_pure (wpAny_bind (J.type.at (wpAny_bind ((PySem.W.looks_find KX J found).at ?_)))))))
    refine wpAny_bind (wpAny_holding (wpAny_call (PySem.W.class_get (s := ⟨hp, g, d, t + 1, os⟩) KX J T.hm ?_)))
    exact wpAny_pure hR
  unfold getAttr? getAttrBy? getAttrBy
  refine wpAny_bind (wpAny_mkText (wpAny_bind (wpAny_attempt (wpAny_holding (wpAny_bind (J.type.at (wpAny_bind ((PySem.W.looks_findIn KX T.hg).at ?_))))))))
  dsimp only
  rw [no1, if_neg Bool.false_ne_true]
  unfold getAttrByItsOwn hookBefore callGetattribute boundAndCalled
  refine wpAny_bind ?_
  have oh : onTheHeap (Value.ref D) = true := rfl
  rw [if_pos oh]
  refine (PySem.W.looks_findIn KX T.hk).at (wpAny_bind (wpAny_attempt (wpAny_holding ?_)))
  have nh : (false && onTheHeap (Value.builtin "BaseException.__getattribute__")) = false := rfl
  rw [nh, if_neg Bool.false_ne_true, PySem.F.excAttr_ValueError.ga.bind (.ref x)]
  refine wpAny_bind (wpAny_pure ?_)
  dsimp only
  refine wpAny_call (codeAny_call_builtin PySem.F.excAttr_ValueError.ga.plain PySem.F.entry_bexc_ga ?_)
  refine @PySem.W.check_slot (model prog w) _ _ ⟨hp, g, d, t + 1, os⟩ "BaseException.__getattribute__" "BaseException" "__getattribute__" (.ref x) [.str "__class__" t] [] _ (by decide +kernel) (by decide +kernel) isB (PySem.F.args_bexc_ga (.ref x) (.str "__class__" t)) ?_
  refine tail _ _ ?_
  refine (show wpAny (model prog w) A (handedOut (Value.ref D)) (fun a s' => wpAny (model prog w) A (pure (some a)) Q E s') _ ⟨hp, g, d, t + 1, os⟩ from ?_)
  rw [PySem.W.handedOut_of (v := Value.ref D) rfl]
  exact wpAny_pure (wpAny_pure h)
theorem kit_err {K : PySem.W.Frag} {x D : Addr} {b : Bool} (T : ExcC K D) (self : PySem.W.kitCls K (.ref D) (.ref D) = some b) : PySem.W.KitX K (.ref x) (.ref D) (fun h => ∃ ox od, PySem.W.InstAt h x ox D (some od)) where
  ty := fun _ _ _ ⟨_, _, J⟩ => J.type
  it := fun _ _ KX _ => (PySem.W.kit_cls KX self).2.1
  ne := fun h tp dd its n sl KX e => by
    obtain ⟨cd, hc, _⟩ := PySem.W.any_some T.hd
    cases q : (Value.ref D == Value.ref tp) with
    | false => rfl
    | true =>
      obtain rfl : D = tp := Value.ref.inj (beq_iff_eq.mp q)
      unfold PySem.W.clsIn at hc
      cases k : K.lookup D with
      | none => rw [k] at hc; cases hc
      | some o =>
        have z := (KX _ _ k).symm.trans e
        cases z
        rw [k] at hc
        cases hc
  ca := fun KX ⟨_, _, J⟩ q => x_class T KX J q
/-- isinstance(x, c) of an error -/
def rIsX (K : PySem.W.Frag) : List V → Hp → VK → Prop := fun xs H Q => ∃ (a C : Addr) (fs : List (Str × V)) (c : V) (cv : Value) (b b' : Bool), xs = [.ref a, c] ∧ Err H a C fs ∧ ExcC K C ∧ PySem.W.kitCls K (.ref C) (.ref C) = some b' ∧ ClsV c cv ∧ PySem.W.kitOne K (.ref C) cv = some b ∧ Q (.bl b) H
theorem call_isX {X : Cx} : CallR X (.builtin "isinstance") (rIsX X.K) := by
  intro pins s σ H xs us Q I r h
  obtain ⟨a, C, fs, c, cv, b, b', rfl, hE, T, self, hc, e, q⟩ := h
  obtain ⟨u1, u2, rfl, r1, r2⟩ : ∃ u1 u2, us = [u1, u2] ∧ RelV (.ref a) u1 ∧ RelV c u2 := by
    cases r with
    | cons x1 y1 =>
      cases y1 with
      | cons x2 y2 => cases y2; exact ⟨_, _, rfl, x1, x2⟩
  obtain rfl : u1 = Value.ref a := r1
  obtain rfl : u2 = cv := hc.eq r2
  obtain ⟨ox, od, J, _⟩ := err_at I hE
  exact PySem.W.kia_one (kit_err T self) I.kIn ⟨ox, od, J⟩ e (fun z => nomatch z) fun tk => ⟨.bl b, H, I.tok tk, rfl, q⟩
end
end TT

set_option Elab.async false
set_option linter.all false
set_option maxRecDepth 100000
set_option maxHeartbeats 4000000
/-! == of a thing with itself, repr of what holds small dicts. -/
namespace TT
open PySem PySem.Spec PyProof.Rows L2
section
variable {X : Cx}
/-- the same thing, or the same plain value -/
def D0 : Eqv := fun x y _ => y = x ∧ (flatB x = true ∨ ∃ a, x = .ref a)
theorem D0.mon : Mon D0 := fun _ _ _ _ _ h => h
theorem D0.eqV {K : PySem.W.Frag} {H : Hp} {x : V} (h : flatB x = true ∨ ∃ a, x = .ref a) : EqV K H 1 x x := by
  unfold EqV
  exact h.elim (fun f => .inl ⟨rfl, f⟩) fun ⟨a, e⟩ => .inr (.inl ⟨a, e, e⟩)
theorem D0.eqG : EqG X 1 D0 := by
  intro A pins s σ H x y u v S I rx ry h
  obtain ⟨rfl, h⟩ := h
  have un : A.units + 1 < cLine := by have := S.room.un; omega
  refine eqV_run I 1 A un y y u v (D0.eqV h) rx ry _ _ ⟨rfl, H, I, Ext.rfl'⟩
/-- x is equal to itself, whatever it holds -/
def SelfEq (K : PySem.W.Frag) (H : Hp) (x : V) : Prop := scal x x = true ∨ (∃ n, n ≤ 60 ∧ EqR K H (EqV K H n) x x) ∨ DTup K D0 x x H
def rSame (K : PySem.W.Frag) : R2 := fun x y H Q => y = x ∧ SelfEq K H x ∧ ∀ H', Ext H H' → Q (.bl true) H'
theorem op_same (hu : X.A.units + 64 < cLine) (hr : Room 2 X.A) : OpR X (compareOp .Eq) (rSame X.K) := by
  intro pins s σ H x y v u Q I rx ry h
  obtain ⟨rfl, h, q⟩ := h
  rcases h with h | ⟨n, hn, h⟩ | h
  · exact op_eq pins s σ H y y v u Q I rx ry ⟨h, by rw [decide_eq_true rfl]; exact q H Ext.rfl'⟩
  · exact op_eqV hu pins s σ H y y v u Q I rx ry ⟨n, hn, h, q H Ext.rfl'⟩
  · exact op_eqG (rcG_tup D0.mon D0.eqG) hr pins s σ H y y v u Q I rx ry ⟨h, q⟩
/-! ### repr -/
inductive DpD (K : PySem.W.Frag) (H : Hp) : V → PyData → Prop
  | dp {v : V} {d : PyData} (h : Dp K H v d) (n : d.hasDict = false) : DpD K H v d
  | tt {a b : Addr} (h : H a = some (.tup [.ref b])) (h2 : H b = some (.tup [])) : DpD K H (.ref a) (.tuple [.tuple []])
  | d0 {a : Addr} (h : H a = some (.dK [])) : DpD K H (.ref a) (.dict [])
  | d1 {a : Addr} {k : Str} {i : Int} (h : H a = some (.dK [(.inr k, .int i)])) : DpD K H (.ref a) (.dict [(.str k, .int i)])
theorem dp_tt {K : PySem.W.Frag} {H : Hp} {a b : Addr} (h : H a = some (.tup [.ref b])) (h2 : H b = some (.tup [])) : Dp K H (.ref a) (.tuple [.tuple []]) :=
  .tup (SqT.of h) (.cons (.tup (SqT.of h2) .nil) .nil)
/-- no tracked thing is sys.modules -/
theorem not_sys {pins : List (Addr × Obj)} {σ : L2.St} {H : Hp} {s : Shared} (I : Inv X pins σ H s) {o : Obj} (hs : X.K.lookup sysModules = some o) {l : Addr} {x : HO} (h : H l = some x) : l ≠ sysModules := by
  rintro rfl
  have hb : X.base.get? sysModules = some o := I.ok.mod.kin _ _ hs
  obtain ⟨h0, h1⟩ := I.ok.bs _ _ hb
  have := I.base.free _ _ h0 h1 (I.ok.noex _ _ hb)
  rw [this] at h
  cases h
theorem DpD.reads {pins : List (Addr × Obj)} {σ : L2.St} {H : Hp} {s : Shared} (I : Inv X pins σ H s) {v : V} {d : PyData} {u : Value} (h : DpD X.K H v d) (r : RelV v u) : ∃ as, Reads s.heap u d as ∧ (d.hasDict = true → ¬ sysModules ∈ as) := by
  cases h with
  | dp h n => exact (Dp.reads I d v u h r).imp fun as z => ⟨z, PyData.noDict_hsm n⟩
  | tt h h2 => exact (Dp.reads I _ _ u (dp_tt h h2) r).imp fun as z => ⟨z, PyData.noDict_hsm rfl⟩
  | @d0 a h =>
    obtain rfl : u = Value.ref a := r
    have z := I.hok _ _ h
    unfold ObjOk at z
    obtain ⟨_, ns, vs, kv, o, es, ep, g, ex, da, _, pr, _⟩ := z
    cases kv
    generalize e : es.toList = L at pr
    cases pr
    refine ⟨_, Reads.dict g ex.1 da (as := []) (bs := []) (by rw [e]; exact .nil) (by rw [e]; exact .nil), fun _ m => ?_⟩
    have : sysModules = a := by simpa using m
    rw [← this] at ns
    cases ns
  | @d1 a k i h =>
    obtain rfl : u = Value.ref a := r
    have z := I.hok _ _ h
    unfold ObjOk at z
    obtain ⟨_, ns, vs, kv, o, es, ep, g, ex, da, _, pr, nd⟩ := z
    clear nd
    cases kv with
    | @cons _ q _ _ p1 p2 =>
      cases p2
      obtain ⟨e0, t, e1⟩ : Sum.inr k = q.1 ∧ ∃ t, q.2 = Value.int i t := p1
      generalize hl : es.toList = L at pr
      cases pr with
      | cons c1 c2 c3 =>
        cases c3
        rename_i e
        have c4 : Value.isStrOf k e.key = true := by
          have c5 : keyIs q.1 e.key = true := c1
          rw [← e0] at c5
          exact c5
        obtain ⟨tk, ek⟩ : ∃ tk, e.key = .str k tk := by
          cases hk : e.key <;> rw [hk] at c4 <;> simp [Value.isStrOf] at c4
          exact ⟨_, by rw [c4]⟩
        have ev : e.val = .int i t := c2.trans e1
        refine ⟨_, Reads.dict g ex.1 da (kvs := [(.str k, .int i)]) (as := [] ++ []) (bs := [] ++ []) (by rw [hl]; exact .cons (by show Reads _ e.key (.str k) []; rw [ek]; exact .str _ _) .nil) (by rw [hl]; exact .cons (by show Reads _ e.val (.int i) []; rw [ev]; exact .int _ _) .nil), fun _ m => ?_⟩
        have : sysModules = a := by simpa using m
        rw [← this] at ns
        cases ns
theorem readsAll_rep {h : Heap} {d : PyData} {v : V} (one : ∀ u, RelV v u → ∃ as, Reads h u d as ∧ (d.hasDict = true → ¬ sysModules ∈ as)) :
    ∀ (n : Nat) (its : List Value), Vals (List.replicate n v) its → ∃ as, ReadsAll h its (List.replicate n d) as ∧ (d.hasDict = true → ¬ sysModules ∈ as)
  | 0, its, r => by
    cases r
    exact ⟨[], .nil, fun _ m => by cases m⟩
  | n + 1, its, r => by
    rw [List.replicate_succ] at r
    cases r with
    | cons r1 r2 =>
      obtain ⟨as, h1, h2⟩ := one _ r1
      obtain ⟨bs, h3, h4⟩ := readsAll_rep one n _ r2
      exact ⟨as ++ bs, .cons h1 h3, fun e m => (List.mem_append.mp m).elim (h2 e) (h4 e)⟩
theorem hasDictAll_rep {d : PyData} : ∀ n, PyData.hasDictAll (List.replicate n d) = true → d.hasDict = true
  | 0, h => by simp [PyData.hasDictAll] at h
  | n + 1, h => by
    rw [List.replicate_succ] at h
    simp only [PyData.hasDictAll, Bool.or_eq_true] at h
    exact h.elim id (hasDictAll_rep n)
/-- what repr is asked of here: such a thing, or a list of it many times -/
inductive RpD (K : PySem.W.Frag) (H : Hp) : V → PyData → Prop
  | one {v : V} {d : PyData} (h : DpD K H v d) : RpD K H v d
  | rep {l : Addr} {n : Nat} {v : V} {d : PyData} (hl : H l = some (.lst (List.replicate n v))) (h : DpD K H v d) : RpD K H (.ref l) (.list (List.replicate n d))
theorem RpD.reads {pins : List (Addr × Obj)} {σ : L2.St} {H : Hp} {s : Shared} (I : Inv X pins σ H s) {o : Obj} (hs : X.K.lookup sysModules = some o) {v : V} {d : PyData} {u : Value} (h : RpD X.K H v d) (r : RelV v u) : ∃ as, Reads s.heap u d as ∧ (d.hasDict = true → ¬ sysModules ∈ as) := by
  cases h with
  | one h => exact DpD.reads I h r
  | @rep l n v d hl h =>
    obtain rfl : u = Value.ref l := r
    have z := I.hok _ _ hl
    unfold ObjOk at z
    obtain ⟨_, its, k, vs, g⟩ := z
    obtain ⟨as, h1, h2⟩ := readsAll_rep (fun u r => DpD.reads I h r) n its vs
    refine ⟨l :: as, Reads.list g rfl rfl (by rw [List.toList_toArray]; exact h1), fun e m => ?_⟩
    have e2 : d.hasDict = true := by
      simp only [PyData.hasDict] at e
      exact hasDictAll_rep n e
    rcases List.mem_cons.mp m with m | m
    · exact not_sys I hs hl m.symm
    · exact h2 e2 m
def rReprD (K : PySem.W.Frag) : List V → Hp → VK → Prop := fun xs H Q => ∃ (x : V) (d : PyData), xs = [x] ∧ RpD K H x d ∧ d.showable = true ∧ d.depth ≤ 60 ∧ d.shown.length ≤ sizeLine ∧ Q (.str d.shown) H
theorem call_reprD {o : Obj} (hs : X.K.lookup sysModules = some o) (hg : X.A.guards = some []) (hu : X.A.units + 64 < cLine) : CallR X (.builtin "repr") (rReprD X.K) := by
  intro pins s σ H xs us Q I r h
  obtain ⟨x, d, rfl, hd, sh, hdep, hz, q⟩ := h
  obtain ⟨u, rfl, rx⟩ : ∃ u, us = [u] ∧ RelV x u := by
    cases r with
    | cons a b => cases b; exact ⟨_, rfl, a⟩
  by_cases c : ∃ a, x = .ref a
  · obtain ⟨a, rfl⟩ := c
    obtain rfl : u = Value.ref a := rx
    obtain ⟨as, rd, ns⟩ := RpD.reads (u := Value.ref a) I hs hd rfl
    exact repr_of_reads' rd sh ns hg (by omega) (fun _ _ e => e) (fun h' u tk hk => ⟨.str d.shown, H, I.kept hk, ⟨_, rfl⟩, q⟩) hz
  · cases hd with
    | rep => exact absurd ⟨_, rfl⟩ c
    | one h =>
      cases h with
      | dp h n => exact call_repr hg hu pins s σ H _ _ Q I (.cons rx .nil) ⟨x, d, rfl, h, sh, n, hdep, hz, q⟩
      | tt => exact absurd ⟨_, rfl⟩ c
      | d0 => exact absurd ⟨_, rfl⟩ c
      | d1 => exact absurd ⟨_, rfl⟩ c
end
end TT

set_option Elab.async false
set_option linter.all false
set_option maxRecDepth 100000
set_option maxHeartbeats 4000000
/-! repr of a list whose own address may be any (only what it holds must not be sys.modules) -/
namespace TT
open PySem PySem.Spec PyProof.Rows L2
theorem repr_lst {prog : Program} {w : World} {h₀ : Heap} {a : Addr} {o : Obj} {vs : Array Value} {n : Nat} {xs : List PyData} {as : List Addr} {A : Around} {E : Value → Shared → Prop} {s : Shared} {Q : Value → Shared → Prop}
    (at_a : h₀.get? a = some o) (is_l : o.cls = .type "list") (dat : o.data = .seq vs n) (its : ReadsAll h₀ vs.toList xs as)
    (sh : PyData.showableAll xs = true) (out : PyData.hasDictAll xs = true → ¬ sysModules ∈ as) (gd : A.guards = some []) (un : A.units + ((PyData.list xs).depth + 1) < cLine)
    (low : ∀ b u, h₀.get? b = some u → s.heap.get? b = some u)
    (k : ∀ h' u tk, (∀ b o, s.heap.get? b = some o → h'.get? b = some o) → Q (.str (PyData.list xs).shown u) { s with heap := h', toks := tk })
    (len : (PyData.list xs).shown.length ≤ sizeLine) : wpAny (model prog w) A (call (.builtin "repr") [.ref a]) Q E s := by
  have short : (listText (PyData.shownAll xs)).length ≤ sizeLine := by
    have := len
    rwa [PyData.shown] at this
  obtain ⟨bs, below, each⟩ := ReprAllK.of_readsAll (prog := prog) (w := w) its sh out fun t ht => Nat.le_trans (listText_mem_le ht) short
  have apart : a ∉ bs := by
    refine not_mem_of_deeper (Reads.list at_a is_l dat its) ?_ below
    rw [PyData.depth]
    omega
  have dep : A.in1.units + (PyData.list xs).depth < cLine := by
    show A.units + 1 + _ < cLine
    omega
  refine call_repr_slot (by omega) (show s.TypeIs (.ref a) "list" from ⟨o, low _ _ at_a, is_l⟩) F.slot_list_repr.toG ?_
  rw [PyData.depth] at dep
  have k' := k
  simp only [PyData.shown] at k'
  obtain ⟨l⟩ := vs
  cases l with
  | nil =>
    have none' : ReadsAll h₀ [] xs as := its
    cases none'
    simp only [PyData.shownAll, listText_nil] at k'
    exact call_list_repr_empty ⟨o, low _ _ at_a, is_l⟩ (low _ _ at_a) dat ⟨_, _, rfl, k' s.heap _ _ fun _ _ e => e⟩
  | cons x l =>
    have el := each.length_eq
    exact call_list_reprK at_a is_l dat apart (by simpa using el) (fun i y e => each.item i y (by simpa using e)) gd (fun b _ => Clear.nil b) dep low (fun h' u tk hk => ⟨_, _, rfl, k' h' u tk hk⟩) short
section
variable {X : Cx}
theorem call_reprS (hg : X.A.guards = some []) (hu : X.A.units + 64 < cLine) : CallR X (.builtin "repr") (rReprD X.K) := by
  intro pins s σ H xs us Q I r h
  obtain ⟨x, d, rfl, hd, sh, hdep, hz, q⟩ := h
  obtain ⟨u, rfl, rx⟩ : ∃ u, us = [u] ∧ RelV x u := by
    cases r with
    | cons a b => cases b; exact ⟨_, rfl, a⟩
  have fin : ∀ h' u tk, (∀ b o, s.heap.get? b = some o → h'.get? b = some o) → EP X pins σ Q (.str d.shown u) { s with heap := h', toks := tk } := fun h' u tk hk => ⟨.str d.shown, H, I.kept hk, ⟨_, rfl⟩, q⟩
  cases hd with
  | @rep l n v d hl h =>
    obtain rfl : u = Value.ref l := rx
    have z := I.hok _ _ hl
    unfold ObjOk at z
    obtain ⟨_, its, k, vs, g⟩ := z
    obtain ⟨as, h1, h2⟩ := readsAll_rep (fun u r => DpD.reads I h r) n its vs
    have sh' : PyData.showableAll (List.replicate n d) = true := by
      rwa [PyData.showable] at sh
    exact repr_lst g rfl rfl (by rw [List.toList_toArray]; exact h1) sh' (fun e => h2 (hasDictAll_rep n e)) hg (by omega) (fun _ _ e => e) fin hz
  | one h =>
    by_cases c : ∃ a, x = .ref a
    · obtain ⟨a, rfl⟩ := c
      obtain rfl : u = Value.ref a := rx
      obtain ⟨as, rd, ns⟩ := DpD.reads (u := Value.ref a) I h rfl
      exact repr_of_reads' rd sh ns hg (by omega) (fun _ _ e => e) fin hz
    · cases h with
      | dp h n => exact call_repr hg hu pins s σ H _ _ Q I (.cons rx .nil) ⟨x, d, rfl, h, sh, n, hdep, hz, q⟩
      | tt => exact absurd ⟨_, rfl⟩ c
      | d0 => exact absurd ⟨_, rfl⟩ c
      | d1 => exact absurd ⟨_, rfl⟩ c
end
end TT

set_option Elab.async false
set_option linter.all false
set_option maxRecDepth 100000
set_option maxHeartbeats 4000000
namespace TT
open PySem PySem.Spec PyProof.Rows L2
def top (i : Nat) : Stmt := PySem.Challenge.pw_turnedtunes_k00_errors_keep_their_value.main.body.getD i (.Pass ⟨0, 0, 0, 0⟩)
abbrev s_E_init : Stmt := inClass (top 1) 0
theorem sc_E_init : FnScope ["self", "value"] ["self", "value"] (defScope s_E_init) := ⟨rfl, rfl, rfl, by decide +kernel, rfl, by decide +kernel, by decide +kernel⟩
abbrev s_l_pot : Stmt := top 33
theorem sc_l_pot : FnScope ["_law_script", "_law_k", "_law_cell", "_law_own", "_law_small"] ["_law_script", "_law_k"] (defScope s_l_pot) := ⟨rfl, rfl, rfl, by decide +kernel, rfl, by decide +kernel, by decide +kernel⟩
abbrev s_l_take : Stmt := top 34
theorem sc_l_take : FnScope ["_law_pot_here", "_law_under", "_law_digit", "_law_prime", "_law_mixed"] ["_law_pot_here", "_law_under"] (defScope s_l_take) := ⟨rfl, rfl, rfl, by decide +kernel, rfl, by decide +kernel, by decide +kernel⟩
abbrev s_l_of : Stmt := top 35
theorem sc_l_of : FnScope ["_law_pot_here", "_law_some"] ["_law_pot_here", "_law_some"] (defScope s_l_of) := ⟨rfl, rfl, rfl, by decide +kernel, rfl, by decide +kernel, by decide +kernel⟩
abbrev s_l_cells : Stmt := top 36
theorem sc_l_cells : FnScope ["_law_script", "_law_most"] ["_law_script", "_law_most"] (defScope s_l_cells) := ⟨rfl, rfl, rfl, by decide +kernel, rfl, by decide +kernel, by decide +kernel⟩
abbrev s_l_odd : Stmt := top 37
theorem sc_l_odd : FnScope ["_law_pot_here", "_law_some"] ["_law_pot_here"] (defScope s_l_odd) := ⟨rfl, rfl, rfl, by decide +kernel, rfl, by decide +kernel, by decide +kernel⟩
abbrev s_l_all_of : Stmt := top 38
theorem sc_l_all_of : FnScope ["_law_one", "_law_found"] ["_law_one"] (defScope s_l_all_of) := ⟨rfl, rfl, rfl, by decide +kernel, rfl, by decide +kernel, by decide +kernel⟩
abbrev s_l_kinds_of : Stmt := top 39
theorem sc_l_kinds_of : FnScope ["_law_error", "_law_found"] ["_law_error"] (defScope s_l_kinds_of) := ⟨rfl, rfl, rfl, by decide +kernel, rfl, by decide +kernel, by decide +kernel⟩
abbrev s_l_right : Stmt := top 40
theorem sc_l_right : FnScope ["_law_pot_here", "_law_some", "_law_one", "_law_errors", "_law_at", "_law_error", "_law_kept", "_law_k"] ["_law_pot_here"] (defScope s_l_right) := ⟨rfl, rfl, rfl, by decide +kernel, rfl, by decide +kernel, by decide +kernel⟩
abbrev s_law : Stmt := top 41
theorem sc_law : FnScope ["_law_script", "_law_k"] ["_law_script"] (defScope s_law) := ⟨rfl, rfl, rfl, by decide +kernel, rfl, by decide +kernel, by decide +kernel⟩
/-- the chain of each error's class behind itself -/
def chain (cE C : Addr) : List Value := (if C = cE then [] else [.ref cE]) ++ [.type "ValueError", .type "Exception", .type "BaseException", .type "object"]
structure ExcT (K : PySem.W.Frag) (cE fI C : Addr) : Prop where
  ox : OexC K C
  xf : XfC K C
  ec : ExcC K C
  ini : PySem.W.findIn K (.ref C) "__init__" = some (some (.ref fI))
  nv : PySem.W.findIn K (.ref C) "value" = some none
  sub : ∀ b, PySem.W.subIn K (.ref C) b = some ((Value.ref C :: chain cE C).contains b)
  is : ((PySem.W.clsIn K C).isSome && PySem.W.typeIn K (.ref C) == some (.type "type")) = true
theorem ExcT.kit {K : PySem.W.Frag} {cE fI C D : Addr} (a : ExcT K cE fI C) (b : ExcT K cE fI D) (h : C ≠ D) : PySem.W.kitOne K (.ref C) (.ref D) = some (decide (D = cE)) := by
  have n1 : (Value.ref C == Value.ref D) = false := by simpa using h
  unfold PySem.W.kitOne
  rw [n1, if_neg Bool.false_ne_true]
  unfold PySem.W.kitCls
  dsimp only
  rw [if_pos b.is, a.sub]
  congr 1
  unfold chain
  have n2 : ¬ D = C := fun e => h e.symm
  by_cases c : C = cE
  · subst c
    rw [if_pos rfl, decide_eq_false n2]
    simp [n2]
  · rw [if_neg c]
    by_cases e : D = cE
    · subst e
      simp
    · rw [decide_eq_false e]
      simp [e, n2]
theorem ExcT.self {K : PySem.W.Frag} {cE fI C : Addr} (a : ExcT K cE fI C) : PySem.W.kitOne K (.ref C) (.ref C) = some true := by
  unfold PySem.W.kitOne
  rw [if_pos (beq_iff_eq.mpr rfl)]
theorem ExcT.selfC {K : PySem.W.Frag} {cE fI C : Addr} (a : ExcT K cE fI C) : PySem.W.kitCls K (.ref C) (.ref C) = some true := by
  unfold PySem.W.kitCls
  dsimp only
  rw [if_pos a.is, a.sub]
  congr 1
  simp
theorem ExcT.ve {K : PySem.W.Frag} {cE fI C : Addr} (a : ExcT K cE fI C) : PySem.W.kitOne K (.ref C) (.type "ValueError") = some true := by
  unfold PySem.W.kitOne
  rw [if_neg (by simp)]
  unfold PySem.W.kitCls
  dsimp only
  rw [if_pos (by decide +kernel), a.sub]
  congr 1
  unfold chain
  simp
/-- where the top has put each def -/
structure Zs where
  c : Nat → Addr
  f_E_init : Addr
  d_E_init : FuncData
  f_l_pot : Addr
  d_l_pot : FuncData
  f_l_take : Addr
  d_l_take : FuncData
  f_l_of : Addr
  d_l_of : FuncData
  f_l_cells : Addr
  d_l_cells : FuncData
  f_l_odd : Addr
  d_l_odd : FuncData
  f_l_all_of : Addr
  d_l_all_of : FuncData
  f_l_kinds_of : Addr
  d_l_kinds_of : FuncData
  f_l_right : Addr
  d_l_right : FuncData
  f_law : Addr
  d_law : FuncData
structure Txt (K : PySem.W.Frag) (mg : Str → Option Value) (Z : Zs) : Prop where
  F_E_init : Fun K "__init__" "TuneError.__init__" s_E_init Z.f_E_init Z.d_E_init
  bn_E_init : Binds K Z.d_E_init ["self", "value"] []
  k_E_init : PySem.W.keepIn K (.ref Z.f_E_init) = true
  i_E_init : PySem.W.isFn K (.ref Z.f_E_init) = true
  F_l_pot : Fun K "_law_pot" "_law_pot" s_l_pot Z.f_l_pot Z.d_l_pot
  bn_l_pot : Binds K Z.d_l_pot ["_law_script", "_law_k"] []
  k_l_pot : PySem.W.keepIn K (.ref Z.f_l_pot) = true
  g_l_pot : mg "_law_pot" = some (.ref Z.f_l_pot)
  F_l_take : Fun K "_law_take" "_law_take" s_l_take Z.f_l_take Z.d_l_take
  bn_l_take : Binds K Z.d_l_take ["_law_pot_here", "_law_under"] []
  k_l_take : PySem.W.keepIn K (.ref Z.f_l_take) = true
  g_l_take : mg "_law_take" = some (.ref Z.f_l_take)
  F_l_of : Fun K "_law_of" "_law_of" s_l_of Z.f_l_of Z.d_l_of
  bn_l_of : Binds K Z.d_l_of ["_law_pot_here", "_law_some"] []
  k_l_of : PySem.W.keepIn K (.ref Z.f_l_of) = true
  g_l_of : mg "_law_of" = some (.ref Z.f_l_of)
  F_l_cells : Fun K "_law_cells" "_law_cells" s_l_cells Z.f_l_cells Z.d_l_cells
  bn_l_cells : Binds K Z.d_l_cells ["_law_script", "_law_most"] []
  k_l_cells : PySem.W.keepIn K (.ref Z.f_l_cells) = true
  g_l_cells : mg "_law_cells" = some (.ref Z.f_l_cells)
  F_l_odd : Fun K "_law_odd" "_law_odd" s_l_odd Z.f_l_odd Z.d_l_odd
  bn_l_odd : Binds K Z.d_l_odd ["_law_pot_here"] []
  k_l_odd : PySem.W.keepIn K (.ref Z.f_l_odd) = true
  g_l_odd : mg "_law_odd" = some (.ref Z.f_l_odd)
  F_l_all_of : Fun K "_law_all_of" "_law_all_of" s_l_all_of Z.f_l_all_of Z.d_l_all_of
  bn_l_all_of : Binds K Z.d_l_all_of ["_law_one"] []
  k_l_all_of : PySem.W.keepIn K (.ref Z.f_l_all_of) = true
  g_l_all_of : mg "_law_all_of" = some (.ref Z.f_l_all_of)
  F_l_kinds_of : Fun K "_law_kinds_of" "_law_kinds_of" s_l_kinds_of Z.f_l_kinds_of Z.d_l_kinds_of
  bn_l_kinds_of : Binds K Z.d_l_kinds_of ["_law_error"] []
  k_l_kinds_of : PySem.W.keepIn K (.ref Z.f_l_kinds_of) = true
  g_l_kinds_of : mg "_law_kinds_of" = some (.ref Z.f_l_kinds_of)
  F_l_right : Fun K "_law_right" "_law_right" s_l_right Z.f_l_right Z.d_l_right
  bn_l_right : Binds K Z.d_l_right ["_law_pot_here"] []
  k_l_right : PySem.W.keepIn K (.ref Z.f_l_right) = true
  g_l_right : mg "_law_right" = some (.ref Z.f_l_right)
  F_law : Fun K "law" "law" s_law Z.f_law Z.d_law
  bn_law : Binds K Z.d_law ["_law_script"] []
  k_law : PySem.W.keepIn K (.ref Z.f_law) = true
  g_law : mg "law" = some (.ref Z.f_law)
  b_int : mg "int" = none
  b_len : mg "len" = none
  b_abs : mg "abs" = none
  b_list : mg "list" = none
  b_range : mg "range" = none
  b_max : mg "max" = none
  b_min : mg "min" = none
  b_isinstance : mg "isinstance" = none
  b_enumerate : mg "enumerate" = none
  b_all : mg "all" = none
  b_repr : mg "repr" = none
  g_BadPlace : mg "BadPlace" = some (.ref (Z.c 0))
  g_BadLength : mg "BadLength" = some (.ref (Z.c 1))
  g_BadAmount : mg "BadAmount" = some (.ref (Z.c 2))
  g_BadWay : mg "BadWay" = some (.ref (Z.c 3))
  g_BadText : mg "BadText" = some (.ref (Z.c 4))
  g_NoPlace : mg "NoPlace" = some (.ref (Z.c 5))
  g_BadNote : mg "BadNote" = some (.ref (Z.c 6))
  g_BadPart : mg "BadPart" = some (.ref (Z.c 7))
  g_NoJoint : mg "NoJoint" = some (.ref (Z.c 8))
  g_BadNumber : mg "BadNumber" = some (.ref (Z.c 9))
  g_BadBook : mg "BadBook" = some (.ref (Z.c 10))
  g_NoTie : mg "NoTie" = some (.ref (Z.c 11))
  g_BadTie : mg "BadTie" = some (.ref (Z.c 12))
  g_Full : mg "Full" = some (.ref (Z.c 13))
  g_OtherSize : mg "OtherSize" = some (.ref (Z.c 14))
  g_OtherNote : mg "OtherNote" = some (.ref (Z.c 15))
  g_BadSize : mg "BadSize" = some (.ref (Z.c 16))
  g_Clash : mg "Clash" = some (.ref (Z.c 17))
  g_BadPieces : mg "BadPieces" = some (.ref (Z.c 18))
  g_IsTold : mg "IsTold" = some (.ref (Z.c 19))
  g_NoNumber : mg "NoNumber" = some (.ref (Z.c 20))
  g_BadBounds : mg "BadBounds" = some (.ref (Z.c 21))
  g_NoRoom : mg "NoRoom" = some (.ref (Z.c 22))
  g_BadOffers : mg "BadOffers" = some (.ref (Z.c 23))
  g_BadWishes : mg "BadWishes" = some (.ref (Z.c 24))
  g_NothingToUndo : mg "NothingToUndo" = some (.ref (Z.c 25))
  g_NothingToRedo : mg "NothingToRedo" = some (.ref (Z.c 26))
  g_NoTrial : mg "NoTrial" = some (.ref (Z.c 27))
  g_BadJournal : mg "BadJournal" = some (.ref (Z.c 28))
  g_BadLine : mg "BadLine" = some (.ref (Z.c 29))
  g_TuneError : mg "TuneError" = some (.ref (Z.c 30))
  ex : ∀ i, i < 31 → ExcT K (Z.c 30) Z.f_E_init (Z.c i)
  nd : ∀ i j, i < 31 → j < 31 → Z.c i = Z.c j → i = j
  z_ve : PySem.W.findCls K (.type "ValueError") (.type "type") "__init__" = some (.val (.builtin "ValueError.__init__"))
  t_E_init : PySem.W.typeIn K (.ref Z.f_E_init) = some (.type "function")
  b_ValueError : mg "ValueError" = none
end TT

set_option Elab.async false
set_option linter.all false
set_option maxRecDepth 100000
set_option maxHeartbeats 4000000
namespace TT
open PySem PySem.Spec PyProof.Rows L2
/-! ### the law's draws -/
/-- a pot of draws stands at p: n numbers were mixed so far -/
def Pot (H : Hp) (p : Addr) (n : Nat) : Prop := ∃ own mix : Int, H p = some (.lst [.int own, .int mix, .int (n : Int)]) ∧ 0 ≤ own ∧ own < 10 ^ 300 ∧ 0 ≤ mix ∧ mix < 2305843009213693951
/-- all that was tracked but the object at p is as it was -/
def Keep (p : Addr) (H H' : Hp) : Prop := ∀ b o, b ≠ p → H b = some o → H' b = some o
theorem Keep.rfl' {p : Addr} {H : Hp} : Keep p H H := fun _ _ _ h => h
theorem Keep.trans {p : Addr} {H H1 H2 : Hp} (a : Keep p H H1) (b : Keep p H1 H2) : Keep p H H2 := fun c o n h => b c o n (a c o n h)
theorem Keep.of {p : Addr} {H H1 : Hp} (a : Same H H1) : Keep p H H1 := fun c o _ h => a c o h
theorem Keep.upd {p : Addr} {H H1 : Hp} {o : HO} (a : Keep p H H1) : Keep p H (upd H1 p o) := fun c u n h => by rw [upd_ne n]; exact a c u n h
theorem Keep.new {p q : Addr} {H H1 : Hp} {o : HO} (a : Keep p H H1) (h : H1 q = none) : Keep p H (L2.upd H1 q o) := fun c u n e => by
  have := a c u n e
  rw [upd_ne (ne_of_none this h)]
  exact this
theorem Same.new {q : Addr} {H H1 : Hp} {o : HO} (a : Same H H1) (h : H1 q = none) : Same H (L2.upd H1 q o) := fun c u e => by
  have := a c u e
  rw [upd_ne (ne_of_none this h)]
  exact this
theorem lt200 {u : Int} (h0 : 0 < u) (h : u < 10 ^ 60) : u.natAbs < 2 ^ 200 := by
  have : (10 : Int) ^ 60 < 2 ^ 200 := by decide
  omega
theorem bits62 {y : Int} (h0 : 0 ≤ y) (h : y < 2 ^ 62) : Builtin.Int.intBits y ≤ 64 := intBits_le_64 (by omega) (by omega)
theorem prime_at (i : Int) (h0 : 0 ≤ i) (h : i < 5) : ∃ v : Int, atI [V.int 2147483647, V.int 2147483629, V.int 2147483587, V.int 2147483579, V.int 2147483563] i = some (.int v) ∧ 2 ≤ v ∧ v ≤ 2147483648 := by
  have : i = 0 ∨ i = 1 ∨ i = 2 ∨ i = 3 ∨ i = 4 := by omega
  rcases this with rfl | rfl | rfl | rfl | rfl <;> exact ⟨_, rfl, by decide, by decide⟩
def sp_l_take : Sp := fun vs H Q _ => ∃ (p : Addr) (n : Nat) (u : Int), vs = [.ref p, .int u] ∧ Pot H p n ∧ n < 1000000 ∧ 0 < u ∧ u < 10 ^ 60 ∧
  ∀ (d : Int) (n' : Nat) (H' : Hp), 0 ≤ d → d < u → n' ≤ n + 1 → Pot H' p n' → Keep p H H' → Q (.int d) H'
section
variable {P : Program} {w : World} {K : PySem.W.Frag} {mg : Str → Option Value} {base : Heap} {Z : Zs}
theorem ok_l_take (T : Txt K mg Z) : FnOk P w K mg base CX0 1 Z.f_l_take Z.d_l_take ["_law_pot_here", "_law_under"] sp_l_take := by
  refine T.F_l_take.ok sc_l_take (fun vs H Q E h => ?_) (fun cdv A outer s H vs Q E hr h => ?_)
  · obtain ⟨p, n, u, rfl, _⟩ := h
    rfl
  · obtain ⟨p, n, u, rfl, ⟨own, mix, hp, o0, o1, m0, m1⟩, hn, u0, u1, k⟩ := h
    refine ⟨_, (pss_cons (ps_if (pt_cmpR op_gt (pe_ix ix_list (pv 0) pe_int (fun _ _ => rfl)) pe_int (nomark _)) (pss_cons (ps_set (i := 2) sc_l_take.nd rfl (Or.inl rfl) (pe_op op_mod (pe_callTy call_int1 (by rfl) T.b_int (by decide +kernel) (pa_cons (pe_ix ix_list (pv 0) pe_int (fun _ _ => rfl)) pa_nil)) (pv 1)))
      (pss_cons (ps_asg (pe_op op_fdivW (pe_ix ix_list (pv 0) pe_int (fun _ _ => rfl)) (pv 1)) (pg_sub (pv 0) pe_int set_list))
      (pss_one (ps_ret (pv 2))))) pss_nil)
      (pss_cons (ps_asg (pe_op op_add (pe_ix ix_list (pv 0) pe_int (fun _ _ => rfl)) pe_int) (pg_sub (pv 0) pe_int set_list))
      (pss_cons (ps_set (i := 3) sc_l_take.nd rfl (Or.inl rfl) (pe_ix ix_list (pe_lst (pa_cons pe_int (pa_cons pe_int (pa_cons pe_int (pa_cons pe_int (pa_cons pe_int pa_nil)))))) (pe_op op_mod (pe_callTy call_int1 (by rfl) T.b_int (by decide +kernel) (pa_cons (pe_ix ix_list (pv 0) pe_int (fun _ _ => rfl)) pa_nil)) pe_int) (fun _ _ => rfl)))
      (pss_cons (ps_set (i := 4) sc_l_take.nd rfl (Or.inl rfl) (pe_op op_mod (pe_callTy call_int1 (by rfl) T.b_int (by decide +kernel) (pa_cons (pe_op op_powW (pe_callTy call_int1 (by rfl) T.b_int (by decide +kernel) (pa_cons (pe_op op_add (pe_op op_add (pe_ix ix_list (pv 0) pe_int (fun _ _ => rfl)) (pe_op op_mul (pe_op op_mul pe_int (pe_ix ix_list (pv 0) pe_int (fun _ _ => rfl))) (pe_ix ix_list (pv 0) pe_int (fun _ _ => rfl)))) pe_int) pa_nil)) pe_int) pa_nil)) (pv 3)))
      (pss_cons (ps_set (i := 4) sc_l_take.nd rfl (Or.inl rfl) (pe_op op_mod (pe_callTy call_int1 (by rfl) T.b_int (by decide +kernel) (pa_cons (pe_op op_mul (pv 4) (pe_op op_add (pe_op op_mod (pe_callTy call_int1 (by rfl) T.b_int (by decide +kernel) (pa_cons (pv 4) pa_nil)) pe_int) (pe_op op_mul pe_int (pe_ix ix_list (pv 0) pe_int (fun _ _ => rfl))))) pa_nil)) pe_int))
      (pss_one (ps_ret (pe_op op_mod (pe_callTy call_int1 (by rfl) T.b_int (by decide +kernel) (pa_cons (pe_op op_fdivW (pv 4) pe_int) pa_nil)) (pv 1))))))))), ?_⟩
    refine ⟨_, rfl, p, _, _, _, rfl, rfl, SqL.of hp, rfl, _, _, rfl, rfl, _, rfl, ?_⟩
    refine ite2 (fun c => ?_) (fun c => ?_)
    · have c' : 0 < own := of_decide_eq_true c
      have q0 : 0 ≤ own / u := Int.ediv_nonneg o0 (Int.le_of_lt u0)
      have q1 : own / u < 10 ^ 300 := Int.lt_of_le_of_lt (Int.ediv_le_self _ o0) o1
      refine ⟨_, rfl, p, _, _, _, rfl, rfl, SqL.of hp, rfl, .inl ⟨_, rfl, _, rfl, _, _, rfl, rfl, u0, ?_⟩⟩
      refine ⟨_, rfl, p, _, _, _, rfl, rfl, SqL.of hp, rfl, _, rfl, _, _, rfl, rfl, wide_div u0 (b := 200) (lt200 u0 u1) (by decide) (by decide), _, rfl, p, _, _, _, rfl, rfl, hp, rfl, _, rfl, ?_⟩
      exact k _ n _ (Int.emod_nonneg _ (by omega)) (Int.emod_lt_of_pos _ u0) (Nat.le_succ _) ⟨own / u, mix, upd_same, q0, q1, m0, m1⟩ Keep.rfl'.upd
    · refine ⟨_, rfl, p, _, _, _, rfl, rfl, SqL.of hp, rfl, _, _, rfl, rfl, _, rfl, p, _, _, _, rfl, rfl, hp, rfl, ?_⟩
      obtain ⟨H1, hH1⟩ : ∃ H1, H1 = upd H p (.lst [V.int own, V.int mix, V.int ((n : Int) + 1)]) := ⟨_, rfl⟩
      have hp1 : H1 p = some (.lst [V.int own, V.int mix, V.int ((n : Int) + 1)]) := by rw [hH1]; exact upd_same
      have kp1 : Keep p H H1 := by rw [hH1]; exact Keep.rfl'.upd
      refine Eq.mp (congrArg _ hH1) ?_
      -- the primes
      refine ⟨by show 5 ≤ sizeLine; decide, fun q hq => ?_⟩
      have npq : p ≠ q := ne_of_none hp1 hq
      have hp2 : (upd H1 q (.lst [V.int 2147483647, V.int 2147483629, V.int 2147483587, V.int 2147483579, V.int 2147483563])) p = some (.lst [V.int own, V.int mix, V.int ((n : Int) + 1)]) := by rw [upd_ne npq]; exact hp1
      refine ⟨_, rfl, p, _, _, _, rfl, rfl, SqL.of hp2, rfl, .inl ⟨_, rfl, _, _, rfl, rfl, by show (0 : Int) < 5; decide, ?_⟩⟩
      obtain ⟨v, hv, v0, v1⟩ := prime_at (((n : Int) + 1) % 5) (Int.emod_nonneg _ (by decide)) (Int.emod_lt_of_pos _ (by decide))
      refine ⟨q, _, _, _, rfl, rfl, SqL.of upd_same, hv, ?_⟩
      generalize hH2 : upd H1 q (.lst [V.int 2147483647, V.int 2147483629, V.int 2147483587, V.int 2147483579, V.int 2147483563]) = H2 at hp2 ⊢
      have kp2 : Keep p H H2 := by rw [← hH2]; exact kp1.new hq
      -- mixed
      refine ⟨_, rfl, p, _, _, _, rfl, rfl, SqL.of hp2, rfl, _, rfl, p, _, _, _, rfl, rfl, SqL.of hp2, rfl, _, _, rfl, rfl, .inl (by constructor <;> decide), _, rfl, p, _, _, _, rfl, rfl, SqL.of hp2, rfl, _, _, rfl, rfl, .inr (by constructor <;> omega), _, _, rfl, rfl, _, _, rfl, rfl, .inl ⟨_, rfl, ?_⟩⟩
      have b1 : 0 ≤ 100169 * ((n : Int) + 1) * ((n : Int) + 1) ∧ 100169 * ((n : Int) + 1) * ((n : Int) + 1) ≤ 100169 * 1000000 * 1000000 := by
        have h1 : 0 ≤ (n : Int) + 1 := by omega
        have h2 : (n : Int) + 1 ≤ 1000000 := by omega
        refine ⟨Int.mul_nonneg (Int.mul_nonneg (by decide) h1) h1, ?_⟩
        exact Int.mul_le_mul (Int.mul_le_mul_of_nonneg_left h2 (by decide)) h2 h1 (by decide)
      generalize hz : 100169 * ((n : Int) + 1) * ((n : Int) + 1) = z at b1 ⊢
      have b2 : 0 ≤ mix + z + 53 ∧ mix + z + 53 < 2 ^ 62 := by constructor <;> omega
      generalize mix + z + 53 = y at b2 ⊢
      refine ⟨_, _, rfl, rfl, ⟨by decide, ?_⟩, .inl ⟨_, rfl, ?_⟩⟩
      · have := bits62 b2.1 b2.2
        show ((Builtin.Int.intBits y : Nat) : Int) * 3 ≤ 2 ^ 27
        omega
      refine ⟨_, rfl, _, _, rfl, rfl, by omega, ?_⟩
      have b3 : 0 ≤ y ^ (3 : Int).toNat % v ∧ y ^ (3 : Int).toNat % v < 2147483648 := ⟨Int.emod_nonneg _ (by omega), Int.lt_of_lt_of_le (Int.emod_lt_of_pos _ (by omega)) (by omega)⟩
      refine ⟨_, rfl, _, rfl, .inl ⟨_, rfl, _, _, rfl, rfl, by show (0 : Int) < 10039; decide, _, rfl, p, _, _, _, rfl, rfl, SqL.of hp2, rfl, _, _, rfl, rfl, .inl (by constructor <;> decide), _, _, rfl, rfl, _, _, rfl, rfl, .inl (by constructor <;> omega), .inl ⟨_, rfl, _, _, rfl, rfl, (by decide : (0 : Int) < 2305843009213693907), ?_⟩⟩⟩
      refine ⟨_, rfl, _, _, rfl, rfl, wide_div (j := 127) (by decide) (b := 200) (by decide) (by decide) (by decide), .inl ⟨_, rfl, _, rfl, _, _, rfl, rfl, u0, ?_⟩⟩
      exact k _ (n + 1) _ (Int.emod_nonneg _ (by omega)) (Int.emod_lt_of_pos _ u0) (Nat.le_refl _) ⟨own, mix, hp2, o0, o1, m0, m1⟩ kp2
end
end TT

set_option Elab.async false
set_option linter.all false
set_option maxRecDepth 100000
set_option maxHeartbeats 4000000
namespace TT
open PySem PySem.Spec PyProof.Rows L2
def sp_l_of : Sp := fun vs H Q _ => ∃ (p a : Addr) (n : Nat) (xs : List V), vs = [.ref p, .ref a] ∧ Pot H p n ∧ n < 1000000 ∧ H a = some (.lst xs) ∧ a ≠ p ∧ 0 < xs.length ∧ xs.length ≤ 1000 ∧
  ∀ (v : V) (n' : Nat) (H' : Hp), v ∈ xs → n' ≤ n + 1 → Pot H' p n' → Keep p H H' → Q v H'
def sp_l_cells (K : PySem.W.Frag) : Sp := fun vs H Q _ => ∃ (a : Addr) (ns : List Int) (most : Int), vs = [.ref a, .int most] ∧ SqL K H a (ns.map V.int) ∧ ns.length ≤ 63 ∧ 1 ≤ most ∧ most ≤ 63 ∧
  ∀ (q : Addr) (m : Int), H q = none → 1 ≤ m → m ≤ 63 → Q (.ref q) (upd H q (.lst (rgV 0 m)))
def sp_l_pot (K : PySem.W.Frag) : Sp := fun vs H Q _ => ∃ (a : Addr) (ns : List Int) (i : Int), vs = [.ref a, .int i] ∧ SqL K H a (ns.map V.int) ∧ ns.length ≤ 63 ∧ 0 ≤ i ∧ i < 100 ∧
  ∀ (p : Addr) (H' : Hp), H p = none → Same H H' → Pot H' p 0 → Q (.ref p) H'
theorem at_mem {xs : List V} {i : Int} (h0 : 0 ≤ i) (h : i < (xs.length : Int)) : ∃ v, atI xs i = some v ∧ v ∈ xs := by
  obtain ⟨j, rfl⟩ : ∃ j : Nat, i = (j : Int) := ⟨i.toNat, by omega⟩
  have hj : j < xs.length := by omega
  exact ⟨xs[j], atI_nat (List.getElem?_eq_getElem hj), List.getElem_mem hj⟩
theorem ite01 (b : Bool) : -(2 ^ 64) < (if b = true then (1 : Int) else 0) ∧ (if b = true then (1 : Int) else 0) < 2 ^ 64 := by cases b <;> constructor <;> decide
theorem share {T : Int → Prop} {G : Prop} (h : (∀ z, T z) → G) (t : ∀ z, T z) : G := h t
section
variable {P : Program} {w : World} {K : PySem.W.Frag} {mg : Str → Option Value} {base : Heap} {Z : Zs}
theorem ok_l_of (T : Txt K mg Z) : FnOk P w K mg base CX0 2 Z.f_l_of Z.d_l_of ["_law_pot_here", "_law_some"] sp_l_of := by
  refine T.F_l_of.ok sc_l_of (fun vs H Q E h => ?_) (fun cdv A outer s H vs Q E hr h => ?_)
  · obtain ⟨p, a, n, xs, rfl, _⟩ := h
    rfl
  · obtain ⟨p, a, n, xs, rfl, hp, hn, ha, hne, l0, l1, k⟩ := h
    refine ⟨_, (pss_one (ps_ret (pe_ix ix_list (pv 1) (pe_call (ok_l_take T) (hr.mono (by decide)) rfl T.g_l_take T.k_l_take T.bn_l_take .nil pass0 (pa_cons (pv 0) (pa_cons (pe_callB call_len (by rfl) T.b_len (by decide +kernel) (pa_cons (pv 1) pa_nil)) pa_nil))) (fun _ _ => rfl)))), ?_⟩
    have big : (xs.length : Int) < 10 ^ 60 := by
      have : (1000 : Int) < 10 ^ 60 := by decide
      omega
    refine ⟨_, rfl, _, rfl, _, rfl, _, _, rfl, .inl ⟨_, SqL.of ha, rfl⟩, p, n, _, rfl, hp, hn, by omega, big, fun d n' H' d0 d1 hn' hp' kp => ?_⟩
    obtain ⟨v, hv, hm⟩ := at_mem d0 d1
    exact ⟨a, xs, d, v, rfl, rfl, SqL.of (kp _ _ hne ha), hv, k v n' H' hm hn' hp' kp⟩
theorem ok_l_cells (T : Txt K mg Z) : FnOk P w K mg base CX0 1 Z.f_l_cells Z.d_l_cells ["_law_script", "_law_most"] (sp_l_cells K) := by
  refine T.F_l_cells.ok sc_l_cells (fun vs H Q E h => ?_) (fun cdv A outer s H vs Q E hr h => ?_)
  · obtain ⟨a, ns, m, rfl, _⟩ := h
    rfl
  · obtain ⟨a, ns, m, rfl, hS, hl, m0, m1, k⟩ := h
    refine ⟨_, (pss_one (ps_ret (pe_listRg rfl rfl T.b_list (prg_1 rfl T.b_range (pe_callB (call_max2 rfl) (by rfl) T.b_max (by decide +kernel) (pa_cons pe_int (pa_cons (pe_callB (call_min2 rfl) (by rfl) T.b_min (by decide +kernel) (pa_cons (pv 1) (pa_cons (pe_callB call_len (by rfl) T.b_len (by decide +kernel) (pa_cons (pv 0) pa_nil)) pa_nil))) pa_nil))))))), ?_⟩
    refine ⟨_, rfl, _, rfl, _, _, rfl, .inl ⟨_, hS, rfl⟩, _, _, rfl, _, _, rfl, ?_⟩
    rw [List.length_map]
    have b : 1 ≤ (if (if (ns.length : Int) < m then (ns.length : Int) else m) > 1 then (if (ns.length : Int) < m then (ns.length : Int) else m) else 1) ∧ (if (if (ns.length : Int) < m then (ns.length : Int) else m) > 1 then (if (ns.length : Int) < m then (ns.length : Int) else m) else 1) ≤ 63 := by
      constructor <;> split <;> first | omega | (split <;> omega)
    exact ⟨_, rfl, RgOk.of_le (by decide) (by omega) (by decide) (by omega), fun q hq => k q _ hq b.1 b.2⟩
theorem own_bound (x : Int) (b : Bool) : 0 ≤ x % ((10 : Int) ^ (60 : Int).toNat) ^ (5 : Int).toNat * (if b = true then 1 else 0) ∧ x % ((10 : Int) ^ (60 : Int).toNat) ^ (5 : Int).toNat * (if b = true then 1 else 0) < 10 ^ 300 := by
  have e : ((10 : Int) ^ (60 : Int).toNat) ^ (5 : Int).toNat = 10 ^ 300 := by decide
  rw [e]
  have h1 := Int.emod_nonneg x (b := 10 ^ 300) (by decide)
  have h2 := Int.emod_lt_of_pos x (b := 10 ^ 300) (by decide)
  cases b
  · simp only [Bool.false_eq_true, if_false, Int.mul_zero]
    exact ⟨Int.le_refl _, by decide⟩
  · simp only [if_true, Int.mul_one]
    exact ⟨h1, h2⟩
theorem ok_l_pot (T : Txt K mg Z) : FnOk P w K mg base CX0 1 Z.f_l_pot Z.d_l_pot ["_law_script", "_law_k"] (sp_l_pot K) := by
  refine T.F_l_pot.ok sc_l_pot (fun vs H Q E h => ?_) (fun cdv A outer s H vs Q E hr h => ?_)
  · obtain ⟨a, ns, i, rfl, _⟩ := h
    rfl
  · obtain ⟨a, ns, i, rfl, hS, hl, i0, i1, k⟩ := h
    refine ⟨_, (pss_cons (ps_set (i := 2) sc_l_pot.nd rfl (Or.inl rfl) (pe_ifExp (pt_cmpR op_lt (pv 1) (pe_callB call_len (by rfl) T.b_len (by decide +kernel) (pa_cons (pv 0) pa_nil)) (nomark _)) (pe_ix ix_list (pv 0) (pv 1) (fun _ _ => rfl)) (pe_op op_add (pe_op op_mul pe_int (pv 1)) pe_int)))
      (pss_cons (ps_set (i := 3) sc_l_pot.nd rfl (Or.inl rfl) (pe_op op_mul (pe_op op_mod (pe_callTy call_int1 (by rfl) T.b_int (by decide +kernel) (pa_cons (pe_callB call_abs (by rfl) T.b_abs (by decide +kernel) (pa_cons (pv 2) pa_nil)) pa_nil)) (pe_op op_powW (pe_op op_powW pe_int pe_int) pe_int)) (pe_callTy call_int1 (by rfl) T.b_int (by decide +kernel) (pa_cons (pe_cmpR op_ge (pe_callB call_abs (by rfl) T.b_abs (by decide +kernel) (pa_cons (pv 2) pa_nil)) (pe_op op_powW pe_int pe_int) (nomark _)) pa_nil))))
      (pss_cons (ps_set (i := 4) sc_l_pot.nd rfl (Or.inl rfl) (pe_op op_mod (pe_callTy call_int1 (by rfl) T.b_int (by decide +kernel) (pa_cons (pv 2) pa_nil)) pe_int))
      (pss_one (ps_ret (pe_lst (pa_cons (pv 3) (pa_cons (pe_op op_mod (pe_callTy call_int1 (by rfl) T.b_int (by decide +kernel) (pa_cons (pe_op op_add (pe_op op_add (pe_op op_mul (pv 4) pe_int) (pe_op op_mul (pe_op op_mul pe_int (pv 1)) (pv 1))) pe_int) pa_nil)) pe_int) (pa_cons pe_int pa_nil))))))))), ?_⟩
    refine ⟨_, rfl, _, rfl, _, _, rfl, .inl ⟨_, hS, rfl⟩, _, _, rfl, rfl, _, rfl, ?_⟩
    rw [List.length_map]
    refine' share (fun tail => ite2 (fun c => ?b1) (fun c => ?b2)) ?b3
    case b1 =>
      have c' : i < (ns.length : Int) := of_decide_eq_true c
      obtain ⟨v, hv, hm⟩ := at_mem (xs := ns.map V.int) i0 (by rw [List.length_map]; exact c')
      obtain ⟨z, _, rfl⟩ := List.mem_map.mp hm
      exact ⟨_, rfl, _, rfl, a, _, _, _, rfl, rfl, hS, hv, tail z⟩
    case b2 => exact ⟨_, rfl, _, _, rfl, rfl, .inl (by constructor <;> decide), _, _, rfl, rfl, tail _⟩
    case b3 =>
      intro z
      refine ⟨_, rfl, _, rfl, .inl ⟨_, rfl, _, _, rfl, rfl, ⟨by decide, by decide +kernel⟩, _, _, rfl, rfl, ⟨by decide, by decide +kernel⟩, _, _, rfl, rfl, (by decide +kernel : (0 : Int) < ((10 : Int) ^ (60 : Int).toNat) ^ (5 : Int).toNat), ?_⟩⟩
      refine ⟨_, rfl, _, rfl, _, _, rfl, rfl, ⟨by decide, by decide +kernel⟩, _, _, rfl, rfl, .inr ⟨_, rfl, _, _, rfl, rfl, .inr (ite01 _), ?_⟩⟩
      have ob := own_bound (if z < 0 then -z else z) (decide ((10 : Int) ^ (18 : Int).toNat ≤ (if z < 0 then -z else z)))
      refine ⟨_, rfl, .inl ⟨_, rfl, _, _, rfl, rfl, by show (0 : Int) < 2305843009213693951; decide, ?_⟩⟩
      refine ⟨_, rfl, _, rfl, _, _, rfl, rfl, .inr (by constructor <;> decide), _, rfl, _, _, rfl, rfl, .inl (by constructor <;> decide), _, rfl, _, _, rfl, rfl, .inr (by constructor <;> omega), _, _, rfl, rfl, _, _, rfl, rfl, .inl ⟨_, rfl, _, _, rfl, rfl, by show (0 : Int) < 2305843009213693921; decide, ?_⟩⟩
      refine ⟨by show 3 ≤ sizeLine; decide, fun p hp => k p _ hp (Same.new (Same.refl H) hp) ⟨_, _, upd_same, ob.1, ob.2, Int.emod_nonneg _ (by decide), ?_⟩⟩
      exact Int.lt_trans (Int.emod_lt_of_pos _ (by decide)) (by decide)
end
end TT

set_option Elab.async false
set_option linter.all false
set_option maxRecDepth 100000
set_option maxHeartbeats 4000000
namespace TT
open PySem PySem.Spec PyProof.Rows L2
/-! ### the errors -/
theorem Err.same {H H' : Hp} {a C : Addr} {fs : List (Str × V)} (s : Same H H') (h : Err H a C fs) : Err H' a C fs := h.imp fun _ z => ⟨s _ _ z.1, s _ _ z.2⟩
theorem Err.keep {H H' : Hp} {q a C : Addr} {xs : List V} {fs : List (Str × V)} (hq : H q = some (.lst xs)) (k : Keep q H H') (h : Err H a C fs) : Err H' a C fs := h.imp fun d z => by
  refine ⟨k _ _ ?_ z.1, k _ _ ?_ z.2⟩
  · rintro rfl
    have := hq.symm.trans z.1
    unfold exo at this
    cases this
  · rintro rfl
    have := hq.symm.trans z.2
    unfold exd at this
    cases this
theorem Same.fresh {H H' : Hp} {q : Addr} (s : Same H H') (n : H' q = none) : H q = none := by
  cases h : H q with
  | none => rfl
  | some o => rw [s _ _ h] at n; cases n
theorem Same.updN {H H1 : Hp} {q : Addr} {o : HO} (s : Same H H1) (n : H q = none) : Same H (L2.upd H1 q o) := fun b u e => by
  rw [upd_ne (ne_of_none e n)]
  exact s _ _ e
/-- the errors of the first classes stand there, each with v -/
def Made (Z : Zs) (v : V) (H : Hp) (as : List Addr) : Prop := ∀ i a, as[i]? = some a → Err H a (Z.c i) [("value", v)]
theorem Made.nil {Z : Zs} {v : V} {H : Hp} : Made Z v H [] := fun _ _ h => by cases h
theorem Made.snoc {Z : Zs} {v : V} {H H' : Hp} {as : List Addr} {a : Addr} {n : Nat} (m : Made Z v H as) (s : Same H H') (e : Err H' a (Z.c n) [("value", v)]) (hn : as.length = n) : Made Z v H' (as ++ [a]) := fun i b h => by
  subst hn
  rw [List.getElem?_append] at h
  split at h
  · exact Err.same s (m i b h)
  · rename_i c
    have : i = as.length := by
      have := (List.getElem?_eq_some_iff.mp h).1
      simp at this
      omega
    subst this
    rw [Nat.sub_self] at h
    cases h
    exact e
theorem Made.same {Z : Zs} {v : V} {H H' : Hp} {as : List Addr} (m : Made Z v H as) (s : Same H H') : Made Z v H' as := fun i b h => Err.same s (m i b h)
theorem Made.keep {Z : Zs} {v : V} {H H' : Hp} {as : List Addr} {q : Addr} {xs : List V} (m : Made Z v H as) (hq : H q = some (.lst xs)) (k : Keep q H H') : Made Z v H' as := fun i b h => Err.keep hq k (m i b h)
def sp_E_init (K : PySem.W.Frag) (Z : Zs) : Sp := fun vs H Q _ => ∃ (a C : Addr) (v : V), vs = [.ref a, v] ∧ H a = some (exo a C none) ∧ ExcT K (Z.c 30) Z.f_E_init C ∧ ∀ H', Keep a H H' → Err H' a C [("value", v)] → Q .non H'
def sp_l_all_of (Z : Zs) : Sp := fun vs H Q _ => ∃ v, vs = [v] ∧ ∀ (q : Addr) (as : List Addr) (H' : Hp), as.length = 30 → Made Z v H' as → H' q = some (.lst (as.map V.ref)) → H q = none → Same H H' → Q (.ref q) H'
section
variable {P : Program} {w : World} {K : PySem.W.Frag} {mg : Str → Option Value} {base : Heap} {Z : Zs}
theorem ok_E_init (T : Txt K mg Z) : FnOk P w K mg base CX0 1 Z.f_E_init Z.d_E_init ["self", "value"] (sp_E_init K Z) := by
  refine T.F_E_init.ok sc_E_init (fun vs H Q E h => ?_) (fun cdv A outer s H vs Q E hr h => ?_)
  · obtain ⟨a, C, v, rfl, _⟩ := h
    rfl
  · obtain ⟨a, C, v, rfl, ha, X, k⟩ := h
    refine ⟨_, (pss_cons (ps_expr (pe_veinit rfl T.b_ValueError T.z_ve (pa_cons (pv 0) (pa_cons (pv 1) pa_nil))))
      (pss_one (ps_ost (pv 0) (pv 1)))), ?_⟩
    refine ⟨_, rfl, _, rfl, a, C, [v], rfl, by show 1 ≤ 1000; decide, X.ox, ha, ?_⟩
    refine ⟨_, rfl, _, rfl, a, C, rfl, X.ox, X.nv, .inl ⟨ha, fun d hd hne => ?_⟩⟩
    have nda : a ≠ d := ne_of_none ha hd
    refine k _ (fun b o n e => ?_) ⟨d, upd_same, ?_⟩
    · rw [upd_ne n, upd_ne (ne_of_none e hd)]
      exact e
    · rw [upd_ne hne]
      exact upd_same
theorem mk1 {C : Addr} {x : V} {R : Addr → VK} {F : XK} {H : Hp} (T : ExcT K (Z.c 30) Z.f_E_init C) (h : ∀ a H1, Same H H1 → Err H1 a C [("value", x)] → R a .non H1) :
    ([x] : List V).length ≤ 1000 ∧ ∀ a, H a = none → sp_E_init K Z (.ref a :: ([x] ++ [])) (upd H a (exo a C none)) (R a) F := by
  refine ⟨by show 1 ≤ 1000; decide, fun a ha => ⟨a, C, x, rfl, upd_same, T, fun H' k e => h a H' (fun b o eb => ?_) e⟩⟩
  have n := ne_of_none eb ha
  exact k b o n (by rw [upd_ne n]; exact eb)
theorem ok_l_all_of (T : Txt K mg Z) : FnOk P w K mg base CX0 3 Z.f_l_all_of Z.d_l_all_of ["_law_one"] (sp_l_all_of Z) := by
  refine T.F_l_all_of.ok sc_l_all_of (fun vs H Q E h => ?_) (fun cdv A outer s H vs Q E hr h => ?_)
  · obtain ⟨v, rfl, _⟩ := h
    rfl
  · obtain ⟨v, rfl, k⟩ := h
    refine ⟨_, (pss_cons (ps_set (i := 1) sc_l_all_of.nd rfl (Or.inl rfl) (pe_lst (pa_cons (pe_mkX (T.ex 0 (by decide)).ox (T.ex 0 (by decide)).ini T.t_E_init (ok_E_init T) (hr.mono (by decide)) T.bn_E_init .nil pass0 rfl T.g_BadPlace (pa_cons (pv 0) pa_nil)) (pa_cons (pe_mkX (T.ex 1 (by decide)).ox (T.ex 1 (by decide)).ini T.t_E_init (ok_E_init T) (hr.mono (by decide)) T.bn_E_init .nil pass0 rfl T.g_BadLength (pa_cons (pv 0) pa_nil)) (pa_cons (pe_mkX (T.ex 2 (by decide)).ox (T.ex 2 (by decide)).ini T.t_E_init (ok_E_init T) (hr.mono (by decide)) T.bn_E_init .nil pass0 rfl T.g_BadAmount (pa_cons (pv 0) pa_nil)) (pa_cons (pe_mkX (T.ex 3 (by decide)).ox (T.ex 3 (by decide)).ini T.t_E_init (ok_E_init T) (hr.mono (by decide)) T.bn_E_init .nil pass0 rfl T.g_BadWay (pa_cons (pv 0) pa_nil)) pa_nil))))))
      (pss_cons (ps_expr (pe_bm PySem.F.plainAttrs_list PySem.F.slot_list_extend PySem.F.type_list_extend mt_extend (pv 1) (pa_cons (pe_lst (pa_cons (pe_mkX (T.ex 4 (by decide)).ox (T.ex 4 (by decide)).ini T.t_E_init (ok_E_init T) (hr.mono (by decide)) T.bn_E_init .nil pass0 rfl T.g_BadText (pa_cons (pv 0) pa_nil)) (pa_cons (pe_mkX (T.ex 5 (by decide)).ox (T.ex 5 (by decide)).ini T.t_E_init (ok_E_init T) (hr.mono (by decide)) T.bn_E_init .nil pass0 rfl T.g_NoPlace (pa_cons (pv 0) pa_nil)) (pa_cons (pe_mkX (T.ex 6 (by decide)).ox (T.ex 6 (by decide)).ini T.t_E_init (ok_E_init T) (hr.mono (by decide)) T.bn_E_init .nil pass0 rfl T.g_BadNote (pa_cons (pv 0) pa_nil)) (pa_cons (pe_mkX (T.ex 7 (by decide)).ox (T.ex 7 (by decide)).ini T.t_E_init (ok_E_init T) (hr.mono (by decide)) T.bn_E_init .nil pass0 rfl T.g_BadPart (pa_cons (pv 0) pa_nil)) pa_nil))))) pa_nil)))
      (pss_cons (ps_expr (pe_bm PySem.F.plainAttrs_list PySem.F.slot_list_extend PySem.F.type_list_extend mt_extend (pv 1) (pa_cons (pe_lst (pa_cons (pe_mkX (T.ex 8 (by decide)).ox (T.ex 8 (by decide)).ini T.t_E_init (ok_E_init T) (hr.mono (by decide)) T.bn_E_init .nil pass0 rfl T.g_NoJoint (pa_cons (pv 0) pa_nil)) (pa_cons (pe_mkX (T.ex 9 (by decide)).ox (T.ex 9 (by decide)).ini T.t_E_init (ok_E_init T) (hr.mono (by decide)) T.bn_E_init .nil pass0 rfl T.g_BadNumber (pa_cons (pv 0) pa_nil)) (pa_cons (pe_mkX (T.ex 10 (by decide)).ox (T.ex 10 (by decide)).ini T.t_E_init (ok_E_init T) (hr.mono (by decide)) T.bn_E_init .nil pass0 rfl T.g_BadBook (pa_cons (pv 0) pa_nil)) (pa_cons (pe_mkX (T.ex 11 (by decide)).ox (T.ex 11 (by decide)).ini T.t_E_init (ok_E_init T) (hr.mono (by decide)) T.bn_E_init .nil pass0 rfl T.g_NoTie (pa_cons (pv 0) pa_nil)) pa_nil))))) pa_nil)))
      (pss_cons (ps_expr (pe_bm PySem.F.plainAttrs_list PySem.F.slot_list_extend PySem.F.type_list_extend mt_extend (pv 1) (pa_cons (pe_lst (pa_cons (pe_mkX (T.ex 12 (by decide)).ox (T.ex 12 (by decide)).ini T.t_E_init (ok_E_init T) (hr.mono (by decide)) T.bn_E_init .nil pass0 rfl T.g_BadTie (pa_cons (pv 0) pa_nil)) (pa_cons (pe_mkX (T.ex 13 (by decide)).ox (T.ex 13 (by decide)).ini T.t_E_init (ok_E_init T) (hr.mono (by decide)) T.bn_E_init .nil pass0 rfl T.g_Full (pa_cons (pv 0) pa_nil)) (pa_cons (pe_mkX (T.ex 14 (by decide)).ox (T.ex 14 (by decide)).ini T.t_E_init (ok_E_init T) (hr.mono (by decide)) T.bn_E_init .nil pass0 rfl T.g_OtherSize (pa_cons (pv 0) pa_nil)) (pa_cons (pe_mkX (T.ex 15 (by decide)).ox (T.ex 15 (by decide)).ini T.t_E_init (ok_E_init T) (hr.mono (by decide)) T.bn_E_init .nil pass0 rfl T.g_OtherNote (pa_cons (pv 0) pa_nil)) pa_nil))))) pa_nil)))
      (pss_cons (ps_expr (pe_bm PySem.F.plainAttrs_list PySem.F.slot_list_extend PySem.F.type_list_extend mt_extend (pv 1) (pa_cons (pe_lst (pa_cons (pe_mkX (T.ex 16 (by decide)).ox (T.ex 16 (by decide)).ini T.t_E_init (ok_E_init T) (hr.mono (by decide)) T.bn_E_init .nil pass0 rfl T.g_BadSize (pa_cons (pv 0) pa_nil)) (pa_cons (pe_mkX (T.ex 17 (by decide)).ox (T.ex 17 (by decide)).ini T.t_E_init (ok_E_init T) (hr.mono (by decide)) T.bn_E_init .nil pass0 rfl T.g_Clash (pa_cons (pv 0) pa_nil)) (pa_cons (pe_mkX (T.ex 18 (by decide)).ox (T.ex 18 (by decide)).ini T.t_E_init (ok_E_init T) (hr.mono (by decide)) T.bn_E_init .nil pass0 rfl T.g_BadPieces (pa_cons (pv 0) pa_nil)) (pa_cons (pe_mkX (T.ex 19 (by decide)).ox (T.ex 19 (by decide)).ini T.t_E_init (ok_E_init T) (hr.mono (by decide)) T.bn_E_init .nil pass0 rfl T.g_IsTold (pa_cons (pv 0) pa_nil)) pa_nil))))) pa_nil)))
      (pss_cons (ps_expr (pe_bm PySem.F.plainAttrs_list PySem.F.slot_list_extend PySem.F.type_list_extend mt_extend (pv 1) (pa_cons (pe_lst (pa_cons (pe_mkX (T.ex 20 (by decide)).ox (T.ex 20 (by decide)).ini T.t_E_init (ok_E_init T) (hr.mono (by decide)) T.bn_E_init .nil pass0 rfl T.g_NoNumber (pa_cons (pv 0) pa_nil)) (pa_cons (pe_mkX (T.ex 21 (by decide)).ox (T.ex 21 (by decide)).ini T.t_E_init (ok_E_init T) (hr.mono (by decide)) T.bn_E_init .nil pass0 rfl T.g_BadBounds (pa_cons (pv 0) pa_nil)) (pa_cons (pe_mkX (T.ex 22 (by decide)).ox (T.ex 22 (by decide)).ini T.t_E_init (ok_E_init T) (hr.mono (by decide)) T.bn_E_init .nil pass0 rfl T.g_NoRoom (pa_cons (pv 0) pa_nil)) (pa_cons (pe_mkX (T.ex 23 (by decide)).ox (T.ex 23 (by decide)).ini T.t_E_init (ok_E_init T) (hr.mono (by decide)) T.bn_E_init .nil pass0 rfl T.g_BadOffers (pa_cons (pv 0) pa_nil)) pa_nil))))) pa_nil)))
      (pss_cons (ps_expr (pe_bm PySem.F.plainAttrs_list PySem.F.slot_list_extend PySem.F.type_list_extend mt_extend (pv 1) (pa_cons (pe_lst (pa_cons (pe_mkX (T.ex 24 (by decide)).ox (T.ex 24 (by decide)).ini T.t_E_init (ok_E_init T) (hr.mono (by decide)) T.bn_E_init .nil pass0 rfl T.g_BadWishes (pa_cons (pv 0) pa_nil)) (pa_cons (pe_mkX (T.ex 25 (by decide)).ox (T.ex 25 (by decide)).ini T.t_E_init (ok_E_init T) (hr.mono (by decide)) T.bn_E_init .nil pass0 rfl T.g_NothingToUndo (pa_cons (pv 0) pa_nil)) (pa_cons (pe_mkX (T.ex 26 (by decide)).ox (T.ex 26 (by decide)).ini T.t_E_init (ok_E_init T) (hr.mono (by decide)) T.bn_E_init .nil pass0 rfl T.g_NothingToRedo (pa_cons (pv 0) pa_nil)) (pa_cons (pe_mkX (T.ex 27 (by decide)).ox (T.ex 27 (by decide)).ini T.t_E_init (ok_E_init T) (hr.mono (by decide)) T.bn_E_init .nil pass0 rfl T.g_NoTrial (pa_cons (pv 0) pa_nil)) pa_nil))))) pa_nil)))
      (pss_cons (ps_expr (pe_bm PySem.F.plainAttrs_list PySem.F.slot_list_extend PySem.F.type_list_extend mt_extend (pv 1) (pa_cons (pe_lst (pa_cons (pe_mkX (T.ex 28 (by decide)).ox (T.ex 28 (by decide)).ini T.t_E_init (ok_E_init T) (hr.mono (by decide)) T.bn_E_init .nil pass0 rfl T.g_BadJournal (pa_cons (pv 0) pa_nil)) (pa_cons (pe_mkX (T.ex 29 (by decide)).ox (T.ex 29 (by decide)).ini T.t_E_init (ok_E_init T) (hr.mono (by decide)) T.bn_E_init .nil pass0 rfl T.g_BadLine (pa_cons (pv 0) pa_nil)) pa_nil))) pa_nil)))
      (pss_one (ps_ret (pv 1))))))))))), ?_⟩
    have s := Same.refl H
    have m := Made.nil (Z := Z) (v := v) (H := H)
    refine ⟨_, rfl, mk1 (T.ex 0 (by decide)) fun a0 G0 s0 e0 => ⟨rfl, ?_⟩⟩
    replace m : Made Z v G0 [a0] := m.snoc s0 e0 rfl
    replace s := s.trans s0
    refine ⟨_, rfl, mk1 (T.ex 1 (by decide)) fun a1 G1 s1 e1 => ⟨rfl, ?_⟩⟩
    replace m : Made Z v G1 [a0, a1] := m.snoc s1 e1 rfl
    replace s := s.trans s1
    refine ⟨_, rfl, mk1 (T.ex 2 (by decide)) fun a2 G2 s2 e2 => ⟨rfl, ?_⟩⟩
    replace m : Made Z v G2 [a0, a1, a2] := m.snoc s2 e2 rfl
    replace s := s.trans s2
    refine ⟨_, rfl, mk1 (T.ex 3 (by decide)) fun a3 G3 s3 e3 => ⟨rfl, ?_⟩⟩
    replace m : Made Z v G3 [a0, a1, a2, a3] := m.snoc s3 e3 rfl
    replace s := s.trans s3
    refine ⟨by show 4 ≤ sizeLine; decide, fun q hq0 => ?_⟩
    have nq := Same.fresh s hq0
    have t := Same.new (o := .lst [.ref a0, .ref a1, .ref a2, .ref a3]) (Same.refl _) hq0
    replace m := m.same t
    replace s := s.trans t
    have hq : (upd G3 q (.lst [.ref a0, .ref a1, .ref a2, .ref a3])) q = some (.lst [.ref a0, .ref a1, .ref a2, .ref a3]) := upd_same
    refine ⟨_, rfl, .inl ⟨rfl, _, SqL.of hq⟩, ?_⟩
    refine ⟨_, rfl, mk1 (T.ex 4 (by decide)) fun a4 G4 s4 e4 => ⟨rfl, ?_⟩⟩
    replace hq := s4 _ _ hq
    replace m : Made Z v G4 [a0, a1, a2, a3, a4] := m.snoc s4 e4 rfl
    replace s := s.trans s4
    refine ⟨_, rfl, mk1 (T.ex 5 (by decide)) fun a5 G5 s5 e5 => ⟨rfl, ?_⟩⟩
    replace hq := s5 _ _ hq
    replace m : Made Z v G5 [a0, a1, a2, a3, a4, a5] := m.snoc s5 e5 rfl
    replace s := s.trans s5
    refine ⟨_, rfl, mk1 (T.ex 6 (by decide)) fun a6 G6 s6 e6 => ⟨rfl, ?_⟩⟩
    replace hq := s6 _ _ hq
    replace m : Made Z v G6 [a0, a1, a2, a3, a4, a5, a6] := m.snoc s6 e6 rfl
    replace s := s.trans s6
    refine ⟨_, rfl, mk1 (T.ex 7 (by decide)) fun a7 G7 s7 e7 => ⟨rfl, ?_⟩⟩
    replace hq := s7 _ _ hq
    replace m : Made Z v G7 [a0, a1, a2, a3, a4, a5, a6, a7] := m.snoc s7 e7 rfl
    replace s := s.trans s7
    refine ⟨by show 4 ≤ sizeLine; decide, fun r hr => ?_⟩
    have t1 := Same.new (o := .lst [.ref a4, .ref a5, .ref a6, .ref a7]) (Same.refl _) hr
    replace m := m.same t1
    replace s := s.trans t1
    replace hq := t1 _ _ hq
    refine ⟨q, r, _, _, rfl, rfl, hq, upd_same, by show 4 + 4 ≤ sizeLine; decide, ?_⟩
    have kp1 := Keep.upd (o := .lst [.ref a0, .ref a1, .ref a2, .ref a3, .ref a4, .ref a5, .ref a6, .ref a7]) (Keep.rfl' (p := q) (H := upd G7 r (.lst [.ref a4, .ref a5, .ref a6, .ref a7])))
    replace m := m.keep hq kp1
    replace s := Same.updN (o := .lst [.ref a0, .ref a1, .ref a2, .ref a3, .ref a4, .ref a5, .ref a6, .ref a7]) s nq
    replace hq : (upd (upd G7 r (.lst [.ref a4, .ref a5, .ref a6, .ref a7])) q (.lst [.ref a0, .ref a1, .ref a2, .ref a3, .ref a4, .ref a5, .ref a6, .ref a7])) q = some (.lst [.ref a0, .ref a1, .ref a2, .ref a3, .ref a4, .ref a5, .ref a6, .ref a7]) := upd_same
    refine ⟨_, rfl, .inl ⟨rfl, _, SqL.of hq⟩, ?_⟩
    refine ⟨_, rfl, mk1 (T.ex 8 (by decide)) fun a8 G8 s8 e8 => ⟨rfl, ?_⟩⟩
    replace hq := s8 _ _ hq
    replace m : Made Z v G8 [a0, a1, a2, a3, a4, a5, a6, a7, a8] := m.snoc s8 e8 rfl
    replace s := s.trans s8
    refine ⟨_, rfl, mk1 (T.ex 9 (by decide)) fun a9 G9 s9 e9 => ⟨rfl, ?_⟩⟩
    replace hq := s9 _ _ hq
    replace m : Made Z v G9 [a0, a1, a2, a3, a4, a5, a6, a7, a8, a9] := m.snoc s9 e9 rfl
    replace s := s.trans s9
    refine ⟨_, rfl, mk1 (T.ex 10 (by decide)) fun a10 G10 s10 e10 => ⟨rfl, ?_⟩⟩
    replace hq := s10 _ _ hq
    replace m : Made Z v G10 [a0, a1, a2, a3, a4, a5, a6, a7, a8, a9, a10] := m.snoc s10 e10 rfl
    replace s := s.trans s10
    refine ⟨_, rfl, mk1 (T.ex 11 (by decide)) fun a11 G11 s11 e11 => ⟨rfl, ?_⟩⟩
    replace hq := s11 _ _ hq
    replace m : Made Z v G11 [a0, a1, a2, a3, a4, a5, a6, a7, a8, a9, a10, a11] := m.snoc s11 e11 rfl
    replace s := s.trans s11
    refine ⟨by show 4 ≤ sizeLine; decide, fun r hr => ?_⟩
    have t2 := Same.new (o := .lst [.ref a8, .ref a9, .ref a10, .ref a11]) (Same.refl _) hr
    replace m := m.same t2
    replace s := s.trans t2
    replace hq := t2 _ _ hq
    refine ⟨q, r, _, _, rfl, rfl, hq, upd_same, by show 8 + 4 ≤ sizeLine; decide, ?_⟩
    have kp2 := Keep.upd (o := .lst [.ref a0, .ref a1, .ref a2, .ref a3, .ref a4, .ref a5, .ref a6, .ref a7, .ref a8, .ref a9, .ref a10, .ref a11]) (Keep.rfl' (p := q) (H := upd G11 r (.lst [.ref a8, .ref a9, .ref a10, .ref a11])))
    replace m := m.keep hq kp2
    replace s := Same.updN (o := .lst [.ref a0, .ref a1, .ref a2, .ref a3, .ref a4, .ref a5, .ref a6, .ref a7, .ref a8, .ref a9, .ref a10, .ref a11]) s nq
    replace hq : (upd (upd G11 r (.lst [.ref a8, .ref a9, .ref a10, .ref a11])) q (.lst [.ref a0, .ref a1, .ref a2, .ref a3, .ref a4, .ref a5, .ref a6, .ref a7, .ref a8, .ref a9, .ref a10, .ref a11])) q = some (.lst [.ref a0, .ref a1, .ref a2, .ref a3, .ref a4, .ref a5, .ref a6, .ref a7, .ref a8, .ref a9, .ref a10, .ref a11]) := upd_same
    refine ⟨_, rfl, .inl ⟨rfl, _, SqL.of hq⟩, ?_⟩
    refine ⟨_, rfl, mk1 (T.ex 12 (by decide)) fun a12 G12 s12 e12 => ⟨rfl, ?_⟩⟩
    replace hq := s12 _ _ hq
    replace m : Made Z v G12 [a0, a1, a2, a3, a4, a5, a6, a7, a8, a9, a10, a11, a12] := m.snoc s12 e12 rfl
    replace s := s.trans s12
    refine ⟨_, rfl, mk1 (T.ex 13 (by decide)) fun a13 G13 s13 e13 => ⟨rfl, ?_⟩⟩
    replace hq := s13 _ _ hq
    replace m : Made Z v G13 [a0, a1, a2, a3, a4, a5, a6, a7, a8, a9, a10, a11, a12, a13] := m.snoc s13 e13 rfl
    replace s := s.trans s13
    refine ⟨_, rfl, mk1 (T.ex 14 (by decide)) fun a14 G14 s14 e14 => ⟨rfl, ?_⟩⟩
    replace hq := s14 _ _ hq
    replace m : Made Z v G14 [a0, a1, a2, a3, a4, a5, a6, a7, a8, a9, a10, a11, a12, a13, a14] := m.snoc s14 e14 rfl
    replace s := s.trans s14
    refine ⟨_, rfl, mk1 (T.ex 15 (by decide)) fun a15 G15 s15 e15 => ⟨rfl, ?_⟩⟩
    replace hq := s15 _ _ hq
    replace m : Made Z v G15 [a0, a1, a2, a3, a4, a5, a6, a7, a8, a9, a10, a11, a12, a13, a14, a15] := m.snoc s15 e15 rfl
    replace s := s.trans s15
    refine ⟨by show 4 ≤ sizeLine; decide, fun r hr => ?_⟩
    have t3 := Same.new (o := .lst [.ref a12, .ref a13, .ref a14, .ref a15]) (Same.refl _) hr
    replace m := m.same t3
    replace s := s.trans t3
    replace hq := t3 _ _ hq
    refine ⟨q, r, _, _, rfl, rfl, hq, upd_same, by show 12 + 4 ≤ sizeLine; decide, ?_⟩
    have kp3 := Keep.upd (o := .lst [.ref a0, .ref a1, .ref a2, .ref a3, .ref a4, .ref a5, .ref a6, .ref a7, .ref a8, .ref a9, .ref a10, .ref a11, .ref a12, .ref a13, .ref a14, .ref a15]) (Keep.rfl' (p := q) (H := upd G15 r (.lst [.ref a12, .ref a13, .ref a14, .ref a15])))
    replace m := m.keep hq kp3
    replace s := Same.updN (o := .lst [.ref a0, .ref a1, .ref a2, .ref a3, .ref a4, .ref a5, .ref a6, .ref a7, .ref a8, .ref a9, .ref a10, .ref a11, .ref a12, .ref a13, .ref a14, .ref a15]) s nq
    replace hq : (upd (upd G15 r (.lst [.ref a12, .ref a13, .ref a14, .ref a15])) q (.lst [.ref a0, .ref a1, .ref a2, .ref a3, .ref a4, .ref a5, .ref a6, .ref a7, .ref a8, .ref a9, .ref a10, .ref a11, .ref a12, .ref a13, .ref a14, .ref a15])) q = some (.lst [.ref a0, .ref a1, .ref a2, .ref a3, .ref a4, .ref a5, .ref a6, .ref a7, .ref a8, .ref a9, .ref a10, .ref a11, .ref a12, .ref a13, .ref a14, .ref a15]) := upd_same
    refine ⟨_, rfl, .inl ⟨rfl, _, SqL.of hq⟩, ?_⟩
    refine ⟨_, rfl, mk1 (T.ex 16 (by decide)) fun a16 G16 s16 e16 => ⟨rfl, ?_⟩⟩
    replace hq := s16 _ _ hq
    replace m : Made Z v G16 [a0, a1, a2, a3, a4, a5, a6, a7, a8, a9, a10, a11, a12, a13, a14, a15, a16] := m.snoc s16 e16 rfl
    replace s := s.trans s16
    refine ⟨_, rfl, mk1 (T.ex 17 (by decide)) fun a17 G17 s17 e17 => ⟨rfl, ?_⟩⟩
    replace hq := s17 _ _ hq
    replace m : Made Z v G17 [a0, a1, a2, a3, a4, a5, a6, a7, a8, a9, a10, a11, a12, a13, a14, a15, a16, a17] := m.snoc s17 e17 rfl
    replace s := s.trans s17
    refine ⟨_, rfl, mk1 (T.ex 18 (by decide)) fun a18 G18 s18 e18 => ⟨rfl, ?_⟩⟩
    replace hq := s18 _ _ hq
    replace m : Made Z v G18 [a0, a1, a2, a3, a4, a5, a6, a7, a8, a9, a10, a11, a12, a13, a14, a15, a16, a17, a18] := m.snoc s18 e18 rfl
    replace s := s.trans s18
    refine ⟨_, rfl, mk1 (T.ex 19 (by decide)) fun a19 G19 s19 e19 => ⟨rfl, ?_⟩⟩
    replace hq := s19 _ _ hq
    replace m : Made Z v G19 [a0, a1, a2, a3, a4, a5, a6, a7, a8, a9, a10, a11, a12, a13, a14, a15, a16, a17, a18, a19] := m.snoc s19 e19 rfl
    replace s := s.trans s19
    refine ⟨by show 4 ≤ sizeLine; decide, fun r hr => ?_⟩
    have t4 := Same.new (o := .lst [.ref a16, .ref a17, .ref a18, .ref a19]) (Same.refl _) hr
    replace m := m.same t4
    replace s := s.trans t4
    replace hq := t4 _ _ hq
    refine ⟨q, r, _, _, rfl, rfl, hq, upd_same, by show 16 + 4 ≤ sizeLine; decide, ?_⟩
    have kp4 := Keep.upd (o := .lst [.ref a0, .ref a1, .ref a2, .ref a3, .ref a4, .ref a5, .ref a6, .ref a7, .ref a8, .ref a9, .ref a10, .ref a11, .ref a12, .ref a13, .ref a14, .ref a15, .ref a16, .ref a17, .ref a18, .ref a19]) (Keep.rfl' (p := q) (H := upd G19 r (.lst [.ref a16, .ref a17, .ref a18, .ref a19])))
    replace m := m.keep hq kp4
    replace s := Same.updN (o := .lst [.ref a0, .ref a1, .ref a2, .ref a3, .ref a4, .ref a5, .ref a6, .ref a7, .ref a8, .ref a9, .ref a10, .ref a11, .ref a12, .ref a13, .ref a14, .ref a15, .ref a16, .ref a17, .ref a18, .ref a19]) s nq
    replace hq : (upd (upd G19 r (.lst [.ref a16, .ref a17, .ref a18, .ref a19])) q (.lst [.ref a0, .ref a1, .ref a2, .ref a3, .ref a4, .ref a5, .ref a6, .ref a7, .ref a8, .ref a9, .ref a10, .ref a11, .ref a12, .ref a13, .ref a14, .ref a15, .ref a16, .ref a17, .ref a18, .ref a19])) q = some (.lst [.ref a0, .ref a1, .ref a2, .ref a3, .ref a4, .ref a5, .ref a6, .ref a7, .ref a8, .ref a9, .ref a10, .ref a11, .ref a12, .ref a13, .ref a14, .ref a15, .ref a16, .ref a17, .ref a18, .ref a19]) := upd_same
    refine ⟨_, rfl, .inl ⟨rfl, _, SqL.of hq⟩, ?_⟩
    refine ⟨_, rfl, mk1 (T.ex 20 (by decide)) fun a20 G20 s20 e20 => ⟨rfl, ?_⟩⟩
    replace hq := s20 _ _ hq
    replace m : Made Z v G20 [a0, a1, a2, a3, a4, a5, a6, a7, a8, a9, a10, a11, a12, a13, a14, a15, a16, a17, a18, a19, a20] := m.snoc s20 e20 rfl
    replace s := s.trans s20
    refine ⟨_, rfl, mk1 (T.ex 21 (by decide)) fun a21 G21 s21 e21 => ⟨rfl, ?_⟩⟩
    replace hq := s21 _ _ hq
    replace m : Made Z v G21 [a0, a1, a2, a3, a4, a5, a6, a7, a8, a9, a10, a11, a12, a13, a14, a15, a16, a17, a18, a19, a20, a21] := m.snoc s21 e21 rfl
    replace s := s.trans s21
    refine ⟨_, rfl, mk1 (T.ex 22 (by decide)) fun a22 G22 s22 e22 => ⟨rfl, ?_⟩⟩
    replace hq := s22 _ _ hq
    replace m : Made Z v G22 [a0, a1, a2, a3, a4, a5, a6, a7, a8, a9, a10, a11, a12, a13, a14, a15, a16, a17, a18, a19, a20, a21, a22] := m.snoc s22 e22 rfl
    replace s := s.trans s22
    refine ⟨_, rfl, mk1 (T.ex 23 (by decide)) fun a23 G23 s23 e23 => ⟨rfl, ?_⟩⟩
    replace hq := s23 _ _ hq
    replace m : Made Z v G23 [a0, a1, a2, a3, a4, a5, a6, a7, a8, a9, a10, a11, a12, a13, a14, a15, a16, a17, a18, a19, a20, a21, a22, a23] := m.snoc s23 e23 rfl
    replace s := s.trans s23
    refine ⟨by show 4 ≤ sizeLine; decide, fun r hr => ?_⟩
    have t5 := Same.new (o := .lst [.ref a20, .ref a21, .ref a22, .ref a23]) (Same.refl _) hr
    replace m := m.same t5
    replace s := s.trans t5
    replace hq := t5 _ _ hq
    refine ⟨q, r, _, _, rfl, rfl, hq, upd_same, by show 20 + 4 ≤ sizeLine; decide, ?_⟩
    have kp5 := Keep.upd (o := .lst [.ref a0, .ref a1, .ref a2, .ref a3, .ref a4, .ref a5, .ref a6, .ref a7, .ref a8, .ref a9, .ref a10, .ref a11, .ref a12, .ref a13, .ref a14, .ref a15, .ref a16, .ref a17, .ref a18, .ref a19, .ref a20, .ref a21, .ref a22, .ref a23]) (Keep.rfl' (p := q) (H := upd G23 r (.lst [.ref a20, .ref a21, .ref a22, .ref a23])))
    replace m := m.keep hq kp5
    replace s := Same.updN (o := .lst [.ref a0, .ref a1, .ref a2, .ref a3, .ref a4, .ref a5, .ref a6, .ref a7, .ref a8, .ref a9, .ref a10, .ref a11, .ref a12, .ref a13, .ref a14, .ref a15, .ref a16, .ref a17, .ref a18, .ref a19, .ref a20, .ref a21, .ref a22, .ref a23]) s nq
    replace hq : (upd (upd G23 r (.lst [.ref a20, .ref a21, .ref a22, .ref a23])) q (.lst [.ref a0, .ref a1, .ref a2, .ref a3, .ref a4, .ref a5, .ref a6, .ref a7, .ref a8, .ref a9, .ref a10, .ref a11, .ref a12, .ref a13, .ref a14, .ref a15, .ref a16, .ref a17, .ref a18, .ref a19, .ref a20, .ref a21, .ref a22, .ref a23])) q = some (.lst [.ref a0, .ref a1, .ref a2, .ref a3, .ref a4, .ref a5, .ref a6, .ref a7, .ref a8, .ref a9, .ref a10, .ref a11, .ref a12, .ref a13, .ref a14, .ref a15, .ref a16, .ref a17, .ref a18, .ref a19, .ref a20, .ref a21, .ref a22, .ref a23]) := upd_same
    refine ⟨_, rfl, .inl ⟨rfl, _, SqL.of hq⟩, ?_⟩
    refine ⟨_, rfl, mk1 (T.ex 24 (by decide)) fun a24 G24 s24 e24 => ⟨rfl, ?_⟩⟩
    replace hq := s24 _ _ hq
    replace m : Made Z v G24 [a0, a1, a2, a3, a4, a5, a6, a7, a8, a9, a10, a11, a12, a13, a14, a15, a16, a17, a18, a19, a20, a21, a22, a23, a24] := m.snoc s24 e24 rfl
    replace s := s.trans s24
    refine ⟨_, rfl, mk1 (T.ex 25 (by decide)) fun a25 G25 s25 e25 => ⟨rfl, ?_⟩⟩
    replace hq := s25 _ _ hq
    replace m : Made Z v G25 [a0, a1, a2, a3, a4, a5, a6, a7, a8, a9, a10, a11, a12, a13, a14, a15, a16, a17, a18, a19, a20, a21, a22, a23, a24, a25] := m.snoc s25 e25 rfl
    replace s := s.trans s25
    refine ⟨_, rfl, mk1 (T.ex 26 (by decide)) fun a26 G26 s26 e26 => ⟨rfl, ?_⟩⟩
    replace hq := s26 _ _ hq
    replace m : Made Z v G26 [a0, a1, a2, a3, a4, a5, a6, a7, a8, a9, a10, a11, a12, a13, a14, a15, a16, a17, a18, a19, a20, a21, a22, a23, a24, a25, a26] := m.snoc s26 e26 rfl
    replace s := s.trans s26
    refine ⟨_, rfl, mk1 (T.ex 27 (by decide)) fun a27 G27 s27 e27 => ⟨rfl, ?_⟩⟩
    replace hq := s27 _ _ hq
    replace m : Made Z v G27 [a0, a1, a2, a3, a4, a5, a6, a7, a8, a9, a10, a11, a12, a13, a14, a15, a16, a17, a18, a19, a20, a21, a22, a23, a24, a25, a26, a27] := m.snoc s27 e27 rfl
    replace s := s.trans s27
    refine ⟨by show 4 ≤ sizeLine; decide, fun r hr => ?_⟩
    have t6 := Same.new (o := .lst [.ref a24, .ref a25, .ref a26, .ref a27]) (Same.refl _) hr
    replace m := m.same t6
    replace s := s.trans t6
    replace hq := t6 _ _ hq
    refine ⟨q, r, _, _, rfl, rfl, hq, upd_same, by show 24 + 4 ≤ sizeLine; decide, ?_⟩
    have kp6 := Keep.upd (o := .lst [.ref a0, .ref a1, .ref a2, .ref a3, .ref a4, .ref a5, .ref a6, .ref a7, .ref a8, .ref a9, .ref a10, .ref a11, .ref a12, .ref a13, .ref a14, .ref a15, .ref a16, .ref a17, .ref a18, .ref a19, .ref a20, .ref a21, .ref a22, .ref a23, .ref a24, .ref a25, .ref a26, .ref a27]) (Keep.rfl' (p := q) (H := upd G27 r (.lst [.ref a24, .ref a25, .ref a26, .ref a27])))
    replace m := m.keep hq kp6
    replace s := Same.updN (o := .lst [.ref a0, .ref a1, .ref a2, .ref a3, .ref a4, .ref a5, .ref a6, .ref a7, .ref a8, .ref a9, .ref a10, .ref a11, .ref a12, .ref a13, .ref a14, .ref a15, .ref a16, .ref a17, .ref a18, .ref a19, .ref a20, .ref a21, .ref a22, .ref a23, .ref a24, .ref a25, .ref a26, .ref a27]) s nq
    replace hq : (upd (upd G27 r (.lst [.ref a24, .ref a25, .ref a26, .ref a27])) q (.lst [.ref a0, .ref a1, .ref a2, .ref a3, .ref a4, .ref a5, .ref a6, .ref a7, .ref a8, .ref a9, .ref a10, .ref a11, .ref a12, .ref a13, .ref a14, .ref a15, .ref a16, .ref a17, .ref a18, .ref a19, .ref a20, .ref a21, .ref a22, .ref a23, .ref a24, .ref a25, .ref a26, .ref a27])) q = some (.lst [.ref a0, .ref a1, .ref a2, .ref a3, .ref a4, .ref a5, .ref a6, .ref a7, .ref a8, .ref a9, .ref a10, .ref a11, .ref a12, .ref a13, .ref a14, .ref a15, .ref a16, .ref a17, .ref a18, .ref a19, .ref a20, .ref a21, .ref a22, .ref a23, .ref a24, .ref a25, .ref a26, .ref a27]) := upd_same
    refine ⟨_, rfl, .inl ⟨rfl, _, SqL.of hq⟩, ?_⟩
    refine ⟨_, rfl, mk1 (T.ex 28 (by decide)) fun a28 G28 s28 e28 => ⟨rfl, ?_⟩⟩
    replace hq := s28 _ _ hq
    replace m : Made Z v G28 [a0, a1, a2, a3, a4, a5, a6, a7, a8, a9, a10, a11, a12, a13, a14, a15, a16, a17, a18, a19, a20, a21, a22, a23, a24, a25, a26, a27, a28] := m.snoc s28 e28 rfl
    replace s := s.trans s28
    refine ⟨_, rfl, mk1 (T.ex 29 (by decide)) fun a29 G29 s29 e29 => ⟨rfl, ?_⟩⟩
    replace hq := s29 _ _ hq
    replace m : Made Z v G29 [a0, a1, a2, a3, a4, a5, a6, a7, a8, a9, a10, a11, a12, a13, a14, a15, a16, a17, a18, a19, a20, a21, a22, a23, a24, a25, a26, a27, a28, a29] := m.snoc s29 e29 rfl
    replace s := s.trans s29
    refine ⟨by show 2 ≤ sizeLine; decide, fun r hr => ?_⟩
    have t7 := Same.new (o := .lst [.ref a28, .ref a29]) (Same.refl _) hr
    replace m := m.same t7
    replace s := s.trans t7
    replace hq := t7 _ _ hq
    refine ⟨q, r, _, _, rfl, rfl, hq, upd_same, by show 28 + 2 ≤ sizeLine; decide, ?_⟩
    have kp7 := Keep.upd (o := .lst [.ref a0, .ref a1, .ref a2, .ref a3, .ref a4, .ref a5, .ref a6, .ref a7, .ref a8, .ref a9, .ref a10, .ref a11, .ref a12, .ref a13, .ref a14, .ref a15, .ref a16, .ref a17, .ref a18, .ref a19, .ref a20, .ref a21, .ref a22, .ref a23, .ref a24, .ref a25, .ref a26, .ref a27, .ref a28, .ref a29]) (Keep.rfl' (p := q) (H := upd G29 r (.lst [.ref a28, .ref a29])))
    replace m := m.keep hq kp7
    replace s := Same.updN (o := .lst [.ref a0, .ref a1, .ref a2, .ref a3, .ref a4, .ref a5, .ref a6, .ref a7, .ref a8, .ref a9, .ref a10, .ref a11, .ref a12, .ref a13, .ref a14, .ref a15, .ref a16, .ref a17, .ref a18, .ref a19, .ref a20, .ref a21, .ref a22, .ref a23, .ref a24, .ref a25, .ref a26, .ref a27, .ref a28, .ref a29]) s nq
    replace hq : (upd (upd G29 r (.lst [.ref a28, .ref a29])) q (.lst [.ref a0, .ref a1, .ref a2, .ref a3, .ref a4, .ref a5, .ref a6, .ref a7, .ref a8, .ref a9, .ref a10, .ref a11, .ref a12, .ref a13, .ref a14, .ref a15, .ref a16, .ref a17, .ref a18, .ref a19, .ref a20, .ref a21, .ref a22, .ref a23, .ref a24, .ref a25, .ref a26, .ref a27, .ref a28, .ref a29])) q = some (.lst [.ref a0, .ref a1, .ref a2, .ref a3, .ref a4, .ref a5, .ref a6, .ref a7, .ref a8, .ref a9, .ref a10, .ref a11, .ref a12, .ref a13, .ref a14, .ref a15, .ref a16, .ref a17, .ref a18, .ref a19, .ref a20, .ref a21, .ref a22, .ref a23, .ref a24, .ref a25, .ref a26, .ref a27, .ref a28, .ref a29]) := upd_same
    exact ⟨_, rfl, k q [a0, a1, a2, a3, a4, a5, a6, a7, a8, a9, a10, a11, a12, a13, a14, a15, a16, a17, a18, a19, a20, a21, a22, a23, a24, a25, a26, a27, a28, a29] _ rfl m hq nq s⟩
end
end TT
set_option Elab.async false
set_option linter.all false
set_option maxRecDepth 100000
set_option maxHeartbeats 4000000
namespace TT
open PySem PySem.Spec PyProof.Rows L2
def kindsV (i : Nat) : List V := (List.range 30).map fun j => V.bl (decide (i = j))
def sp_l_kinds_of (Z : Zs) : Sp := fun vs H Q _ => ∃ (a : Addr) (i : Nat) (fs : List (Str × V)), vs = [.ref a] ∧ i < 30 ∧ Err H a (Z.c i) fs ∧ ∀ (q : Addr) (H' : Hp), H q = none → Same H H' → H' q = some (.lst (kindsV i)) → Q (.ref q) H'
section
variable {P : Program} {w : World} {K : PySem.W.Frag} {mg : Str → Option Value} {base : Heap} {Z : Zs}
theorem kitIJ (T : Txt K mg Z) {i j : Nat} (hi : i < 30) (hj : j < 30) : PySem.W.kitOne K (.ref (Z.c i)) (.ref (Z.c j)) = some (decide (i = j)) := by
  by_cases e : i = j
  · subst e
    rw [decide_eq_true rfl]
    exact (T.ex i (by omega)).self
  · rw [decide_eq_false e, (T.ex i (by omega)).kit (T.ex j (by omega)) fun z => e (T.nd i j (by omega) (by omega) z)]
    congr 1
    exact decide_eq_false fun z => absurd (T.nd j 30 (by omega) (by decide) z) (by omega)
theorem is1 (T : Txt K mg Z) {a : Addr} {i : Nat} {fs : List (Str × V)} {H : Hp} {j : Nat} {Q : VK} (hi : i < 30) (hE : Err H a (Z.c i) fs) (hj : j < 30) (h : Q (.bl (decide (i = j))) H) : rIsX K [.ref a, .ref (Z.c j)] H Q :=
  ⟨a, Z.c i, fs, .ref (Z.c j), .ref (Z.c j), decide (i = j), true, rfl, hE, (T.ex i (by omega)).ec, (T.ex i (by omega)).selfC, .own _, kitIJ T hi hj, h⟩
theorem isE (T : Txt K mg Z) {a : Addr} {i : Nat} {fs : List (Str × V)} {H : Hp} {Q : VK} (hi : i < 30) (hE : Err H a (Z.c i) fs) (h : Q (.bl true) H) : rIsX K [.ref a, .ref (Z.c 30)] H Q :=
  ⟨a, Z.c i, fs, .ref (Z.c 30), .ref (Z.c 30), true, true, rfl, hE, (T.ex i (by omega)).ec, (T.ex i (by omega)).selfC, .own _, by
    rw [(T.ex i (by omega)).kit (T.ex 30 (by decide)) fun z => absurd (T.nd i 30 (by omega) (by decide) z) (by omega), decide_eq_true rfl], h⟩
theorem isV (T : Txt K mg Z) {a : Addr} {i : Nat} {fs : List (Str × V)} {H : Hp} {Q : VK} (hi : i < 30) (hE : Err H a (Z.c i) fs) (h : Q (.bl true) H) : rIsX K [.ref a, .ty "ValueError"] H Q :=
  ⟨a, Z.c i, fs, .ty "ValueError", .type "ValueError", true, true, rfl, hE, (T.ex i (by omega)).ec, (T.ex i (by omega)).selfC, .ty _, (T.ex i (by omega)).ve, h⟩
theorem hide {a q : Addr} {C : Addr} {fs : List (Str × V)} {H : Hp} {l : List V} {R : Hp → Prop} {G : Hp} (h : ∀ G, Err G a C fs → Same H G → G q = some (.lst l) → R G) (h1 : Err G a C fs) (h2 : Same H G) (h3 : G q = some (.lst l)) : R G := h G h1 h2 h3
theorem ok_l_kinds_of (T : Txt K mg Z) : FnOk P w K mg base CX0 1 Z.f_l_kinds_of Z.d_l_kinds_of ["_law_error"] (sp_l_kinds_of Z) := by
  refine T.F_l_kinds_of.ok sc_l_kinds_of (fun vs H Q E h => ?_) (fun cdv A outer s H vs Q E hr h => ?_)
  · obtain ⟨a, i, fs, rfl, _⟩ := h
    rfl
  · obtain ⟨a, i, fs, rfl, hi, hE, k⟩ := h
    refine ⟨_, (pss_cons (ps_set (i := 1) sc_l_kinds_of.nd rfl (Or.inl rfl) (pe_lst (pa_cons (pe_callB (r := rIsX K) (id := "isinstance") call_isX (by rfl) T.b_isinstance (by decide +kernel) (pa_cons (pv 0) (pa_cons (pe_glob (v := .ref (Z.c 0)) rfl T.g_BadPlace rfl) pa_nil))) (pa_cons (pe_callB (r := rIsX K) (id := "isinstance") call_isX (by rfl) T.b_isinstance (by decide +kernel) (pa_cons (pv 0) (pa_cons (pe_glob (v := .ref (Z.c 1)) rfl T.g_BadLength rfl) pa_nil))) pa_nil))))
      (pss_cons (ps_expr (pe_bm PySem.F.plainAttrs_list PySem.F.slot_list_extend PySem.F.type_list_extend mt_extend (pv 1) (pa_cons (pe_lst (pa_cons (pe_callB (r := rIsX K) (id := "isinstance") call_isX (by rfl) T.b_isinstance (by decide +kernel) (pa_cons (pv 0) (pa_cons (pe_glob (v := .ref (Z.c 2)) rfl T.g_BadAmount rfl) pa_nil))) (pa_cons (pe_callB (r := rIsX K) (id := "isinstance") call_isX (by rfl) T.b_isinstance (by decide +kernel) (pa_cons (pv 0) (pa_cons (pe_glob (v := .ref (Z.c 3)) rfl T.g_BadWay rfl) pa_nil))) pa_nil))) pa_nil)))
      (pss_cons (ps_expr (pe_bm PySem.F.plainAttrs_list PySem.F.slot_list_extend PySem.F.type_list_extend mt_extend (pv 1) (pa_cons (pe_lst (pa_cons (pe_callB (r := rIsX K) (id := "isinstance") call_isX (by rfl) T.b_isinstance (by decide +kernel) (pa_cons (pv 0) (pa_cons (pe_glob (v := .ref (Z.c 4)) rfl T.g_BadText rfl) pa_nil))) (pa_cons (pe_callB (r := rIsX K) (id := "isinstance") call_isX (by rfl) T.b_isinstance (by decide +kernel) (pa_cons (pv 0) (pa_cons (pe_glob (v := .ref (Z.c 5)) rfl T.g_NoPlace rfl) pa_nil))) pa_nil))) pa_nil)))
      (pss_cons (ps_expr (pe_bm PySem.F.plainAttrs_list PySem.F.slot_list_extend PySem.F.type_list_extend mt_extend (pv 1) (pa_cons (pe_lst (pa_cons (pe_callB (r := rIsX K) (id := "isinstance") call_isX (by rfl) T.b_isinstance (by decide +kernel) (pa_cons (pv 0) (pa_cons (pe_glob (v := .ref (Z.c 6)) rfl T.g_BadNote rfl) pa_nil))) (pa_cons (pe_callB (r := rIsX K) (id := "isinstance") call_isX (by rfl) T.b_isinstance (by decide +kernel) (pa_cons (pv 0) (pa_cons (pe_glob (v := .ref (Z.c 7)) rfl T.g_BadPart rfl) pa_nil))) pa_nil))) pa_nil)))
      (pss_cons (ps_expr (pe_bm PySem.F.plainAttrs_list PySem.F.slot_list_extend PySem.F.type_list_extend mt_extend (pv 1) (pa_cons (pe_lst (pa_cons (pe_callB (r := rIsX K) (id := "isinstance") call_isX (by rfl) T.b_isinstance (by decide +kernel) (pa_cons (pv 0) (pa_cons (pe_glob (v := .ref (Z.c 8)) rfl T.g_NoJoint rfl) pa_nil))) (pa_cons (pe_callB (r := rIsX K) (id := "isinstance") call_isX (by rfl) T.b_isinstance (by decide +kernel) (pa_cons (pv 0) (pa_cons (pe_glob (v := .ref (Z.c 9)) rfl T.g_BadNumber rfl) pa_nil))) pa_nil))) pa_nil)))
      (pss_cons (ps_expr (pe_bm PySem.F.plainAttrs_list PySem.F.slot_list_extend PySem.F.type_list_extend mt_extend (pv 1) (pa_cons (pe_lst (pa_cons (pe_callB (r := rIsX K) (id := "isinstance") call_isX (by rfl) T.b_isinstance (by decide +kernel) (pa_cons (pv 0) (pa_cons (pe_glob (v := .ref (Z.c 10)) rfl T.g_BadBook rfl) pa_nil))) (pa_cons (pe_callB (r := rIsX K) (id := "isinstance") call_isX (by rfl) T.b_isinstance (by decide +kernel) (pa_cons (pv 0) (pa_cons (pe_glob (v := .ref (Z.c 11)) rfl T.g_NoTie rfl) pa_nil))) pa_nil))) pa_nil)))
      (pss_cons (ps_expr (pe_bm PySem.F.plainAttrs_list PySem.F.slot_list_extend PySem.F.type_list_extend mt_extend (pv 1) (pa_cons (pe_lst (pa_cons (pe_callB (r := rIsX K) (id := "isinstance") call_isX (by rfl) T.b_isinstance (by decide +kernel) (pa_cons (pv 0) (pa_cons (pe_glob (v := .ref (Z.c 12)) rfl T.g_BadTie rfl) pa_nil))) (pa_cons (pe_callB (r := rIsX K) (id := "isinstance") call_isX (by rfl) T.b_isinstance (by decide +kernel) (pa_cons (pv 0) (pa_cons (pe_glob (v := .ref (Z.c 13)) rfl T.g_Full rfl) pa_nil))) pa_nil))) pa_nil)))
      (pss_cons (ps_expr (pe_bm PySem.F.plainAttrs_list PySem.F.slot_list_extend PySem.F.type_list_extend mt_extend (pv 1) (pa_cons (pe_lst (pa_cons (pe_callB (r := rIsX K) (id := "isinstance") call_isX (by rfl) T.b_isinstance (by decide +kernel) (pa_cons (pv 0) (pa_cons (pe_glob (v := .ref (Z.c 14)) rfl T.g_OtherSize rfl) pa_nil))) (pa_cons (pe_callB (r := rIsX K) (id := "isinstance") call_isX (by rfl) T.b_isinstance (by decide +kernel) (pa_cons (pv 0) (pa_cons (pe_glob (v := .ref (Z.c 15)) rfl T.g_OtherNote rfl) pa_nil))) pa_nil))) pa_nil)))
      (pss_cons (ps_expr (pe_bm PySem.F.plainAttrs_list PySem.F.slot_list_extend PySem.F.type_list_extend mt_extend (pv 1) (pa_cons (pe_lst (pa_cons (pe_callB (r := rIsX K) (id := "isinstance") call_isX (by rfl) T.b_isinstance (by decide +kernel) (pa_cons (pv 0) (pa_cons (pe_glob (v := .ref (Z.c 16)) rfl T.g_BadSize rfl) pa_nil))) (pa_cons (pe_callB (r := rIsX K) (id := "isinstance") call_isX (by rfl) T.b_isinstance (by decide +kernel) (pa_cons (pv 0) (pa_cons (pe_glob (v := .ref (Z.c 17)) rfl T.g_Clash rfl) pa_nil))) pa_nil))) pa_nil)))
      (pss_cons (ps_expr (pe_bm PySem.F.plainAttrs_list PySem.F.slot_list_extend PySem.F.type_list_extend mt_extend (pv 1) (pa_cons (pe_lst (pa_cons (pe_callB (r := rIsX K) (id := "isinstance") call_isX (by rfl) T.b_isinstance (by decide +kernel) (pa_cons (pv 0) (pa_cons (pe_glob (v := .ref (Z.c 18)) rfl T.g_BadPieces rfl) pa_nil))) (pa_cons (pe_callB (r := rIsX K) (id := "isinstance") call_isX (by rfl) T.b_isinstance (by decide +kernel) (pa_cons (pv 0) (pa_cons (pe_glob (v := .ref (Z.c 19)) rfl T.g_IsTold rfl) pa_nil))) pa_nil))) pa_nil)))
      (pss_cons (ps_expr (pe_bm PySem.F.plainAttrs_list PySem.F.slot_list_extend PySem.F.type_list_extend mt_extend (pv 1) (pa_cons (pe_lst (pa_cons (pe_callB (r := rIsX K) (id := "isinstance") call_isX (by rfl) T.b_isinstance (by decide +kernel) (pa_cons (pv 0) (pa_cons (pe_glob (v := .ref (Z.c 20)) rfl T.g_NoNumber rfl) pa_nil))) (pa_cons (pe_callB (r := rIsX K) (id := "isinstance") call_isX (by rfl) T.b_isinstance (by decide +kernel) (pa_cons (pv 0) (pa_cons (pe_glob (v := .ref (Z.c 21)) rfl T.g_BadBounds rfl) pa_nil))) pa_nil))) pa_nil)))
      (pss_cons (ps_expr (pe_bm PySem.F.plainAttrs_list PySem.F.slot_list_extend PySem.F.type_list_extend mt_extend (pv 1) (pa_cons (pe_lst (pa_cons (pe_callB (r := rIsX K) (id := "isinstance") call_isX (by rfl) T.b_isinstance (by decide +kernel) (pa_cons (pv 0) (pa_cons (pe_glob (v := .ref (Z.c 22)) rfl T.g_NoRoom rfl) pa_nil))) (pa_cons (pe_callB (r := rIsX K) (id := "isinstance") call_isX (by rfl) T.b_isinstance (by decide +kernel) (pa_cons (pv 0) (pa_cons (pe_glob (v := .ref (Z.c 23)) rfl T.g_BadOffers rfl) pa_nil))) pa_nil))) pa_nil)))
      (pss_cons (ps_expr (pe_bm PySem.F.plainAttrs_list PySem.F.slot_list_extend PySem.F.type_list_extend mt_extend (pv 1) (pa_cons (pe_lst (pa_cons (pe_callB (r := rIsX K) (id := "isinstance") call_isX (by rfl) T.b_isinstance (by decide +kernel) (pa_cons (pv 0) (pa_cons (pe_glob (v := .ref (Z.c 24)) rfl T.g_BadWishes rfl) pa_nil))) (pa_cons (pe_callB (r := rIsX K) (id := "isinstance") call_isX (by rfl) T.b_isinstance (by decide +kernel) (pa_cons (pv 0) (pa_cons (pe_glob (v := .ref (Z.c 25)) rfl T.g_NothingToUndo rfl) pa_nil))) pa_nil))) pa_nil)))
      (pss_cons (ps_expr (pe_bm PySem.F.plainAttrs_list PySem.F.slot_list_extend PySem.F.type_list_extend mt_extend (pv 1) (pa_cons (pe_lst (pa_cons (pe_callB (r := rIsX K) (id := "isinstance") call_isX (by rfl) T.b_isinstance (by decide +kernel) (pa_cons (pv 0) (pa_cons (pe_glob (v := .ref (Z.c 26)) rfl T.g_NothingToRedo rfl) pa_nil))) (pa_cons (pe_callB (r := rIsX K) (id := "isinstance") call_isX (by rfl) T.b_isinstance (by decide +kernel) (pa_cons (pv 0) (pa_cons (pe_glob (v := .ref (Z.c 27)) rfl T.g_NoTrial rfl) pa_nil))) pa_nil))) pa_nil)))
      (pss_cons (ps_expr (pe_bm PySem.F.plainAttrs_list PySem.F.slot_list_extend PySem.F.type_list_extend mt_extend (pv 1) (pa_cons (pe_lst (pa_cons (pe_callB (r := rIsX K) (id := "isinstance") call_isX (by rfl) T.b_isinstance (by decide +kernel) (pa_cons (pv 0) (pa_cons (pe_glob (v := .ref (Z.c 28)) rfl T.g_BadJournal rfl) pa_nil))) (pa_cons (pe_callB (r := rIsX K) (id := "isinstance") call_isX (by rfl) T.b_isinstance (by decide +kernel) (pa_cons (pv 0) (pa_cons (pe_glob (v := .ref (Z.c 29)) rfl T.g_BadLine rfl) pa_nil))) pa_nil))) pa_nil)))
      (pss_one (ps_ret (pv 1)))))))))))))))))), ?_⟩
    have s := Same.refl H
    have xec := (T.ex i (by omega)).ec
    have xsc := (T.ex i (by omega)).selfC
    refine ⟨_, rfl, a, Z.c i, fs, .ref (Z.c 0), .ref (Z.c 0), decide (i = 0), true, rfl, hE, xec, xsc, .own _, kitIJ T hi (j := 0) (by decide), ?_⟩
    refine ⟨_, rfl, a, Z.c i, fs, .ref (Z.c 1), .ref (Z.c 1), decide (i = 1), true, rfl, hE, xec, xsc, .own _, kitIJ T hi (j := 1) (by decide), ?_⟩
    refine ⟨by show 2 ≤ sizeLine; decide, fun q hq0 => ?_⟩
    have nq := hq0
    have hq : (upd H q (.lst [.bl (decide (i = 0)), .bl (decide (i = 1))])) q = some (.lst [.bl (decide (i = 0)), .bl (decide (i = 1))]) := upd_same
    have t0 := Same.new (o := .lst [.bl (decide (i = 0)), .bl (decide (i = 1))]) (Same.refl H) hq0
    replace hE := Err.same t0 hE
    replace s := s.trans t0
    generalize upd H q (.lst [.bl (decide (i = 0)), .bl (decide (i = 1))]) = G0 at hq hE s ⊢
    refine ⟨_, rfl, .inl ⟨rfl, _, SqL.of hq⟩, ?_⟩
    refine ⟨_, rfl, a, Z.c i, fs, .ref (Z.c 2), .ref (Z.c 2), decide (i = 2), true, rfl, hE, xec, xsc, .own _, kitIJ T hi (j := 2) (by decide), ?_⟩
    refine ⟨_, rfl, a, Z.c i, fs, .ref (Z.c 3), .ref (Z.c 3), decide (i = 3), true, rfl, hE, xec, xsc, .own _, kitIJ T hi (j := 3) (by decide), ?_⟩
    refine ⟨by show 2 ≤ sizeLine; decide, fun r hr => ?_⟩
    have t1 := Same.new (o := .lst [.bl (decide (i = 2)), .bl (decide (i = 3))]) (Same.refl G0) hr
    replace hE := Err.same t1 hE
    replace s := s.trans t1
    replace hq := t1 _ _ hq
    refine ⟨q, r, _, _, rfl, rfl, hq, upd_same, by show 2 + 2 ≤ sizeLine; decide, ?_⟩
    have kp1 := Keep.upd (o := .lst ([V.bl (decide (i = 0)), V.bl (decide (i = 1))] ++ [.bl (decide (i = 2)), .bl (decide (i = 3))])) (Keep.rfl' (p := q) (H := upd G0 r (.lst [.bl (decide (i = 2)), .bl (decide (i = 3))])))
    replace hE := Err.keep hq kp1 hE
    replace s := Same.updN (o := .lst ([V.bl (decide (i = 0)), V.bl (decide (i = 1))] ++ [.bl (decide (i = 2)), .bl (decide (i = 3))])) s nq
    replace hq : (upd (upd G0 r (.lst [.bl (decide (i = 2)), .bl (decide (i = 3))])) q (.lst ([V.bl (decide (i = 0)), V.bl (decide (i = 1))] ++ [.bl (decide (i = 2)), .bl (decide (i = 3))]))) q = some (.lst ([V.bl (decide (i = 0)), V.bl (decide (i = 1))] ++ [.bl (decide (i = 2)), .bl (decide (i = 3))])) := upd_same
    clear kp1 t1 hr
    generalize upd (upd G0 r (.lst [.bl (decide (i = 2)), .bl (decide (i = 3))])) q (.lst ([V.bl (decide (i = 0)), V.bl (decide (i = 1))] ++ [.bl (decide (i = 2)), .bl (decide (i = 3))])) = G1 at hE s hq ⊢
    replace hq : G1 q = some (.lst [.bl (decide (i = 0)), .bl (decide (i = 1)), .bl (decide (i = 2)), .bl (decide (i = 3))]) := hq
    refine ⟨_, rfl, .inl ⟨rfl, _, SqL.of hq⟩, ?_⟩
    refine ⟨_, rfl, a, Z.c i, fs, .ref (Z.c 4), .ref (Z.c 4), decide (i = 4), true, rfl, hE, xec, xsc, .own _, kitIJ T hi (j := 4) (by decide), ?_⟩
    refine ⟨_, rfl, a, Z.c i, fs, .ref (Z.c 5), .ref (Z.c 5), decide (i = 5), true, rfl, hE, xec, xsc, .own _, kitIJ T hi (j := 5) (by decide), ?_⟩
    refine ⟨by show 2 ≤ sizeLine; decide, fun r hr => ?_⟩
    have t2 := Same.new (o := .lst [.bl (decide (i = 4)), .bl (decide (i = 5))]) (Same.refl G1) hr
    replace hE := Err.same t2 hE
    replace s := s.trans t2
    replace hq := t2 _ _ hq
    refine ⟨q, r, _, _, rfl, rfl, hq, upd_same, by show 4 + 2 ≤ sizeLine; decide, ?_⟩
    have kp2 := Keep.upd (o := .lst ([V.bl (decide (i = 0)), V.bl (decide (i = 1)), V.bl (decide (i = 2)), V.bl (decide (i = 3))] ++ [.bl (decide (i = 4)), .bl (decide (i = 5))])) (Keep.rfl' (p := q) (H := upd G1 r (.lst [.bl (decide (i = 4)), .bl (decide (i = 5))])))
    replace hE := Err.keep hq kp2 hE
    replace s := Same.updN (o := .lst ([V.bl (decide (i = 0)), V.bl (decide (i = 1)), V.bl (decide (i = 2)), V.bl (decide (i = 3))] ++ [.bl (decide (i = 4)), .bl (decide (i = 5))])) s nq
    replace hq : (upd (upd G1 r (.lst [.bl (decide (i = 4)), .bl (decide (i = 5))])) q (.lst ([V.bl (decide (i = 0)), V.bl (decide (i = 1)), V.bl (decide (i = 2)), V.bl (decide (i = 3))] ++ [.bl (decide (i = 4)), .bl (decide (i = 5))]))) q = some (.lst ([V.bl (decide (i = 0)), V.bl (decide (i = 1)), V.bl (decide (i = 2)), V.bl (decide (i = 3))] ++ [.bl (decide (i = 4)), .bl (decide (i = 5))])) := upd_same
    clear kp2 t2 hr
    generalize upd (upd G1 r (.lst [.bl (decide (i = 4)), .bl (decide (i = 5))])) q (.lst ([V.bl (decide (i = 0)), V.bl (decide (i = 1)), V.bl (decide (i = 2)), V.bl (decide (i = 3))] ++ [.bl (decide (i = 4)), .bl (decide (i = 5))])) = G2 at hE s hq ⊢
    replace hq : G2 q = some (.lst [.bl (decide (i = 0)), .bl (decide (i = 1)), .bl (decide (i = 2)), .bl (decide (i = 3)), .bl (decide (i = 4)), .bl (decide (i = 5))]) := hq
    refine ⟨_, rfl, .inl ⟨rfl, _, SqL.of hq⟩, ?_⟩
    refine ⟨_, rfl, a, Z.c i, fs, .ref (Z.c 6), .ref (Z.c 6), decide (i = 6), true, rfl, hE, xec, xsc, .own _, kitIJ T hi (j := 6) (by decide), ?_⟩
    refine ⟨_, rfl, a, Z.c i, fs, .ref (Z.c 7), .ref (Z.c 7), decide (i = 7), true, rfl, hE, xec, xsc, .own _, kitIJ T hi (j := 7) (by decide), ?_⟩
    refine ⟨by show 2 ≤ sizeLine; decide, fun r hr => ?_⟩
    have t3 := Same.new (o := .lst [.bl (decide (i = 6)), .bl (decide (i = 7))]) (Same.refl G2) hr
    replace hE := Err.same t3 hE
    replace s := s.trans t3
    replace hq := t3 _ _ hq
    refine ⟨q, r, _, _, rfl, rfl, hq, upd_same, by show 6 + 2 ≤ sizeLine; decide, ?_⟩
    have kp3 := Keep.upd (o := .lst ([V.bl (decide (i = 0)), V.bl (decide (i = 1)), V.bl (decide (i = 2)), V.bl (decide (i = 3)), V.bl (decide (i = 4)), V.bl (decide (i = 5))] ++ [.bl (decide (i = 6)), .bl (decide (i = 7))])) (Keep.rfl' (p := q) (H := upd G2 r (.lst [.bl (decide (i = 6)), .bl (decide (i = 7))])))
    replace hE := Err.keep hq kp3 hE
    replace s := Same.updN (o := .lst ([V.bl (decide (i = 0)), V.bl (decide (i = 1)), V.bl (decide (i = 2)), V.bl (decide (i = 3)), V.bl (decide (i = 4)), V.bl (decide (i = 5))] ++ [.bl (decide (i = 6)), .bl (decide (i = 7))])) s nq
    replace hq : (upd (upd G2 r (.lst [.bl (decide (i = 6)), .bl (decide (i = 7))])) q (.lst ([V.bl (decide (i = 0)), V.bl (decide (i = 1)), V.bl (decide (i = 2)), V.bl (decide (i = 3)), V.bl (decide (i = 4)), V.bl (decide (i = 5))] ++ [.bl (decide (i = 6)), .bl (decide (i = 7))]))) q = some (.lst ([V.bl (decide (i = 0)), V.bl (decide (i = 1)), V.bl (decide (i = 2)), V.bl (decide (i = 3)), V.bl (decide (i = 4)), V.bl (decide (i = 5))] ++ [.bl (decide (i = 6)), .bl (decide (i = 7))])) := upd_same
    clear kp3 t3 hr
    generalize upd (upd G2 r (.lst [.bl (decide (i = 6)), .bl (decide (i = 7))])) q (.lst ([V.bl (decide (i = 0)), V.bl (decide (i = 1)), V.bl (decide (i = 2)), V.bl (decide (i = 3)), V.bl (decide (i = 4)), V.bl (decide (i = 5))] ++ [.bl (decide (i = 6)), .bl (decide (i = 7))])) = G3 at hE s hq ⊢
    replace hq : G3 q = some (.lst [.bl (decide (i = 0)), .bl (decide (i = 1)), .bl (decide (i = 2)), .bl (decide (i = 3)), .bl (decide (i = 4)), .bl (decide (i = 5)), .bl (decide (i = 6)), .bl (decide (i = 7))]) := hq
    refine ⟨_, rfl, .inl ⟨rfl, _, SqL.of hq⟩, ?_⟩
    refine ⟨_, rfl, a, Z.c i, fs, .ref (Z.c 8), .ref (Z.c 8), decide (i = 8), true, rfl, hE, xec, xsc, .own _, kitIJ T hi (j := 8) (by decide), ?_⟩
    refine ⟨_, rfl, a, Z.c i, fs, .ref (Z.c 9), .ref (Z.c 9), decide (i = 9), true, rfl, hE, xec, xsc, .own _, kitIJ T hi (j := 9) (by decide), ?_⟩
    refine ⟨by show 2 ≤ sizeLine; decide, fun r hr => ?_⟩
    have t4 := Same.new (o := .lst [.bl (decide (i = 8)), .bl (decide (i = 9))]) (Same.refl G3) hr
    replace hE := Err.same t4 hE
    replace s := s.trans t4
    replace hq := t4 _ _ hq
    refine ⟨q, r, _, _, rfl, rfl, hq, upd_same, by show 8 + 2 ≤ sizeLine; decide, ?_⟩
    have kp4 := Keep.upd (o := .lst ([V.bl (decide (i = 0)), V.bl (decide (i = 1)), V.bl (decide (i = 2)), V.bl (decide (i = 3)), V.bl (decide (i = 4)), V.bl (decide (i = 5)), V.bl (decide (i = 6)), V.bl (decide (i = 7))] ++ [.bl (decide (i = 8)), .bl (decide (i = 9))])) (Keep.rfl' (p := q) (H := upd G3 r (.lst [.bl (decide (i = 8)), .bl (decide (i = 9))])))
    replace hE := Err.keep hq kp4 hE
    replace s := Same.updN (o := .lst ([V.bl (decide (i = 0)), V.bl (decide (i = 1)), V.bl (decide (i = 2)), V.bl (decide (i = 3)), V.bl (decide (i = 4)), V.bl (decide (i = 5)), V.bl (decide (i = 6)), V.bl (decide (i = 7))] ++ [.bl (decide (i = 8)), .bl (decide (i = 9))])) s nq
    replace hq : (upd (upd G3 r (.lst [.bl (decide (i = 8)), .bl (decide (i = 9))])) q (.lst ([V.bl (decide (i = 0)), V.bl (decide (i = 1)), V.bl (decide (i = 2)), V.bl (decide (i = 3)), V.bl (decide (i = 4)), V.bl (decide (i = 5)), V.bl (decide (i = 6)), V.bl (decide (i = 7))] ++ [.bl (decide (i = 8)), .bl (decide (i = 9))]))) q = some (.lst ([V.bl (decide (i = 0)), V.bl (decide (i = 1)), V.bl (decide (i = 2)), V.bl (decide (i = 3)), V.bl (decide (i = 4)), V.bl (decide (i = 5)), V.bl (decide (i = 6)), V.bl (decide (i = 7))] ++ [.bl (decide (i = 8)), .bl (decide (i = 9))])) := upd_same
    clear kp4 t4 hr
    generalize upd (upd G3 r (.lst [.bl (decide (i = 8)), .bl (decide (i = 9))])) q (.lst ([V.bl (decide (i = 0)), V.bl (decide (i = 1)), V.bl (decide (i = 2)), V.bl (decide (i = 3)), V.bl (decide (i = 4)), V.bl (decide (i = 5)), V.bl (decide (i = 6)), V.bl (decide (i = 7))] ++ [.bl (decide (i = 8)), .bl (decide (i = 9))])) = G4 at hE s hq ⊢
    replace hq : G4 q = some (.lst [.bl (decide (i = 0)), .bl (decide (i = 1)), .bl (decide (i = 2)), .bl (decide (i = 3)), .bl (decide (i = 4)), .bl (decide (i = 5)), .bl (decide (i = 6)), .bl (decide (i = 7)), .bl (decide (i = 8)), .bl (decide (i = 9))]) := hq
    refine ⟨_, rfl, .inl ⟨rfl, _, SqL.of hq⟩, ?_⟩
    refine ⟨_, rfl, a, Z.c i, fs, .ref (Z.c 10), .ref (Z.c 10), decide (i = 10), true, rfl, hE, xec, xsc, .own _, kitIJ T hi (j := 10) (by decide), ?_⟩
    refine ⟨_, rfl, a, Z.c i, fs, .ref (Z.c 11), .ref (Z.c 11), decide (i = 11), true, rfl, hE, xec, xsc, .own _, kitIJ T hi (j := 11) (by decide), ?_⟩
    refine ⟨by show 2 ≤ sizeLine; decide, fun r hr => ?_⟩
    have t5 := Same.new (o := .lst [.bl (decide (i = 10)), .bl (decide (i = 11))]) (Same.refl G4) hr
    replace hE := Err.same t5 hE
    replace s := s.trans t5
    replace hq := t5 _ _ hq
    refine ⟨q, r, _, _, rfl, rfl, hq, upd_same, by show 10 + 2 ≤ sizeLine; decide, ?_⟩
    have kp5 := Keep.upd (o := .lst ([V.bl (decide (i = 0)), V.bl (decide (i = 1)), V.bl (decide (i = 2)), V.bl (decide (i = 3)), V.bl (decide (i = 4)), V.bl (decide (i = 5)), V.bl (decide (i = 6)), V.bl (decide (i = 7)), V.bl (decide (i = 8)), V.bl (decide (i = 9))] ++ [.bl (decide (i = 10)), .bl (decide (i = 11))])) (Keep.rfl' (p := q) (H := upd G4 r (.lst [.bl (decide (i = 10)), .bl (decide (i = 11))])))
    replace hE := Err.keep hq kp5 hE
    replace s := Same.updN (o := .lst ([V.bl (decide (i = 0)), V.bl (decide (i = 1)), V.bl (decide (i = 2)), V.bl (decide (i = 3)), V.bl (decide (i = 4)), V.bl (decide (i = 5)), V.bl (decide (i = 6)), V.bl (decide (i = 7)), V.bl (decide (i = 8)), V.bl (decide (i = 9))] ++ [.bl (decide (i = 10)), .bl (decide (i = 11))])) s nq
    replace hq : (upd (upd G4 r (.lst [.bl (decide (i = 10)), .bl (decide (i = 11))])) q (.lst ([V.bl (decide (i = 0)), V.bl (decide (i = 1)), V.bl (decide (i = 2)), V.bl (decide (i = 3)), V.bl (decide (i = 4)), V.bl (decide (i = 5)), V.bl (decide (i = 6)), V.bl (decide (i = 7)), V.bl (decide (i = 8)), V.bl (decide (i = 9))] ++ [.bl (decide (i = 10)), .bl (decide (i = 11))]))) q = some (.lst ([V.bl (decide (i = 0)), V.bl (decide (i = 1)), V.bl (decide (i = 2)), V.bl (decide (i = 3)), V.bl (decide (i = 4)), V.bl (decide (i = 5)), V.bl (decide (i = 6)), V.bl (decide (i = 7)), V.bl (decide (i = 8)), V.bl (decide (i = 9))] ++ [.bl (decide (i = 10)), .bl (decide (i = 11))])) := upd_same
    clear kp5 t5 hr
    generalize upd (upd G4 r (.lst [.bl (decide (i = 10)), .bl (decide (i = 11))])) q (.lst ([V.bl (decide (i = 0)), V.bl (decide (i = 1)), V.bl (decide (i = 2)), V.bl (decide (i = 3)), V.bl (decide (i = 4)), V.bl (decide (i = 5)), V.bl (decide (i = 6)), V.bl (decide (i = 7)), V.bl (decide (i = 8)), V.bl (decide (i = 9))] ++ [.bl (decide (i = 10)), .bl (decide (i = 11))])) = G5 at hE s hq ⊢
    replace hq : G5 q = some (.lst [.bl (decide (i = 0)), .bl (decide (i = 1)), .bl (decide (i = 2)), .bl (decide (i = 3)), .bl (decide (i = 4)), .bl (decide (i = 5)), .bl (decide (i = 6)), .bl (decide (i = 7)), .bl (decide (i = 8)), .bl (decide (i = 9)), .bl (decide (i = 10)), .bl (decide (i = 11))]) := hq
    refine ⟨_, rfl, .inl ⟨rfl, _, SqL.of hq⟩, ?_⟩
    refine ⟨_, rfl, a, Z.c i, fs, .ref (Z.c 12), .ref (Z.c 12), decide (i = 12), true, rfl, hE, xec, xsc, .own _, kitIJ T hi (j := 12) (by decide), ?_⟩
    refine ⟨_, rfl, a, Z.c i, fs, .ref (Z.c 13), .ref (Z.c 13), decide (i = 13), true, rfl, hE, xec, xsc, .own _, kitIJ T hi (j := 13) (by decide), ?_⟩
    refine ⟨by show 2 ≤ sizeLine; decide, fun r hr => ?_⟩
    have t6 := Same.new (o := .lst [.bl (decide (i = 12)), .bl (decide (i = 13))]) (Same.refl G5) hr
    replace hE := Err.same t6 hE
    replace s := s.trans t6
    replace hq := t6 _ _ hq
    refine ⟨q, r, _, _, rfl, rfl, hq, upd_same, by show 12 + 2 ≤ sizeLine; decide, ?_⟩
    have kp6 := Keep.upd (o := .lst ([V.bl (decide (i = 0)), V.bl (decide (i = 1)), V.bl (decide (i = 2)), V.bl (decide (i = 3)), V.bl (decide (i = 4)), V.bl (decide (i = 5)), V.bl (decide (i = 6)), V.bl (decide (i = 7)), V.bl (decide (i = 8)), V.bl (decide (i = 9)), V.bl (decide (i = 10)), V.bl (decide (i = 11))] ++ [.bl (decide (i = 12)), .bl (decide (i = 13))])) (Keep.rfl' (p := q) (H := upd G5 r (.lst [.bl (decide (i = 12)), .bl (decide (i = 13))])))
    replace hE := Err.keep hq kp6 hE
    replace s := Same.updN (o := .lst ([V.bl (decide (i = 0)), V.bl (decide (i = 1)), V.bl (decide (i = 2)), V.bl (decide (i = 3)), V.bl (decide (i = 4)), V.bl (decide (i = 5)), V.bl (decide (i = 6)), V.bl (decide (i = 7)), V.bl (decide (i = 8)), V.bl (decide (i = 9)), V.bl (decide (i = 10)), V.bl (decide (i = 11))] ++ [.bl (decide (i = 12)), .bl (decide (i = 13))])) s nq
    replace hq : (upd (upd G5 r (.lst [.bl (decide (i = 12)), .bl (decide (i = 13))])) q (.lst ([V.bl (decide (i = 0)), V.bl (decide (i = 1)), V.bl (decide (i = 2)), V.bl (decide (i = 3)), V.bl (decide (i = 4)), V.bl (decide (i = 5)), V.bl (decide (i = 6)), V.bl (decide (i = 7)), V.bl (decide (i = 8)), V.bl (decide (i = 9)), V.bl (decide (i = 10)), V.bl (decide (i = 11))] ++ [.bl (decide (i = 12)), .bl (decide (i = 13))]))) q = some (.lst ([V.bl (decide (i = 0)), V.bl (decide (i = 1)), V.bl (decide (i = 2)), V.bl (decide (i = 3)), V.bl (decide (i = 4)), V.bl (decide (i = 5)), V.bl (decide (i = 6)), V.bl (decide (i = 7)), V.bl (decide (i = 8)), V.bl (decide (i = 9)), V.bl (decide (i = 10)), V.bl (decide (i = 11))] ++ [.bl (decide (i = 12)), .bl (decide (i = 13))])) := upd_same
    clear kp6 t6 hr
    generalize upd (upd G5 r (.lst [.bl (decide (i = 12)), .bl (decide (i = 13))])) q (.lst ([V.bl (decide (i = 0)), V.bl (decide (i = 1)), V.bl (decide (i = 2)), V.bl (decide (i = 3)), V.bl (decide (i = 4)), V.bl (decide (i = 5)), V.bl (decide (i = 6)), V.bl (decide (i = 7)), V.bl (decide (i = 8)), V.bl (decide (i = 9)), V.bl (decide (i = 10)), V.bl (decide (i = 11))] ++ [.bl (decide (i = 12)), .bl (decide (i = 13))])) = G6 at hE s hq ⊢
    replace hq : G6 q = some (.lst [.bl (decide (i = 0)), .bl (decide (i = 1)), .bl (decide (i = 2)), .bl (decide (i = 3)), .bl (decide (i = 4)), .bl (decide (i = 5)), .bl (decide (i = 6)), .bl (decide (i = 7)), .bl (decide (i = 8)), .bl (decide (i = 9)), .bl (decide (i = 10)), .bl (decide (i = 11)), .bl (decide (i = 12)), .bl (decide (i = 13))]) := hq
    refine ⟨_, rfl, .inl ⟨rfl, _, SqL.of hq⟩, ?_⟩
    refine ⟨_, rfl, a, Z.c i, fs, .ref (Z.c 14), .ref (Z.c 14), decide (i = 14), true, rfl, hE, xec, xsc, .own _, kitIJ T hi (j := 14) (by decide), ?_⟩
    refine ⟨_, rfl, a, Z.c i, fs, .ref (Z.c 15), .ref (Z.c 15), decide (i = 15), true, rfl, hE, xec, xsc, .own _, kitIJ T hi (j := 15) (by decide), ?_⟩
    refine ⟨by show 2 ≤ sizeLine; decide, fun r hr => ?_⟩
    have t7 := Same.new (o := .lst [.bl (decide (i = 14)), .bl (decide (i = 15))]) (Same.refl G6) hr
    replace hE := Err.same t7 hE
    replace s := s.trans t7
    replace hq := t7 _ _ hq
    refine ⟨q, r, _, _, rfl, rfl, hq, upd_same, by show 14 + 2 ≤ sizeLine; decide, ?_⟩
    have kp7 := Keep.upd (o := .lst ([V.bl (decide (i = 0)), V.bl (decide (i = 1)), V.bl (decide (i = 2)), V.bl (decide (i = 3)), V.bl (decide (i = 4)), V.bl (decide (i = 5)), V.bl (decide (i = 6)), V.bl (decide (i = 7)), V.bl (decide (i = 8)), V.bl (decide (i = 9)), V.bl (decide (i = 10)), V.bl (decide (i = 11)), V.bl (decide (i = 12)), V.bl (decide (i = 13))] ++ [.bl (decide (i = 14)), .bl (decide (i = 15))])) (Keep.rfl' (p := q) (H := upd G6 r (.lst [.bl (decide (i = 14)), .bl (decide (i = 15))])))
    replace hE := Err.keep hq kp7 hE
    replace s := Same.updN (o := .lst ([V.bl (decide (i = 0)), V.bl (decide (i = 1)), V.bl (decide (i = 2)), V.bl (decide (i = 3)), V.bl (decide (i = 4)), V.bl (decide (i = 5)), V.bl (decide (i = 6)), V.bl (decide (i = 7)), V.bl (decide (i = 8)), V.bl (decide (i = 9)), V.bl (decide (i = 10)), V.bl (decide (i = 11)), V.bl (decide (i = 12)), V.bl (decide (i = 13))] ++ [.bl (decide (i = 14)), .bl (decide (i = 15))])) s nq
    replace hq : (upd (upd G6 r (.lst [.bl (decide (i = 14)), .bl (decide (i = 15))])) q (.lst ([V.bl (decide (i = 0)), V.bl (decide (i = 1)), V.bl (decide (i = 2)), V.bl (decide (i = 3)), V.bl (decide (i = 4)), V.bl (decide (i = 5)), V.bl (decide (i = 6)), V.bl (decide (i = 7)), V.bl (decide (i = 8)), V.bl (decide (i = 9)), V.bl (decide (i = 10)), V.bl (decide (i = 11)), V.bl (decide (i = 12)), V.bl (decide (i = 13))] ++ [.bl (decide (i = 14)), .bl (decide (i = 15))]))) q = some (.lst ([V.bl (decide (i = 0)), V.bl (decide (i = 1)), V.bl (decide (i = 2)), V.bl (decide (i = 3)), V.bl (decide (i = 4)), V.bl (decide (i = 5)), V.bl (decide (i = 6)), V.bl (decide (i = 7)), V.bl (decide (i = 8)), V.bl (decide (i = 9)), V.bl (decide (i = 10)), V.bl (decide (i = 11)), V.bl (decide (i = 12)), V.bl (decide (i = 13))] ++ [.bl (decide (i = 14)), .bl (decide (i = 15))])) := upd_same
    clear kp7 t7 hr
    generalize upd (upd G6 r (.lst [.bl (decide (i = 14)), .bl (decide (i = 15))])) q (.lst ([V.bl (decide (i = 0)), V.bl (decide (i = 1)), V.bl (decide (i = 2)), V.bl (decide (i = 3)), V.bl (decide (i = 4)), V.bl (decide (i = 5)), V.bl (decide (i = 6)), V.bl (decide (i = 7)), V.bl (decide (i = 8)), V.bl (decide (i = 9)), V.bl (decide (i = 10)), V.bl (decide (i = 11)), V.bl (decide (i = 12)), V.bl (decide (i = 13))] ++ [.bl (decide (i = 14)), .bl (decide (i = 15))])) = G7 at hE s hq ⊢
    replace hq : G7 q = some (.lst [.bl (decide (i = 0)), .bl (decide (i = 1)), .bl (decide (i = 2)), .bl (decide (i = 3)), .bl (decide (i = 4)), .bl (decide (i = 5)), .bl (decide (i = 6)), .bl (decide (i = 7)), .bl (decide (i = 8)), .bl (decide (i = 9)), .bl (decide (i = 10)), .bl (decide (i = 11)), .bl (decide (i = 12)), .bl (decide (i = 13)), .bl (decide (i = 14)), .bl (decide (i = 15))]) := hq
    refine ⟨_, rfl, .inl ⟨rfl, _, SqL.of hq⟩, ?_⟩
    refine ⟨_, rfl, a, Z.c i, fs, .ref (Z.c 16), .ref (Z.c 16), decide (i = 16), true, rfl, hE, xec, xsc, .own _, kitIJ T hi (j := 16) (by decide), ?_⟩
    refine ⟨_, rfl, a, Z.c i, fs, .ref (Z.c 17), .ref (Z.c 17), decide (i = 17), true, rfl, hE, xec, xsc, .own _, kitIJ T hi (j := 17) (by decide), ?_⟩
    refine ⟨by show 2 ≤ sizeLine; decide, fun r hr => ?_⟩
    have t8 := Same.new (o := .lst [.bl (decide (i = 16)), .bl (decide (i = 17))]) (Same.refl G7) hr
    replace hE := Err.same t8 hE
    replace s := s.trans t8
    replace hq := t8 _ _ hq
    refine ⟨q, r, _, _, rfl, rfl, hq, upd_same, by show 16 + 2 ≤ sizeLine; decide, ?_⟩
    have kp8 := Keep.upd (o := .lst ([V.bl (decide (i = 0)), V.bl (decide (i = 1)), V.bl (decide (i = 2)), V.bl (decide (i = 3)), V.bl (decide (i = 4)), V.bl (decide (i = 5)), V.bl (decide (i = 6)), V.bl (decide (i = 7)), V.bl (decide (i = 8)), V.bl (decide (i = 9)), V.bl (decide (i = 10)), V.bl (decide (i = 11)), V.bl (decide (i = 12)), V.bl (decide (i = 13)), V.bl (decide (i = 14)), V.bl (decide (i = 15))] ++ [.bl (decide (i = 16)), .bl (decide (i = 17))])) (Keep.rfl' (p := q) (H := upd G7 r (.lst [.bl (decide (i = 16)), .bl (decide (i = 17))])))
    replace hE := Err.keep hq kp8 hE
    replace s := Same.updN (o := .lst ([V.bl (decide (i = 0)), V.bl (decide (i = 1)), V.bl (decide (i = 2)), V.bl (decide (i = 3)), V.bl (decide (i = 4)), V.bl (decide (i = 5)), V.bl (decide (i = 6)), V.bl (decide (i = 7)), V.bl (decide (i = 8)), V.bl (decide (i = 9)), V.bl (decide (i = 10)), V.bl (decide (i = 11)), V.bl (decide (i = 12)), V.bl (decide (i = 13)), V.bl (decide (i = 14)), V.bl (decide (i = 15))] ++ [.bl (decide (i = 16)), .bl (decide (i = 17))])) s nq
    replace hq : (upd (upd G7 r (.lst [.bl (decide (i = 16)), .bl (decide (i = 17))])) q (.lst ([V.bl (decide (i = 0)), V.bl (decide (i = 1)), V.bl (decide (i = 2)), V.bl (decide (i = 3)), V.bl (decide (i = 4)), V.bl (decide (i = 5)), V.bl (decide (i = 6)), V.bl (decide (i = 7)), V.bl (decide (i = 8)), V.bl (decide (i = 9)), V.bl (decide (i = 10)), V.bl (decide (i = 11)), V.bl (decide (i = 12)), V.bl (decide (i = 13)), V.bl (decide (i = 14)), V.bl (decide (i = 15))] ++ [.bl (decide (i = 16)), .bl (decide (i = 17))]))) q = some (.lst ([V.bl (decide (i = 0)), V.bl (decide (i = 1)), V.bl (decide (i = 2)), V.bl (decide (i = 3)), V.bl (decide (i = 4)), V.bl (decide (i = 5)), V.bl (decide (i = 6)), V.bl (decide (i = 7)), V.bl (decide (i = 8)), V.bl (decide (i = 9)), V.bl (decide (i = 10)), V.bl (decide (i = 11)), V.bl (decide (i = 12)), V.bl (decide (i = 13)), V.bl (decide (i = 14)), V.bl (decide (i = 15))] ++ [.bl (decide (i = 16)), .bl (decide (i = 17))])) := upd_same
    clear kp8 t8 hr
    generalize upd (upd G7 r (.lst [.bl (decide (i = 16)), .bl (decide (i = 17))])) q (.lst ([V.bl (decide (i = 0)), V.bl (decide (i = 1)), V.bl (decide (i = 2)), V.bl (decide (i = 3)), V.bl (decide (i = 4)), V.bl (decide (i = 5)), V.bl (decide (i = 6)), V.bl (decide (i = 7)), V.bl (decide (i = 8)), V.bl (decide (i = 9)), V.bl (decide (i = 10)), V.bl (decide (i = 11)), V.bl (decide (i = 12)), V.bl (decide (i = 13)), V.bl (decide (i = 14)), V.bl (decide (i = 15))] ++ [.bl (decide (i = 16)), .bl (decide (i = 17))])) = G8 at hE s hq ⊢
    replace hq : G8 q = some (.lst [.bl (decide (i = 0)), .bl (decide (i = 1)), .bl (decide (i = 2)), .bl (decide (i = 3)), .bl (decide (i = 4)), .bl (decide (i = 5)), .bl (decide (i = 6)), .bl (decide (i = 7)), .bl (decide (i = 8)), .bl (decide (i = 9)), .bl (decide (i = 10)), .bl (decide (i = 11)), .bl (decide (i = 12)), .bl (decide (i = 13)), .bl (decide (i = 14)), .bl (decide (i = 15)), .bl (decide (i = 16)), .bl (decide (i = 17))]) := hq
    refine ⟨_, rfl, .inl ⟨rfl, _, SqL.of hq⟩, ?_⟩
    refine ⟨_, rfl, a, Z.c i, fs, .ref (Z.c 18), .ref (Z.c 18), decide (i = 18), true, rfl, hE, xec, xsc, .own _, kitIJ T hi (j := 18) (by decide), ?_⟩
    refine ⟨_, rfl, a, Z.c i, fs, .ref (Z.c 19), .ref (Z.c 19), decide (i = 19), true, rfl, hE, xec, xsc, .own _, kitIJ T hi (j := 19) (by decide), ?_⟩
    refine ⟨by show 2 ≤ sizeLine; decide, fun r hr => ?_⟩
    have t9 := Same.new (o := .lst [.bl (decide (i = 18)), .bl (decide (i = 19))]) (Same.refl G8) hr
    replace hE := Err.same t9 hE
    replace s := s.trans t9
    replace hq := t9 _ _ hq
    refine ⟨q, r, _, _, rfl, rfl, hq, upd_same, by show 18 + 2 ≤ sizeLine; decide, ?_⟩
    have kp9 := Keep.upd (o := .lst ([V.bl (decide (i = 0)), V.bl (decide (i = 1)), V.bl (decide (i = 2)), V.bl (decide (i = 3)), V.bl (decide (i = 4)), V.bl (decide (i = 5)), V.bl (decide (i = 6)), V.bl (decide (i = 7)), V.bl (decide (i = 8)), V.bl (decide (i = 9)), V.bl (decide (i = 10)), V.bl (decide (i = 11)), V.bl (decide (i = 12)), V.bl (decide (i = 13)), V.bl (decide (i = 14)), V.bl (decide (i = 15)), V.bl (decide (i = 16)), V.bl (decide (i = 17))] ++ [.bl (decide (i = 18)), .bl (decide (i = 19))])) (Keep.rfl' (p := q) (H := upd G8 r (.lst [.bl (decide (i = 18)), .bl (decide (i = 19))])))
    replace hE := Err.keep hq kp9 hE
    replace s := Same.updN (o := .lst ([V.bl (decide (i = 0)), V.bl (decide (i = 1)), V.bl (decide (i = 2)), V.bl (decide (i = 3)), V.bl (decide (i = 4)), V.bl (decide (i = 5)), V.bl (decide (i = 6)), V.bl (decide (i = 7)), V.bl (decide (i = 8)), V.bl (decide (i = 9)), V.bl (decide (i = 10)), V.bl (decide (i = 11)), V.bl (decide (i = 12)), V.bl (decide (i = 13)), V.bl (decide (i = 14)), V.bl (decide (i = 15)), V.bl (decide (i = 16)), V.bl (decide (i = 17))] ++ [.bl (decide (i = 18)), .bl (decide (i = 19))])) s nq
    replace hq : (upd (upd G8 r (.lst [.bl (decide (i = 18)), .bl (decide (i = 19))])) q (.lst ([V.bl (decide (i = 0)), V.bl (decide (i = 1)), V.bl (decide (i = 2)), V.bl (decide (i = 3)), V.bl (decide (i = 4)), V.bl (decide (i = 5)), V.bl (decide (i = 6)), V.bl (decide (i = 7)), V.bl (decide (i = 8)), V.bl (decide (i = 9)), V.bl (decide (i = 10)), V.bl (decide (i = 11)), V.bl (decide (i = 12)), V.bl (decide (i = 13)), V.bl (decide (i = 14)), V.bl (decide (i = 15)), V.bl (decide (i = 16)), V.bl (decide (i = 17))] ++ [.bl (decide (i = 18)), .bl (decide (i = 19))]))) q = some (.lst ([V.bl (decide (i = 0)), V.bl (decide (i = 1)), V.bl (decide (i = 2)), V.bl (decide (i = 3)), V.bl (decide (i = 4)), V.bl (decide (i = 5)), V.bl (decide (i = 6)), V.bl (decide (i = 7)), V.bl (decide (i = 8)), V.bl (decide (i = 9)), V.bl (decide (i = 10)), V.bl (decide (i = 11)), V.bl (decide (i = 12)), V.bl (decide (i = 13)), V.bl (decide (i = 14)), V.bl (decide (i = 15)), V.bl (decide (i = 16)), V.bl (decide (i = 17))] ++ [.bl (decide (i = 18)), .bl (decide (i = 19))])) := upd_same
    clear kp9 t9 hr
    generalize upd (upd G8 r (.lst [.bl (decide (i = 18)), .bl (decide (i = 19))])) q (.lst ([V.bl (decide (i = 0)), V.bl (decide (i = 1)), V.bl (decide (i = 2)), V.bl (decide (i = 3)), V.bl (decide (i = 4)), V.bl (decide (i = 5)), V.bl (decide (i = 6)), V.bl (decide (i = 7)), V.bl (decide (i = 8)), V.bl (decide (i = 9)), V.bl (decide (i = 10)), V.bl (decide (i = 11)), V.bl (decide (i = 12)), V.bl (decide (i = 13)), V.bl (decide (i = 14)), V.bl (decide (i = 15)), V.bl (decide (i = 16)), V.bl (decide (i = 17))] ++ [.bl (decide (i = 18)), .bl (decide (i = 19))])) = G9 at hE s hq ⊢
    replace hq : G9 q = some (.lst [.bl (decide (i = 0)), .bl (decide (i = 1)), .bl (decide (i = 2)), .bl (decide (i = 3)), .bl (decide (i = 4)), .bl (decide (i = 5)), .bl (decide (i = 6)), .bl (decide (i = 7)), .bl (decide (i = 8)), .bl (decide (i = 9)), .bl (decide (i = 10)), .bl (decide (i = 11)), .bl (decide (i = 12)), .bl (decide (i = 13)), .bl (decide (i = 14)), .bl (decide (i = 15)), .bl (decide (i = 16)), .bl (decide (i = 17)), .bl (decide (i = 18)), .bl (decide (i = 19))]) := hq
    refine ⟨_, rfl, .inl ⟨rfl, _, SqL.of hq⟩, ?_⟩
    refine ⟨_, rfl, a, Z.c i, fs, .ref (Z.c 20), .ref (Z.c 20), decide (i = 20), true, rfl, hE, xec, xsc, .own _, kitIJ T hi (j := 20) (by decide), ?_⟩
    refine ⟨_, rfl, a, Z.c i, fs, .ref (Z.c 21), .ref (Z.c 21), decide (i = 21), true, rfl, hE, xec, xsc, .own _, kitIJ T hi (j := 21) (by decide), ?_⟩
    refine ⟨by show 2 ≤ sizeLine; decide, fun r hr => ?_⟩
    have t10 := Same.new (o := .lst [.bl (decide (i = 20)), .bl (decide (i = 21))]) (Same.refl G9) hr
    replace hE := Err.same t10 hE
    replace s := s.trans t10
    replace hq := t10 _ _ hq
    refine ⟨q, r, _, _, rfl, rfl, hq, upd_same, by show 20 + 2 ≤ sizeLine; decide, ?_⟩
    have kp10 := Keep.upd (o := .lst ([V.bl (decide (i = 0)), V.bl (decide (i = 1)), V.bl (decide (i = 2)), V.bl (decide (i = 3)), V.bl (decide (i = 4)), V.bl (decide (i = 5)), V.bl (decide (i = 6)), V.bl (decide (i = 7)), V.bl (decide (i = 8)), V.bl (decide (i = 9)), V.bl (decide (i = 10)), V.bl (decide (i = 11)), V.bl (decide (i = 12)), V.bl (decide (i = 13)), V.bl (decide (i = 14)), V.bl (decide (i = 15)), V.bl (decide (i = 16)), V.bl (decide (i = 17)), V.bl (decide (i = 18)), V.bl (decide (i = 19))] ++ [.bl (decide (i = 20)), .bl (decide (i = 21))])) (Keep.rfl' (p := q) (H := upd G9 r (.lst [.bl (decide (i = 20)), .bl (decide (i = 21))])))
    replace hE := Err.keep hq kp10 hE
    replace s := Same.updN (o := .lst ([V.bl (decide (i = 0)), V.bl (decide (i = 1)), V.bl (decide (i = 2)), V.bl (decide (i = 3)), V.bl (decide (i = 4)), V.bl (decide (i = 5)), V.bl (decide (i = 6)), V.bl (decide (i = 7)), V.bl (decide (i = 8)), V.bl (decide (i = 9)), V.bl (decide (i = 10)), V.bl (decide (i = 11)), V.bl (decide (i = 12)), V.bl (decide (i = 13)), V.bl (decide (i = 14)), V.bl (decide (i = 15)), V.bl (decide (i = 16)), V.bl (decide (i = 17)), V.bl (decide (i = 18)), V.bl (decide (i = 19))] ++ [.bl (decide (i = 20)), .bl (decide (i = 21))])) s nq
    replace hq : (upd (upd G9 r (.lst [.bl (decide (i = 20)), .bl (decide (i = 21))])) q (.lst ([V.bl (decide (i = 0)), V.bl (decide (i = 1)), V.bl (decide (i = 2)), V.bl (decide (i = 3)), V.bl (decide (i = 4)), V.bl (decide (i = 5)), V.bl (decide (i = 6)), V.bl (decide (i = 7)), V.bl (decide (i = 8)), V.bl (decide (i = 9)), V.bl (decide (i = 10)), V.bl (decide (i = 11)), V.bl (decide (i = 12)), V.bl (decide (i = 13)), V.bl (decide (i = 14)), V.bl (decide (i = 15)), V.bl (decide (i = 16)), V.bl (decide (i = 17)), V.bl (decide (i = 18)), V.bl (decide (i = 19))] ++ [.bl (decide (i = 20)), .bl (decide (i = 21))]))) q = some (.lst ([V.bl (decide (i = 0)), V.bl (decide (i = 1)), V.bl (decide (i = 2)), V.bl (decide (i = 3)), V.bl (decide (i = 4)), V.bl (decide (i = 5)), V.bl (decide (i = 6)), V.bl (decide (i = 7)), V.bl (decide (i = 8)), V.bl (decide (i = 9)), V.bl (decide (i = 10)), V.bl (decide (i = 11)), V.bl (decide (i = 12)), V.bl (decide (i = 13)), V.bl (decide (i = 14)), V.bl (decide (i = 15)), V.bl (decide (i = 16)), V.bl (decide (i = 17)), V.bl (decide (i = 18)), V.bl (decide (i = 19))] ++ [.bl (decide (i = 20)), .bl (decide (i = 21))])) := upd_same
    clear kp10 t10 hr
    generalize upd (upd G9 r (.lst [.bl (decide (i = 20)), .bl (decide (i = 21))])) q (.lst ([V.bl (decide (i = 0)), V.bl (decide (i = 1)), V.bl (decide (i = 2)), V.bl (decide (i = 3)), V.bl (decide (i = 4)), V.bl (decide (i = 5)), V.bl (decide (i = 6)), V.bl (decide (i = 7)), V.bl (decide (i = 8)), V.bl (decide (i = 9)), V.bl (decide (i = 10)), V.bl (decide (i = 11)), V.bl (decide (i = 12)), V.bl (decide (i = 13)), V.bl (decide (i = 14)), V.bl (decide (i = 15)), V.bl (decide (i = 16)), V.bl (decide (i = 17)), V.bl (decide (i = 18)), V.bl (decide (i = 19))] ++ [.bl (decide (i = 20)), .bl (decide (i = 21))])) = G10 at hE s hq ⊢
    replace hq : G10 q = some (.lst [.bl (decide (i = 0)), .bl (decide (i = 1)), .bl (decide (i = 2)), .bl (decide (i = 3)), .bl (decide (i = 4)), .bl (decide (i = 5)), .bl (decide (i = 6)), .bl (decide (i = 7)), .bl (decide (i = 8)), .bl (decide (i = 9)), .bl (decide (i = 10)), .bl (decide (i = 11)), .bl (decide (i = 12)), .bl (decide (i = 13)), .bl (decide (i = 14)), .bl (decide (i = 15)), .bl (decide (i = 16)), .bl (decide (i = 17)), .bl (decide (i = 18)), .bl (decide (i = 19)), .bl (decide (i = 20)), .bl (decide (i = 21))]) := hq
    refine ⟨_, rfl, .inl ⟨rfl, _, SqL.of hq⟩, ?_⟩
    refine ⟨_, rfl, a, Z.c i, fs, .ref (Z.c 22), .ref (Z.c 22), decide (i = 22), true, rfl, hE, xec, xsc, .own _, kitIJ T hi (j := 22) (by decide), ?_⟩
    refine ⟨_, rfl, a, Z.c i, fs, .ref (Z.c 23), .ref (Z.c 23), decide (i = 23), true, rfl, hE, xec, xsc, .own _, kitIJ T hi (j := 23) (by decide), ?_⟩
    refine ⟨by show 2 ≤ sizeLine; decide, fun r hr => ?_⟩
    have t11 := Same.new (o := .lst [.bl (decide (i = 22)), .bl (decide (i = 23))]) (Same.refl G10) hr
    replace hE := Err.same t11 hE
    replace s := s.trans t11
    replace hq := t11 _ _ hq
    refine ⟨q, r, _, _, rfl, rfl, hq, upd_same, by show 22 + 2 ≤ sizeLine; decide, ?_⟩
    have kp11 := Keep.upd (o := .lst ([V.bl (decide (i = 0)), V.bl (decide (i = 1)), V.bl (decide (i = 2)), V.bl (decide (i = 3)), V.bl (decide (i = 4)), V.bl (decide (i = 5)), V.bl (decide (i = 6)), V.bl (decide (i = 7)), V.bl (decide (i = 8)), V.bl (decide (i = 9)), V.bl (decide (i = 10)), V.bl (decide (i = 11)), V.bl (decide (i = 12)), V.bl (decide (i = 13)), V.bl (decide (i = 14)), V.bl (decide (i = 15)), V.bl (decide (i = 16)), V.bl (decide (i = 17)), V.bl (decide (i = 18)), V.bl (decide (i = 19)), V.bl (decide (i = 20)), V.bl (decide (i = 21))] ++ [.bl (decide (i = 22)), .bl (decide (i = 23))])) (Keep.rfl' (p := q) (H := upd G10 r (.lst [.bl (decide (i = 22)), .bl (decide (i = 23))])))
    replace hE := Err.keep hq kp11 hE
    replace s := Same.updN (o := .lst ([V.bl (decide (i = 0)), V.bl (decide (i = 1)), V.bl (decide (i = 2)), V.bl (decide (i = 3)), V.bl (decide (i = 4)), V.bl (decide (i = 5)), V.bl (decide (i = 6)), V.bl (decide (i = 7)), V.bl (decide (i = 8)), V.bl (decide (i = 9)), V.bl (decide (i = 10)), V.bl (decide (i = 11)), V.bl (decide (i = 12)), V.bl (decide (i = 13)), V.bl (decide (i = 14)), V.bl (decide (i = 15)), V.bl (decide (i = 16)), V.bl (decide (i = 17)), V.bl (decide (i = 18)), V.bl (decide (i = 19)), V.bl (decide (i = 20)), V.bl (decide (i = 21))] ++ [.bl (decide (i = 22)), .bl (decide (i = 23))])) s nq
    replace hq : (upd (upd G10 r (.lst [.bl (decide (i = 22)), .bl (decide (i = 23))])) q (.lst ([V.bl (decide (i = 0)), V.bl (decide (i = 1)), V.bl (decide (i = 2)), V.bl (decide (i = 3)), V.bl (decide (i = 4)), V.bl (decide (i = 5)), V.bl (decide (i = 6)), V.bl (decide (i = 7)), V.bl (decide (i = 8)), V.bl (decide (i = 9)), V.bl (decide (i = 10)), V.bl (decide (i = 11)), V.bl (decide (i = 12)), V.bl (decide (i = 13)), V.bl (decide (i = 14)), V.bl (decide (i = 15)), V.bl (decide (i = 16)), V.bl (decide (i = 17)), V.bl (decide (i = 18)), V.bl (decide (i = 19)), V.bl (decide (i = 20)), V.bl (decide (i = 21))] ++ [.bl (decide (i = 22)), .bl (decide (i = 23))]))) q = some (.lst ([V.bl (decide (i = 0)), V.bl (decide (i = 1)), V.bl (decide (i = 2)), V.bl (decide (i = 3)), V.bl (decide (i = 4)), V.bl (decide (i = 5)), V.bl (decide (i = 6)), V.bl (decide (i = 7)), V.bl (decide (i = 8)), V.bl (decide (i = 9)), V.bl (decide (i = 10)), V.bl (decide (i = 11)), V.bl (decide (i = 12)), V.bl (decide (i = 13)), V.bl (decide (i = 14)), V.bl (decide (i = 15)), V.bl (decide (i = 16)), V.bl (decide (i = 17)), V.bl (decide (i = 18)), V.bl (decide (i = 19)), V.bl (decide (i = 20)), V.bl (decide (i = 21))] ++ [.bl (decide (i = 22)), .bl (decide (i = 23))])) := upd_same
    clear kp11 t11 hr
    generalize upd (upd G10 r (.lst [.bl (decide (i = 22)), .bl (decide (i = 23))])) q (.lst ([V.bl (decide (i = 0)), V.bl (decide (i = 1)), V.bl (decide (i = 2)), V.bl (decide (i = 3)), V.bl (decide (i = 4)), V.bl (decide (i = 5)), V.bl (decide (i = 6)), V.bl (decide (i = 7)), V.bl (decide (i = 8)), V.bl (decide (i = 9)), V.bl (decide (i = 10)), V.bl (decide (i = 11)), V.bl (decide (i = 12)), V.bl (decide (i = 13)), V.bl (decide (i = 14)), V.bl (decide (i = 15)), V.bl (decide (i = 16)), V.bl (decide (i = 17)), V.bl (decide (i = 18)), V.bl (decide (i = 19)), V.bl (decide (i = 20)), V.bl (decide (i = 21))] ++ [.bl (decide (i = 22)), .bl (decide (i = 23))])) = G11 at hE s hq ⊢
    replace hq : G11 q = some (.lst [.bl (decide (i = 0)), .bl (decide (i = 1)), .bl (decide (i = 2)), .bl (decide (i = 3)), .bl (decide (i = 4)), .bl (decide (i = 5)), .bl (decide (i = 6)), .bl (decide (i = 7)), .bl (decide (i = 8)), .bl (decide (i = 9)), .bl (decide (i = 10)), .bl (decide (i = 11)), .bl (decide (i = 12)), .bl (decide (i = 13)), .bl (decide (i = 14)), .bl (decide (i = 15)), .bl (decide (i = 16)), .bl (decide (i = 17)), .bl (decide (i = 18)), .bl (decide (i = 19)), .bl (decide (i = 20)), .bl (decide (i = 21)), .bl (decide (i = 22)), .bl (decide (i = 23))]) := hq
    refine ⟨_, rfl, .inl ⟨rfl, _, SqL.of hq⟩, ?_⟩
    refine ⟨_, rfl, a, Z.c i, fs, .ref (Z.c 24), .ref (Z.c 24), decide (i = 24), true, rfl, hE, xec, xsc, .own _, kitIJ T hi (j := 24) (by decide), ?_⟩
    refine ⟨_, rfl, a, Z.c i, fs, .ref (Z.c 25), .ref (Z.c 25), decide (i = 25), true, rfl, hE, xec, xsc, .own _, kitIJ T hi (j := 25) (by decide), ?_⟩
    refine ⟨by show 2 ≤ sizeLine; decide, fun r hr => ?_⟩
    have t12 := Same.new (o := .lst [.bl (decide (i = 24)), .bl (decide (i = 25))]) (Same.refl G11) hr
    replace hE := Err.same t12 hE
    replace s := s.trans t12
    replace hq := t12 _ _ hq
    refine ⟨q, r, _, _, rfl, rfl, hq, upd_same, by show 24 + 2 ≤ sizeLine; decide, ?_⟩
    have kp12 := Keep.upd (o := .lst ([V.bl (decide (i = 0)), V.bl (decide (i = 1)), V.bl (decide (i = 2)), V.bl (decide (i = 3)), V.bl (decide (i = 4)), V.bl (decide (i = 5)), V.bl (decide (i = 6)), V.bl (decide (i = 7)), V.bl (decide (i = 8)), V.bl (decide (i = 9)), V.bl (decide (i = 10)), V.bl (decide (i = 11)), V.bl (decide (i = 12)), V.bl (decide (i = 13)), V.bl (decide (i = 14)), V.bl (decide (i = 15)), V.bl (decide (i = 16)), V.bl (decide (i = 17)), V.bl (decide (i = 18)), V.bl (decide (i = 19)), V.bl (decide (i = 20)), V.bl (decide (i = 21)), V.bl (decide (i = 22)), V.bl (decide (i = 23))] ++ [.bl (decide (i = 24)), .bl (decide (i = 25))])) (Keep.rfl' (p := q) (H := upd G11 r (.lst [.bl (decide (i = 24)), .bl (decide (i = 25))])))
    replace hE := Err.keep hq kp12 hE
    replace s := Same.updN (o := .lst ([V.bl (decide (i = 0)), V.bl (decide (i = 1)), V.bl (decide (i = 2)), V.bl (decide (i = 3)), V.bl (decide (i = 4)), V.bl (decide (i = 5)), V.bl (decide (i = 6)), V.bl (decide (i = 7)), V.bl (decide (i = 8)), V.bl (decide (i = 9)), V.bl (decide (i = 10)), V.bl (decide (i = 11)), V.bl (decide (i = 12)), V.bl (decide (i = 13)), V.bl (decide (i = 14)), V.bl (decide (i = 15)), V.bl (decide (i = 16)), V.bl (decide (i = 17)), V.bl (decide (i = 18)), V.bl (decide (i = 19)), V.bl (decide (i = 20)), V.bl (decide (i = 21)), V.bl (decide (i = 22)), V.bl (decide (i = 23))] ++ [.bl (decide (i = 24)), .bl (decide (i = 25))])) s nq
    replace hq : (upd (upd G11 r (.lst [.bl (decide (i = 24)), .bl (decide (i = 25))])) q (.lst ([V.bl (decide (i = 0)), V.bl (decide (i = 1)), V.bl (decide (i = 2)), V.bl (decide (i = 3)), V.bl (decide (i = 4)), V.bl (decide (i = 5)), V.bl (decide (i = 6)), V.bl (decide (i = 7)), V.bl (decide (i = 8)), V.bl (decide (i = 9)), V.bl (decide (i = 10)), V.bl (decide (i = 11)), V.bl (decide (i = 12)), V.bl (decide (i = 13)), V.bl (decide (i = 14)), V.bl (decide (i = 15)), V.bl (decide (i = 16)), V.bl (decide (i = 17)), V.bl (decide (i = 18)), V.bl (decide (i = 19)), V.bl (decide (i = 20)), V.bl (decide (i = 21)), V.bl (decide (i = 22)), V.bl (decide (i = 23))] ++ [.bl (decide (i = 24)), .bl (decide (i = 25))]))) q = some (.lst ([V.bl (decide (i = 0)), V.bl (decide (i = 1)), V.bl (decide (i = 2)), V.bl (decide (i = 3)), V.bl (decide (i = 4)), V.bl (decide (i = 5)), V.bl (decide (i = 6)), V.bl (decide (i = 7)), V.bl (decide (i = 8)), V.bl (decide (i = 9)), V.bl (decide (i = 10)), V.bl (decide (i = 11)), V.bl (decide (i = 12)), V.bl (decide (i = 13)), V.bl (decide (i = 14)), V.bl (decide (i = 15)), V.bl (decide (i = 16)), V.bl (decide (i = 17)), V.bl (decide (i = 18)), V.bl (decide (i = 19)), V.bl (decide (i = 20)), V.bl (decide (i = 21)), V.bl (decide (i = 22)), V.bl (decide (i = 23))] ++ [.bl (decide (i = 24)), .bl (decide (i = 25))])) := upd_same
    clear kp12 t12 hr
    generalize upd (upd G11 r (.lst [.bl (decide (i = 24)), .bl (decide (i = 25))])) q (.lst ([V.bl (decide (i = 0)), V.bl (decide (i = 1)), V.bl (decide (i = 2)), V.bl (decide (i = 3)), V.bl (decide (i = 4)), V.bl (decide (i = 5)), V.bl (decide (i = 6)), V.bl (decide (i = 7)), V.bl (decide (i = 8)), V.bl (decide (i = 9)), V.bl (decide (i = 10)), V.bl (decide (i = 11)), V.bl (decide (i = 12)), V.bl (decide (i = 13)), V.bl (decide (i = 14)), V.bl (decide (i = 15)), V.bl (decide (i = 16)), V.bl (decide (i = 17)), V.bl (decide (i = 18)), V.bl (decide (i = 19)), V.bl (decide (i = 20)), V.bl (decide (i = 21)), V.bl (decide (i = 22)), V.bl (decide (i = 23))] ++ [.bl (decide (i = 24)), .bl (decide (i = 25))])) = G12 at hE s hq ⊢
    replace hq : G12 q = some (.lst [.bl (decide (i = 0)), .bl (decide (i = 1)), .bl (decide (i = 2)), .bl (decide (i = 3)), .bl (decide (i = 4)), .bl (decide (i = 5)), .bl (decide (i = 6)), .bl (decide (i = 7)), .bl (decide (i = 8)), .bl (decide (i = 9)), .bl (decide (i = 10)), .bl (decide (i = 11)), .bl (decide (i = 12)), .bl (decide (i = 13)), .bl (decide (i = 14)), .bl (decide (i = 15)), .bl (decide (i = 16)), .bl (decide (i = 17)), .bl (decide (i = 18)), .bl (decide (i = 19)), .bl (decide (i = 20)), .bl (decide (i = 21)), .bl (decide (i = 22)), .bl (decide (i = 23)), .bl (decide (i = 24)), .bl (decide (i = 25))]) := hq
    refine ⟨_, rfl, .inl ⟨rfl, _, SqL.of hq⟩, ?_⟩
    refine ⟨_, rfl, a, Z.c i, fs, .ref (Z.c 26), .ref (Z.c 26), decide (i = 26), true, rfl, hE, xec, xsc, .own _, kitIJ T hi (j := 26) (by decide), ?_⟩
    refine ⟨_, rfl, a, Z.c i, fs, .ref (Z.c 27), .ref (Z.c 27), decide (i = 27), true, rfl, hE, xec, xsc, .own _, kitIJ T hi (j := 27) (by decide), ?_⟩
    refine ⟨by show 2 ≤ sizeLine; decide, fun r hr => ?_⟩
    have t13 := Same.new (o := .lst [.bl (decide (i = 26)), .bl (decide (i = 27))]) (Same.refl G12) hr
    replace hE := Err.same t13 hE
    replace s := s.trans t13
    replace hq := t13 _ _ hq
    refine ⟨q, r, _, _, rfl, rfl, hq, upd_same, by show 26 + 2 ≤ sizeLine; decide, ?_⟩
    have kp13 := Keep.upd (o := .lst ([V.bl (decide (i = 0)), V.bl (decide (i = 1)), V.bl (decide (i = 2)), V.bl (decide (i = 3)), V.bl (decide (i = 4)), V.bl (decide (i = 5)), V.bl (decide (i = 6)), V.bl (decide (i = 7)), V.bl (decide (i = 8)), V.bl (decide (i = 9)), V.bl (decide (i = 10)), V.bl (decide (i = 11)), V.bl (decide (i = 12)), V.bl (decide (i = 13)), V.bl (decide (i = 14)), V.bl (decide (i = 15)), V.bl (decide (i = 16)), V.bl (decide (i = 17)), V.bl (decide (i = 18)), V.bl (decide (i = 19)), V.bl (decide (i = 20)), V.bl (decide (i = 21)), V.bl (decide (i = 22)), V.bl (decide (i = 23)), V.bl (decide (i = 24)), V.bl (decide (i = 25))] ++ [.bl (decide (i = 26)), .bl (decide (i = 27))])) (Keep.rfl' (p := q) (H := upd G12 r (.lst [.bl (decide (i = 26)), .bl (decide (i = 27))])))
    replace hE := Err.keep hq kp13 hE
    replace s := Same.updN (o := .lst ([V.bl (decide (i = 0)), V.bl (decide (i = 1)), V.bl (decide (i = 2)), V.bl (decide (i = 3)), V.bl (decide (i = 4)), V.bl (decide (i = 5)), V.bl (decide (i = 6)), V.bl (decide (i = 7)), V.bl (decide (i = 8)), V.bl (decide (i = 9)), V.bl (decide (i = 10)), V.bl (decide (i = 11)), V.bl (decide (i = 12)), V.bl (decide (i = 13)), V.bl (decide (i = 14)), V.bl (decide (i = 15)), V.bl (decide (i = 16)), V.bl (decide (i = 17)), V.bl (decide (i = 18)), V.bl (decide (i = 19)), V.bl (decide (i = 20)), V.bl (decide (i = 21)), V.bl (decide (i = 22)), V.bl (decide (i = 23)), V.bl (decide (i = 24)), V.bl (decide (i = 25))] ++ [.bl (decide (i = 26)), .bl (decide (i = 27))])) s nq
    replace hq : (upd (upd G12 r (.lst [.bl (decide (i = 26)), .bl (decide (i = 27))])) q (.lst ([V.bl (decide (i = 0)), V.bl (decide (i = 1)), V.bl (decide (i = 2)), V.bl (decide (i = 3)), V.bl (decide (i = 4)), V.bl (decide (i = 5)), V.bl (decide (i = 6)), V.bl (decide (i = 7)), V.bl (decide (i = 8)), V.bl (decide (i = 9)), V.bl (decide (i = 10)), V.bl (decide (i = 11)), V.bl (decide (i = 12)), V.bl (decide (i = 13)), V.bl (decide (i = 14)), V.bl (decide (i = 15)), V.bl (decide (i = 16)), V.bl (decide (i = 17)), V.bl (decide (i = 18)), V.bl (decide (i = 19)), V.bl (decide (i = 20)), V.bl (decide (i = 21)), V.bl (decide (i = 22)), V.bl (decide (i = 23)), V.bl (decide (i = 24)), V.bl (decide (i = 25))] ++ [.bl (decide (i = 26)), .bl (decide (i = 27))]))) q = some (.lst ([V.bl (decide (i = 0)), V.bl (decide (i = 1)), V.bl (decide (i = 2)), V.bl (decide (i = 3)), V.bl (decide (i = 4)), V.bl (decide (i = 5)), V.bl (decide (i = 6)), V.bl (decide (i = 7)), V.bl (decide (i = 8)), V.bl (decide (i = 9)), V.bl (decide (i = 10)), V.bl (decide (i = 11)), V.bl (decide (i = 12)), V.bl (decide (i = 13)), V.bl (decide (i = 14)), V.bl (decide (i = 15)), V.bl (decide (i = 16)), V.bl (decide (i = 17)), V.bl (decide (i = 18)), V.bl (decide (i = 19)), V.bl (decide (i = 20)), V.bl (decide (i = 21)), V.bl (decide (i = 22)), V.bl (decide (i = 23)), V.bl (decide (i = 24)), V.bl (decide (i = 25))] ++ [.bl (decide (i = 26)), .bl (decide (i = 27))])) := upd_same
    clear kp13 t13 hr
    generalize upd (upd G12 r (.lst [.bl (decide (i = 26)), .bl (decide (i = 27))])) q (.lst ([V.bl (decide (i = 0)), V.bl (decide (i = 1)), V.bl (decide (i = 2)), V.bl (decide (i = 3)), V.bl (decide (i = 4)), V.bl (decide (i = 5)), V.bl (decide (i = 6)), V.bl (decide (i = 7)), V.bl (decide (i = 8)), V.bl (decide (i = 9)), V.bl (decide (i = 10)), V.bl (decide (i = 11)), V.bl (decide (i = 12)), V.bl (decide (i = 13)), V.bl (decide (i = 14)), V.bl (decide (i = 15)), V.bl (decide (i = 16)), V.bl (decide (i = 17)), V.bl (decide (i = 18)), V.bl (decide (i = 19)), V.bl (decide (i = 20)), V.bl (decide (i = 21)), V.bl (decide (i = 22)), V.bl (decide (i = 23)), V.bl (decide (i = 24)), V.bl (decide (i = 25))] ++ [.bl (decide (i = 26)), .bl (decide (i = 27))])) = G13 at hE s hq ⊢
    replace hq : G13 q = some (.lst [.bl (decide (i = 0)), .bl (decide (i = 1)), .bl (decide (i = 2)), .bl (decide (i = 3)), .bl (decide (i = 4)), .bl (decide (i = 5)), .bl (decide (i = 6)), .bl (decide (i = 7)), .bl (decide (i = 8)), .bl (decide (i = 9)), .bl (decide (i = 10)), .bl (decide (i = 11)), .bl (decide (i = 12)), .bl (decide (i = 13)), .bl (decide (i = 14)), .bl (decide (i = 15)), .bl (decide (i = 16)), .bl (decide (i = 17)), .bl (decide (i = 18)), .bl (decide (i = 19)), .bl (decide (i = 20)), .bl (decide (i = 21)), .bl (decide (i = 22)), .bl (decide (i = 23)), .bl (decide (i = 24)), .bl (decide (i = 25)), .bl (decide (i = 26)), .bl (decide (i = 27))]) := hq
    refine ⟨_, rfl, .inl ⟨rfl, _, SqL.of hq⟩, ?_⟩
    refine ⟨_, rfl, a, Z.c i, fs, .ref (Z.c 28), .ref (Z.c 28), decide (i = 28), true, rfl, hE, xec, xsc, .own _, kitIJ T hi (j := 28) (by decide), ?_⟩
    refine ⟨_, rfl, a, Z.c i, fs, .ref (Z.c 29), .ref (Z.c 29), decide (i = 29), true, rfl, hE, xec, xsc, .own _, kitIJ T hi (j := 29) (by decide), ?_⟩
    refine ⟨by show 2 ≤ sizeLine; decide, fun r hr => ?_⟩
    have t14 := Same.new (o := .lst [.bl (decide (i = 28)), .bl (decide (i = 29))]) (Same.refl G13) hr
    replace hE := Err.same t14 hE
    replace s := s.trans t14
    replace hq := t14 _ _ hq
    refine ⟨q, r, _, _, rfl, rfl, hq, upd_same, by show 28 + 2 ≤ sizeLine; decide, ?_⟩
    have kp14 := Keep.upd (o := .lst ([V.bl (decide (i = 0)), V.bl (decide (i = 1)), V.bl (decide (i = 2)), V.bl (decide (i = 3)), V.bl (decide (i = 4)), V.bl (decide (i = 5)), V.bl (decide (i = 6)), V.bl (decide (i = 7)), V.bl (decide (i = 8)), V.bl (decide (i = 9)), V.bl (decide (i = 10)), V.bl (decide (i = 11)), V.bl (decide (i = 12)), V.bl (decide (i = 13)), V.bl (decide (i = 14)), V.bl (decide (i = 15)), V.bl (decide (i = 16)), V.bl (decide (i = 17)), V.bl (decide (i = 18)), V.bl (decide (i = 19)), V.bl (decide (i = 20)), V.bl (decide (i = 21)), V.bl (decide (i = 22)), V.bl (decide (i = 23)), V.bl (decide (i = 24)), V.bl (decide (i = 25)), V.bl (decide (i = 26)), V.bl (decide (i = 27))] ++ [.bl (decide (i = 28)), .bl (decide (i = 29))])) (Keep.rfl' (p := q) (H := upd G13 r (.lst [.bl (decide (i = 28)), .bl (decide (i = 29))])))
    replace hE := Err.keep hq kp14 hE
    replace s := Same.updN (o := .lst ([V.bl (decide (i = 0)), V.bl (decide (i = 1)), V.bl (decide (i = 2)), V.bl (decide (i = 3)), V.bl (decide (i = 4)), V.bl (decide (i = 5)), V.bl (decide (i = 6)), V.bl (decide (i = 7)), V.bl (decide (i = 8)), V.bl (decide (i = 9)), V.bl (decide (i = 10)), V.bl (decide (i = 11)), V.bl (decide (i = 12)), V.bl (decide (i = 13)), V.bl (decide (i = 14)), V.bl (decide (i = 15)), V.bl (decide (i = 16)), V.bl (decide (i = 17)), V.bl (decide (i = 18)), V.bl (decide (i = 19)), V.bl (decide (i = 20)), V.bl (decide (i = 21)), V.bl (decide (i = 22)), V.bl (decide (i = 23)), V.bl (decide (i = 24)), V.bl (decide (i = 25)), V.bl (decide (i = 26)), V.bl (decide (i = 27))] ++ [.bl (decide (i = 28)), .bl (decide (i = 29))])) s nq
    replace hq : (upd (upd G13 r (.lst [.bl (decide (i = 28)), .bl (decide (i = 29))])) q (.lst ([V.bl (decide (i = 0)), V.bl (decide (i = 1)), V.bl (decide (i = 2)), V.bl (decide (i = 3)), V.bl (decide (i = 4)), V.bl (decide (i = 5)), V.bl (decide (i = 6)), V.bl (decide (i = 7)), V.bl (decide (i = 8)), V.bl (decide (i = 9)), V.bl (decide (i = 10)), V.bl (decide (i = 11)), V.bl (decide (i = 12)), V.bl (decide (i = 13)), V.bl (decide (i = 14)), V.bl (decide (i = 15)), V.bl (decide (i = 16)), V.bl (decide (i = 17)), V.bl (decide (i = 18)), V.bl (decide (i = 19)), V.bl (decide (i = 20)), V.bl (decide (i = 21)), V.bl (decide (i = 22)), V.bl (decide (i = 23)), V.bl (decide (i = 24)), V.bl (decide (i = 25)), V.bl (decide (i = 26)), V.bl (decide (i = 27))] ++ [.bl (decide (i = 28)), .bl (decide (i = 29))]))) q = some (.lst ([V.bl (decide (i = 0)), V.bl (decide (i = 1)), V.bl (decide (i = 2)), V.bl (decide (i = 3)), V.bl (decide (i = 4)), V.bl (decide (i = 5)), V.bl (decide (i = 6)), V.bl (decide (i = 7)), V.bl (decide (i = 8)), V.bl (decide (i = 9)), V.bl (decide (i = 10)), V.bl (decide (i = 11)), V.bl (decide (i = 12)), V.bl (decide (i = 13)), V.bl (decide (i = 14)), V.bl (decide (i = 15)), V.bl (decide (i = 16)), V.bl (decide (i = 17)), V.bl (decide (i = 18)), V.bl (decide (i = 19)), V.bl (decide (i = 20)), V.bl (decide (i = 21)), V.bl (decide (i = 22)), V.bl (decide (i = 23)), V.bl (decide (i = 24)), V.bl (decide (i = 25)), V.bl (decide (i = 26)), V.bl (decide (i = 27))] ++ [.bl (decide (i = 28)), .bl (decide (i = 29))])) := upd_same
    clear kp14 t14 hr
    generalize upd (upd G13 r (.lst [.bl (decide (i = 28)), .bl (decide (i = 29))])) q (.lst ([V.bl (decide (i = 0)), V.bl (decide (i = 1)), V.bl (decide (i = 2)), V.bl (decide (i = 3)), V.bl (decide (i = 4)), V.bl (decide (i = 5)), V.bl (decide (i = 6)), V.bl (decide (i = 7)), V.bl (decide (i = 8)), V.bl (decide (i = 9)), V.bl (decide (i = 10)), V.bl (decide (i = 11)), V.bl (decide (i = 12)), V.bl (decide (i = 13)), V.bl (decide (i = 14)), V.bl (decide (i = 15)), V.bl (decide (i = 16)), V.bl (decide (i = 17)), V.bl (decide (i = 18)), V.bl (decide (i = 19)), V.bl (decide (i = 20)), V.bl (decide (i = 21)), V.bl (decide (i = 22)), V.bl (decide (i = 23)), V.bl (decide (i = 24)), V.bl (decide (i = 25)), V.bl (decide (i = 26)), V.bl (decide (i = 27))] ++ [.bl (decide (i = 28)), .bl (decide (i = 29))])) = G14 at hE s hq ⊢
    replace hq : G14 q = some (.lst [.bl (decide (i = 0)), .bl (decide (i = 1)), .bl (decide (i = 2)), .bl (decide (i = 3)), .bl (decide (i = 4)), .bl (decide (i = 5)), .bl (decide (i = 6)), .bl (decide (i = 7)), .bl (decide (i = 8)), .bl (decide (i = 9)), .bl (decide (i = 10)), .bl (decide (i = 11)), .bl (decide (i = 12)), .bl (decide (i = 13)), .bl (decide (i = 14)), .bl (decide (i = 15)), .bl (decide (i = 16)), .bl (decide (i = 17)), .bl (decide (i = 18)), .bl (decide (i = 19)), .bl (decide (i = 20)), .bl (decide (i = 21)), .bl (decide (i = 22)), .bl (decide (i = 23)), .bl (decide (i = 24)), .bl (decide (i = 25)), .bl (decide (i = 26)), .bl (decide (i = 27)), .bl (decide (i = 28)), .bl (decide (i = 29))]) := hq
    exact ⟨_, rfl, k q _ nq s hq⟩
end
end TT
set_option Elab.async false
set_option linter.all false
set_option maxRecDepth 100000
set_option maxHeartbeats 4000000
namespace TT
open PySem PySem.Spec PyProof.Rows L2
theorem Pot.ne {H : Hp} {p q : Addr} {n : Nat} (hp : Pot H p n) (hq : H q = none) : p ≠ q := by
  obtain ⟨_, _, e, _⟩ := hp
  exact ne_of_none e hq
theorem Pot.same {H H' : Hp} {p : Addr} {n : Nat} (hp : Pot H p n) (s : Same H H') : Pot H' p n := by
  obtain ⟨a, m, e, r⟩ := hp
  exact ⟨a, m, s _ _ e, r⟩
theorem Keep.same {H H' H2 : Hp} {p : Addr} (k : Keep p H H') (s : Same H' H2) : Keep p H H2 := fun b o n e => s _ _ (k b o n e)
/-! ### odd things -/
inductive Fl : V → PyData → Prop
  | non : Fl .non .none
  | bl (b : Bool) : Fl (.bl b) (.bool b)
  | int (i : Int) : Fl (.int i) (.int i)
  | str (x : Str) : Fl (.str x) (.str x)
inductive Fls : List V → List PyData → Prop
  | nil : Fls [] []
  | cons {v : V} {d : PyData} {vs : List V} {ds : List PyData} (h : Fl v d) (t : Fls vs ds) : Fls (v :: vs) (d :: ds)
/-- v stands for d, in things other than the pot -/
inductive Odd (p : Addr) (H : Hp) : V → PyData → Prop
  | fl {v : V} {d : PyData} (h : Fl v d) : Odd p H v d
  | t {a : Addr} {xs : List V} {ds : List PyData} (n : a ≠ p) (h : H a = some (.tup xs)) (f : Fls xs ds) : Odd p H (.ref a) (.tuple ds)
  | l {a : Addr} {xs : List V} {ds : List PyData} (n : a ≠ p) (h : H a = some (.lst xs)) (f : Fls xs ds) : Odd p H (.ref a) (.list ds)
  | tt {a b : Addr} (n : a ≠ p) (m : b ≠ p) (h : H a = some (.tup [.ref b])) (h2 : H b = some (.tup [])) : Odd p H (.ref a) (.tuple [.tuple []])
  | d0 {a : Addr} (n : a ≠ p) (h : H a = some (.dK [])) : Odd p H (.ref a) (.dict [])
  | d1 {a : Addr} {k : Str} {i : Int} (n : a ≠ p) (h : H a = some (.dK [(.inr k, .int i)])) : Odd p H (.ref a) (.dict [(.str k, .int i)])
theorem Odd.keep {p : Addr} {H H' : Hp} {v : V} {d : PyData} (k : Keep p H H') (o : Odd p H v d) : Odd p H' v d := by
  cases o with
  | fl h => exact .fl h
  | t n h f => exact .t n (k _ _ n h) f
  | l n h f => exact .l n (k _ _ n h) f
  | tt n m h h2 => exact .tt n m (k _ _ n h) (k _ _ m h2)
  | d0 n h => exact .d0 n (k _ _ n h)
  | d1 n h => exact .d1 n (k _ _ n h)
def menu : List PyData := [.none, .bool true, .bool false, .int (-1), .str "", .str "0", .str "up", .str "back", .tuple [], .list [], .dict [], .tuple [.tuple []], .tuple [.int 0], .list [.int 0], .tuple [.int 0, .int 1], .str "0 1 1 up 0", .str "tie",
  .tuple [.bool true], .list [.str "0"], .dict [(.str "a", .int 0)], .str "size 1", .tuple [.str "down", .int 1]]
/-- all that repr wants of it, alone and thirty times in a list -/
def fine (d : PyData) : Bool := d.showable && decide (d.depth ≤ 60) && decide (d.shown.length ≤ 1000) && (PyData.list (List.replicate 30 d)).showable && decide ((PyData.list (List.replicate 30 d)).depth ≤ 60) && decide ((PyData.list (List.replicate 30 d)).shown.length ≤ 100000)
theorem menu_fine : menu.all fine = true := by decide +kernel
def sp_l_odd : Sp := fun vs H Q _ => ∃ (p : Addr) (n : Nat), vs = [.ref p] ∧ Pot H p n ∧ n < 1000000 ∧ ∀ (v : V) (d : PyData) (n' : Nat) (H' : Hp), d ∈ menu → Odd p H' v d → n' ≤ n + 1 → Pot H' p n' → Keep p H H' → Q v H'
section
variable {P : Program} {w : World} {K : PySem.W.Frag} {mg : Str → Option Value} {base : Heap} {Z : Zs}
theorem ok_l_odd (T : Txt K mg Z) : FnOk P w K mg base CX0 3 Z.f_l_odd Z.d_l_odd ["_law_pot_here"] sp_l_odd := by
  refine T.F_l_odd.ok sc_l_odd (fun vs H Q E h => ?_) (fun cdv A outer s H vs Q E hr h => ?_)
  · obtain ⟨p, n, rfl, _⟩ := h
    rfl
  · obtain ⟨p, n, rfl, hp, hn, k⟩ := h
    refine ⟨_, (pss_cons (ps_set (i := 1) sc_l_odd.nd rfl (Or.inl rfl) (pe_lst (pa_cons pe_non (pa_cons pe_bl (pa_cons pe_bl (pa_cons (pe_un un_neg pe_int) (pa_cons pe_str (pa_cons pe_str (pa_cons pe_str (pa_cons pe_str (pa_cons (pe_tup pa_nil) (pa_cons (pe_lst pa_nil) (pa_cons pe_dnewK (pa_cons (pe_tup (pa_cons (pe_tup pa_nil) pa_nil)) (pa_cons (pe_tup (pa_cons pe_int pa_nil)) (pa_cons (pe_lst (pa_cons pe_int pa_nil)) (pa_cons (pe_tup (pa_cons pe_int (pa_cons pe_int pa_nil))) (pa_cons pe_str (pa_cons pe_str pa_nil)))))))))))))))))))
      (pss_one (ps_ret (pe_call (ok_l_of T) (hr.mono (by decide)) rfl T.g_l_of T.k_l_of T.bn_l_of .nil pass0 (pa_cons (pv 0) (pa_cons (pe_op op_cat (pv 1) (pe_lst (pa_cons (pe_tup (pa_cons pe_bl pa_nil)) (pa_cons (pe_lst (pa_cons pe_str pa_nil)) (pa_cons (pe_disp (pps_cons pe_str pe_int pps_nil) (by rfl) (by rfl) (fun z => by cases z) (by decide)) (pa_cons pe_str (pa_cons (pe_tup (pa_cons pe_str (pa_cons pe_int pa_nil))) pa_nil))))))) pa_nil)))))), ?_⟩
    obtain ⟨G0, eG⟩ : ∃ G0, G0 = H := ⟨_, rfl⟩
    have s : Same H G0 := by rw [eG]; exact Same.refl H
    replace hp : Pot G0 p n := by rw [eG]; exact hp
    refine Eq.mp (congrArg _ eG) ?_
    refine ⟨_, rfl, ?_⟩
    refine ⟨by show 0 ≤ sizeLine; decide, fun a8 ha8 => ?_⟩
    have ne_a8 : a8 ≠ p := (hp.ne ha8).symm
    have t : Same G0 (upd G0 a8 (.tup [])) := Same.new (Same.refl G0) ha8
    replace hp := hp.same t
    replace s := s.trans t
    have ca8 : (upd G0 a8 (.tup [])) a8 = some (.tup []) := upd_same
    clear t ha8
    generalize upd G0 a8 (.tup []) = G1 at hp s ca8 ⊢
    refine ⟨by show 0 ≤ sizeLine; decide, fun a9 ha9 => ?_⟩
    have ne_a9 : a9 ≠ p := (hp.ne ha9).symm
    have t : Same G1 (upd G1 a9 (.lst [])) := Same.new (Same.refl G1) ha9
    replace ca8 := t _ _ ca8
    replace hp := hp.same t
    replace s := s.trans t
    have ca9 : (upd G1 a9 (.lst [])) a9 = some (.lst []) := upd_same
    clear t ha9
    generalize upd G1 a9 (.lst []) = G2 at ca8 hp s ca9 ⊢
    intro a10 ha10
    have ne_a10 : a10 ≠ p := (hp.ne ha10).symm
    have t : Same G2 (upd G2 a10 (.dK [])) := Same.new (Same.refl G2) ha10
    replace ca8 := t _ _ ca8
    replace ca9 := t _ _ ca9
    replace hp := hp.same t
    replace s := s.trans t
    have ca10 : (upd G2 a10 (.dK [])) a10 = some (.dK []) := upd_same
    clear t ha10
    generalize upd G2 a10 (.dK []) = G3 at ca8 ca9 hp s ca10 ⊢
    refine ⟨by show 0 ≤ sizeLine; decide, fun b11 hb11 => ?_⟩
    have ne_b11 : b11 ≠ p := (hp.ne hb11).symm
    have t : Same G3 (upd G3 b11 (.tup [])) := Same.new (Same.refl G3) hb11
    replace ca8 := t _ _ ca8
    replace ca9 := t _ _ ca9
    replace ca10 := t _ _ ca10
    replace hp := hp.same t
    replace s := s.trans t
    have cb11 : (upd G3 b11 (.tup [])) b11 = some (.tup []) := upd_same
    clear t hb11
    generalize upd G3 b11 (.tup []) = G4 at ca8 ca9 ca10 hp s cb11 ⊢
    refine ⟨by show 1 ≤ sizeLine; decide, fun a11 ha11 => ?_⟩
    have ne_a11 : a11 ≠ p := (hp.ne ha11).symm
    have t : Same G4 (upd G4 a11 (.tup [.ref b11])) := Same.new (Same.refl G4) ha11
    replace ca8 := t _ _ ca8
    replace ca9 := t _ _ ca9
    replace ca10 := t _ _ ca10
    replace cb11 := t _ _ cb11
    replace hp := hp.same t
    replace s := s.trans t
    have ca11 : (upd G4 a11 (.tup [.ref b11])) a11 = some (.tup [.ref b11]) := upd_same
    clear t ha11
    generalize upd G4 a11 (.tup [.ref b11]) = G5 at ca8 ca9 ca10 cb11 hp s ca11 ⊢
    refine ⟨by show 1 ≤ sizeLine; decide, fun a12 ha12 => ?_⟩
    have ne_a12 : a12 ≠ p := (hp.ne ha12).symm
    have t : Same G5 (upd G5 a12 (.tup [.int 0])) := Same.new (Same.refl G5) ha12
    replace ca8 := t _ _ ca8
    replace ca9 := t _ _ ca9
    replace ca10 := t _ _ ca10
    replace cb11 := t _ _ cb11
    replace ca11 := t _ _ ca11
    replace hp := hp.same t
    replace s := s.trans t
    have ca12 : (upd G5 a12 (.tup [.int 0])) a12 = some (.tup [.int 0]) := upd_same
    clear t ha12
    generalize upd G5 a12 (.tup [.int 0]) = G6 at ca8 ca9 ca10 cb11 ca11 hp s ca12 ⊢
    refine ⟨by show 1 ≤ sizeLine; decide, fun a13 ha13 => ?_⟩
    have ne_a13 : a13 ≠ p := (hp.ne ha13).symm
    have t : Same G6 (upd G6 a13 (.lst [.int 0])) := Same.new (Same.refl G6) ha13
    replace ca8 := t _ _ ca8
    replace ca9 := t _ _ ca9
    replace ca10 := t _ _ ca10
    replace cb11 := t _ _ cb11
    replace ca11 := t _ _ ca11
    replace ca12 := t _ _ ca12
    replace hp := hp.same t
    replace s := s.trans t
    have ca13 : (upd G6 a13 (.lst [.int 0])) a13 = some (.lst [.int 0]) := upd_same
    clear t ha13
    generalize upd G6 a13 (.lst [.int 0]) = G7 at ca8 ca9 ca10 cb11 ca11 ca12 hp s ca13 ⊢
    refine ⟨by show 2 ≤ sizeLine; decide, fun a14 ha14 => ?_⟩
    have ne_a14 : a14 ≠ p := (hp.ne ha14).symm
    have t : Same G7 (upd G7 a14 (.tup [.int 0, .int 1])) := Same.new (Same.refl G7) ha14
    replace ca8 := t _ _ ca8
    replace ca9 := t _ _ ca9
    replace ca10 := t _ _ ca10
    replace cb11 := t _ _ cb11
    replace ca11 := t _ _ ca11
    replace ca12 := t _ _ ca12
    replace ca13 := t _ _ ca13
    replace hp := hp.same t
    replace s := s.trans t
    have ca14 : (upd G7 a14 (.tup [.int 0, .int 1])) a14 = some (.tup [.int 0, .int 1]) := upd_same
    clear t ha14
    generalize upd G7 a14 (.tup [.int 0, .int 1]) = G8 at ca8 ca9 ca10 cb11 ca11 ca12 ca13 hp s ca14 ⊢
    refine ⟨by show 17 ≤ sizeLine; decide, fun q1 hq1 => ?_⟩
    have ne_q1 : q1 ≠ p := (hp.ne hq1).symm
    have t : Same G8 (upd G8 q1 (.lst [.non, .bl true, .bl false, .int (-1), .str "", .str "0", .str "up", .str "back", .ref a8, .ref a9, .ref a10, .ref a11, .ref a12, .ref a13, .ref a14, .str "0 1 1 up 0", .str "tie"])) := Same.new (Same.refl G8) hq1
    replace ca8 := t _ _ ca8
    replace ca9 := t _ _ ca9
    replace ca10 := t _ _ ca10
    replace cb11 := t _ _ cb11
    replace ca11 := t _ _ ca11
    replace ca12 := t _ _ ca12
    replace ca13 := t _ _ ca13
    replace ca14 := t _ _ ca14
    replace hp := hp.same t
    replace s := s.trans t
    have cq1 : (upd G8 q1 (.lst [.non, .bl true, .bl false, .int (-1), .str "", .str "0", .str "up", .str "back", .ref a8, .ref a9, .ref a10, .ref a11, .ref a12, .ref a13, .ref a14, .str "0 1 1 up 0", .str "tie"])) q1 = some (.lst [.non, .bl true, .bl false, .int (-1), .str "", .str "0", .str "up", .str "back", .ref a8, .ref a9, .ref a10, .ref a11, .ref a12, .ref a13, .ref a14, .str "0 1 1 up 0", .str "tie"]) := upd_same
    clear t hq1
    generalize upd G8 q1 (.lst [.non, .bl true, .bl false, .int (-1), .str "", .str "0", .str "up", .str "back", .ref a8, .ref a9, .ref a10, .ref a11, .ref a12, .ref a13, .ref a14, .str "0 1 1 up 0", .str "tie"]) = G9 at ca8 ca9 ca10 cb11 ca11 ca12 ca13 ca14 hp s cq1 ⊢
    refine ⟨_, rfl, _, rfl, ?_⟩
    refine ⟨by show 1 ≤ sizeLine; decide, fun a17 ha17 => ?_⟩
    have ne_a17 : a17 ≠ p := (hp.ne ha17).symm
    have t : Same G9 (upd G9 a17 (.tup [.bl true])) := Same.new (Same.refl G9) ha17
    replace ca8 := t _ _ ca8
    replace ca9 := t _ _ ca9
    replace ca10 := t _ _ ca10
    replace cb11 := t _ _ cb11
    replace ca11 := t _ _ ca11
    replace ca12 := t _ _ ca12
    replace ca13 := t _ _ ca13
    replace ca14 := t _ _ ca14
    replace cq1 := t _ _ cq1
    replace hp := hp.same t
    replace s := s.trans t
    have ca17 : (upd G9 a17 (.tup [.bl true])) a17 = some (.tup [.bl true]) := upd_same
    clear t ha17
    generalize upd G9 a17 (.tup [.bl true]) = G10 at ca8 ca9 ca10 cb11 ca11 ca12 ca13 ca14 cq1 hp s ca17 ⊢
    refine ⟨by show 1 ≤ sizeLine; decide, fun a18 ha18 => ?_⟩
    have ne_a18 : a18 ≠ p := (hp.ne ha18).symm
    have t : Same G10 (upd G10 a18 (.lst [.str "0"])) := Same.new (Same.refl G10) ha18
    replace ca8 := t _ _ ca8
    replace ca9 := t _ _ ca9
    replace ca10 := t _ _ ca10
    replace cb11 := t _ _ cb11
    replace ca11 := t _ _ ca11
    replace ca12 := t _ _ ca12
    replace ca13 := t _ _ ca13
    replace ca14 := t _ _ ca14
    replace cq1 := t _ _ cq1
    replace ca17 := t _ _ ca17
    replace hp := hp.same t
    replace s := s.trans t
    have ca18 : (upd G10 a18 (.lst [.str "0"])) a18 = some (.lst [.str "0"]) := upd_same
    clear t ha18
    generalize upd G10 a18 (.lst [.str "0"]) = G11 at ca8 ca9 ca10 cb11 ca11 ca12 ca13 ca14 cq1 ca17 hp s ca18 ⊢
    intro a19 ha19
    refine ⟨upd_same, [(.inr "a", .int 0)], rfl, by show 1 ≤ 15; decide, ?_⟩
    have ne_a19 : a19 ≠ p := (hp.ne ha19).symm
    have t : Same G11 (upd (upd G11 a19 (.dK [])) a19 (.dK (mergeK [] [(.inr "a", .int 0)]))) := Same.updN (Same.new (Same.refl G11) ha19) ha19
    replace ca8 := t _ _ ca8
    replace ca9 := t _ _ ca9
    replace ca10 := t _ _ ca10
    replace cb11 := t _ _ cb11
    replace ca11 := t _ _ ca11
    replace ca12 := t _ _ ca12
    replace ca13 := t _ _ ca13
    replace ca14 := t _ _ ca14
    replace cq1 := t _ _ cq1
    replace ca17 := t _ _ ca17
    replace ca18 := t _ _ ca18
    replace hp := hp.same t
    replace s := s.trans t
    have ca19 : (upd (upd G11 a19 (.dK [])) a19 (.dK (mergeK [] [(.inr "a", .int 0)]))) a19 = some (.dK [(.inr "a", .int 0)]) := upd_same
    clear t ha19
    generalize upd (upd G11 a19 (.dK [])) a19 (.dK (mergeK [] [(.inr "a", .int 0)])) = G12 at ca8 ca9 ca10 cb11 ca11 ca12 ca13 ca14 cq1 ca17 ca18 hp s ca19 ⊢
    refine ⟨by show 2 ≤ sizeLine; decide, fun a21 ha21 => ?_⟩
    have ne_a21 : a21 ≠ p := (hp.ne ha21).symm
    have t : Same G12 (upd G12 a21 (.tup [.str "down", .int 1])) := Same.new (Same.refl G12) ha21
    replace ca8 := t _ _ ca8
    replace ca9 := t _ _ ca9
    replace ca10 := t _ _ ca10
    replace cb11 := t _ _ cb11
    replace ca11 := t _ _ ca11
    replace ca12 := t _ _ ca12
    replace ca13 := t _ _ ca13
    replace ca14 := t _ _ ca14
    replace cq1 := t _ _ cq1
    replace ca17 := t _ _ ca17
    replace ca18 := t _ _ ca18
    replace ca19 := t _ _ ca19
    replace hp := hp.same t
    replace s := s.trans t
    have ca21 : (upd G12 a21 (.tup [.str "down", .int 1])) a21 = some (.tup [.str "down", .int 1]) := upd_same
    clear t ha21
    generalize upd G12 a21 (.tup [.str "down", .int 1]) = G13 at ca8 ca9 ca10 cb11 ca11 ca12 ca13 ca14 cq1 ca17 ca18 ca19 hp s ca21 ⊢
    refine ⟨by show 5 ≤ sizeLine; decide, fun q2 hq2 => ?_⟩
    have ne_q2 : q2 ≠ p := (hp.ne hq2).symm
    have t : Same G13 (upd G13 q2 (.lst [.ref a17, .ref a18, .ref a19, .str "size 1", .ref a21])) := Same.new (Same.refl G13) hq2
    replace ca8 := t _ _ ca8
    replace ca9 := t _ _ ca9
    replace ca10 := t _ _ ca10
    replace cb11 := t _ _ cb11
    replace ca11 := t _ _ ca11
    replace ca12 := t _ _ ca12
    replace ca13 := t _ _ ca13
    replace ca14 := t _ _ ca14
    replace cq1 := t _ _ cq1
    replace ca17 := t _ _ ca17
    replace ca18 := t _ _ ca18
    replace ca19 := t _ _ ca19
    replace ca21 := t _ _ ca21
    replace hp := hp.same t
    replace s := s.trans t
    have cq2 : (upd G13 q2 (.lst [.ref a17, .ref a18, .ref a19, .str "size 1", .ref a21])) q2 = some (.lst [.ref a17, .ref a18, .ref a19, .str "size 1", .ref a21]) := upd_same
    clear t hq2
    generalize upd G13 q2 (.lst [.ref a17, .ref a18, .ref a19, .str "size 1", .ref a21]) = G14 at ca8 ca9 ca10 cb11 ca11 ca12 ca13 ca14 cq1 ca17 ca18 ca19 ca21 hp s cq2 ⊢
    refine ⟨q1, q2, _, _, rfl, rfl, cq1, cq2, by show 17 + 5 ≤ sizeLine; decide, fun q3 hq3 => ?_⟩
    have ne_q3 : q3 ≠ p := (hp.ne hq3).symm
    have t : Same G14 (upd G14 q3 (.lst ([.non, .bl true, .bl false, .int (-1), .str "", .str "0", .str "up", .str "back", .ref a8, .ref a9, .ref a10, .ref a11, .ref a12, .ref a13, .ref a14, .str "0 1 1 up 0", .str "tie"] ++ [.ref a17, .ref a18, .ref a19, .str "size 1", .ref a21]))) := Same.new (Same.refl G14) hq3
    replace ca8 := t _ _ ca8
    replace ca9 := t _ _ ca9
    replace ca10 := t _ _ ca10
    replace cb11 := t _ _ cb11
    replace ca11 := t _ _ ca11
    replace ca12 := t _ _ ca12
    replace ca13 := t _ _ ca13
    replace ca14 := t _ _ ca14
    replace cq1 := t _ _ cq1
    replace ca17 := t _ _ ca17
    replace ca18 := t _ _ ca18
    replace ca19 := t _ _ ca19
    replace ca21 := t _ _ ca21
    replace cq2 := t _ _ cq2
    replace hp := hp.same t
    replace s := s.trans t
    refine ⟨p, q3, n, [.non, .bl true, .bl false, .int (-1), .str "", .str "0", .str "up", .str "back", .ref a8, .ref a9, .ref a10, .ref a11, .ref a12, .ref a13, .ref a14, .str "0 1 1 up 0", .str "tie"] ++ [.ref a17, .ref a18, .ref a19, .str "size 1", .ref a21], rfl, hp, hn, upd_same, ne_q3, by show 0 < 22; decide, by show 22 ≤ 1000; decide, fun v n' H' hv hn' hp' kp => ?_⟩
    have kk : Keep p H H' := (Keep.of s).trans kp
    simp only [List.cons_append, List.nil_append, List.mem_cons, List.not_mem_nil, or_false] at hv
    rcases hv with rfl | rfl | rfl | rfl | rfl | rfl | rfl | rfl | rfl | rfl | rfl | rfl | rfl | rfl | rfl | rfl | rfl | rfl | rfl | rfl | rfl | rfl
    · exact k _ .none n' H' (by simp [menu]) (.fl .non) hn' hp' kk
    · exact k _ (.bool true) n' H' (by simp [menu]) (.fl (.bl true)) hn' hp' kk
    · exact k _ (.bool false) n' H' (by simp [menu]) (.fl (.bl false)) hn' hp' kk
    · exact k _ (.int (-1)) n' H' (by simp [menu]) (.fl (.int (-1))) hn' hp' kk
    · exact k _ (.str "") n' H' (by simp [menu]) (.fl (.str "")) hn' hp' kk
    · exact k _ (.str "0") n' H' (by simp [menu]) (.fl (.str "0")) hn' hp' kk
    · exact k _ (.str "up") n' H' (by simp [menu]) (.fl (.str "up")) hn' hp' kk
    · exact k _ (.str "back") n' H' (by simp [menu]) (.fl (.str "back")) hn' hp' kk
    · exact k _ (.tuple []) n' H' (by simp [menu]) (Odd.keep kp (.t ne_a8 ca8 .nil)) hn' hp' kk
    · exact k _ (.list []) n' H' (by simp [menu]) (Odd.keep kp (.l ne_a9 ca9 .nil)) hn' hp' kk
    · exact k _ (.dict []) n' H' (by simp [menu]) (Odd.keep kp (.d0 ne_a10 ca10)) hn' hp' kk
    · exact k _ (.tuple [.tuple []]) n' H' (by simp [menu]) (Odd.keep kp (.tt ne_a11 ne_b11 ca11 cb11)) hn' hp' kk
    · exact k _ (.tuple [.int 0]) n' H' (by simp [menu]) (Odd.keep kp (.t ne_a12 ca12 (.cons (.int 0) .nil))) hn' hp' kk
    · exact k _ (.list [.int 0]) n' H' (by simp [menu]) (Odd.keep kp (.l ne_a13 ca13 (.cons (.int 0) .nil))) hn' hp' kk
    · exact k _ (.tuple [.int 0, .int 1]) n' H' (by simp [menu]) (Odd.keep kp (.t ne_a14 ca14 (.cons (.int 0) (.cons (.int 1) .nil)))) hn' hp' kk
    · exact k _ (.str "0 1 1 up 0") n' H' (by simp [menu]) (.fl (.str "0 1 1 up 0")) hn' hp' kk
    · exact k _ (.str "tie") n' H' (by simp [menu]) (.fl (.str "tie")) hn' hp' kk
    · exact k _ (.tuple [.bool true]) n' H' (by simp [menu]) (Odd.keep kp (.t ne_a17 ca17 (.cons (.bl true) .nil))) hn' hp' kk
    · exact k _ (.list [.str "0"]) n' H' (by simp [menu]) (Odd.keep kp (.l ne_a18 ca18 (.cons (.str "0") .nil))) hn' hp' kk
    · exact k _ (.dict [(.str "a", .int 0)]) n' H' (by simp [menu]) (Odd.keep kp (.d1 ne_a19 ca19)) hn' hp' kk
    · exact k _ (.str "size 1") n' H' (by simp [menu]) (.fl (.str "size 1")) hn' hp' kk
    · exact k _ (.tuple [.str "down", .int 1]) n' H' (by simp [menu]) (Odd.keep kp (.t ne_a21 ca21 (.cons (.str "down") (.cons (.int 1) .nil)))) hn' hp' kk
end
end TT
set_option Elab.async false
set_option linter.all false
set_option maxRecDepth 100000
set_option maxHeartbeats 4000000
namespace TT
open PySem PySem.Spec PyProof.Rows L2
def FR (v : V) : Prop := flatB v = true ∨ ∃ a, v = .ref a
theorem Fl.fr {v : V} {d : PyData} (h : Fl v d) : flatB v = true := by cases h <;> rfl
theorem Fls.fr {vs : List V} {ds : List PyData} (h : Fls vs ds) : ∀ v ∈ vs, FR v := by
  induction h with
  | nil => intro v hv; cases hv
  | cons h t ih =>
    intro v hv
    rcases List.mem_cons.mp hv with rfl | hv
    · exact .inl h.fr
    · exact ih v hv
theorem Odd.fr {p : Addr} {H : Hp} {v : V} {d : PyData} (o : Odd p H v d) : FR v := by
  cases o with
  | fl h => exact .inl h.fr
  | _ => exact .inr ⟨_, rfl⟩
/-- equal to itself, and not the pot -/
inductive Nice (p : Addr) (H : Hp) : V → Prop
  | odd {v : V} {d : PyData} (h : Odd p H v d) : Nice p H v
  | tup {a : Addr} {xs : List V} (n : a ≠ p) (h : H a = some (.tup xs)) (f : ∀ v ∈ xs, FR v) : Nice p H (.ref a)
  | dic {a : Addr} {k : Key} {v : V} (n : a ≠ p) (h : H a = some (.dK [(k, v)])) (f : FR v) : Nice p H (.ref a)
theorem Nice.keep {p : Addr} {H H' : Hp} {v : V} (k : Keep p H H') (o : Nice p H v) : Nice p H' v := by
  cases o with
  | odd h => exact .odd (h.keep k)
  | tup n h f => exact .tup n (k _ _ n h) f
  | dic n h f => exact .dic n (k _ _ n h) f
theorem prs_self {K : PySem.W.Frag} {H : Hp} {xs : List V} (f : ∀ v ∈ xs, FR v) : Prs D0 xs xs H := ⟨rfl, fun i x y e1 e2 => by
  rw [e1] at e2
  cases e2
  exact ⟨rfl, f _ (List.mem_of_getElem? e1)⟩⟩
theorem paired_self {K : PySem.W.Frag} {H : Hp} : ∀ {xs : List V}, (∀ v ∈ xs, FR v) → Paired (EqV K H 1) xs xs
  | [], _ => .nil
  | x :: xs, f => .cons (D0.eqV (f x (.head _))) (paired_self fun v h => f v (.tail _ h))
theorem val1 {k : Key} {v : V} : valV [(k, v)] k = some v := by
  unfold valV
  simp
theorem dic_self {K : PySem.W.Frag} {H : Hp} {a : Addr} {k : Key} {v : V} (h : H a = some (.dK [(k, v)])) (f : FR v) : SelfEq K H (.ref a) :=
  .inr (.inl ⟨1, by decide, .inr ⟨a, a, [(k, v)], [(k, v)], rfl, rfl, h, h, rfl, fun p hp => by
    rw [List.mem_singleton] at hp
    subst hp
    exact ⟨v, val1, D0.eqV f⟩⟩⟩)
theorem Nice.self {K : PySem.W.Frag} {p : Addr} {H : Hp} {v : V} (o : Nice p H v) : SelfEq K H v := by
  cases o with
  | odd h =>
    cases h with
    | fl h => exact .inl (by cases h <;> rfl)
    | t n h f => exact .inr (.inr ⟨_, _, _, _, rfl, rfl, SqT.of h, SqT.of h, prs_self (K := K) f.fr⟩)
    | l n h f => exact .inr (.inl ⟨1, by decide, .inl ⟨_, _, _, _, rfl, rfl, SqL.of h, SqL.of h, paired_self f.fr⟩⟩)
    | tt n m h h2 => exact .inr (.inr ⟨_, _, _, _, rfl, rfl, SqT.of h, SqT.of h, prs_self (K := K) fun v hv => by rw [List.mem_singleton] at hv; exact .inr ⟨_, hv⟩⟩)
    | d0 n h => exact .inr (.inl ⟨1, by decide, .inr ⟨_, _, [], [], rfl, rfl, h, h, rfl, fun p hp => by cases hp⟩⟩)
    | d1 n h => exact dic_self h (.inl rfl)
  | tup n h f => exact .inr (.inr ⟨_, _, _, _, rfl, rfl, SqT.of h, SqT.of h, prs_self (K := K) f⟩)
  | dic n h f => exact dic_self h f
/-- repr of an odd thing -/
theorem fls_dp {K : PySem.W.Frag} {H : Hp} {vs : List V} {ds : List PyData} (f : Fls vs ds) : DpAll K H vs ds ∧ PyData.hasDictAll ds = false := by
  induction f with
  | nil => exact ⟨.nil, by simp [PyData.hasDictAll]⟩
  | cons h t ih =>
    refine ⟨.cons (by cases h <;> constructor) ih.1, ?_⟩
    cases h <;> simp [PyData.hasDictAll, PyData.hasDict, ih.2]
theorem Odd.dp {K : PySem.W.Frag} {p : Addr} {H : Hp} {v : V} {d : PyData} (o : Odd p H v d) : DpD K H v d := by
  cases o with
  | fl h => exact .dp (by cases h <;> constructor) (by cases h <;> simp [PyData.hasDict])
  | t n h f => exact .dp (.tup (SqT.of h) (fls_dp f).1) (by simp only [PyData.hasDict]; exact (fls_dp (K := K) (H := H) f).2)
  | l n h f => exact .dp (.lst (SqL.of h) (fls_dp f).1) (by simp only [PyData.hasDict]; exact (fls_dp (K := K) (H := H) f).2)
  | tt n m h h2 => exact .tt h h2
  | d0 n h => exact .d0 h
  | d1 n h => exact .d1 h
/-- the data of the kinds -/
def kindsD (i : Nat) : List PyData := (List.range 30).map fun j => PyData.bool (decide (i = j))
theorem bools_dp {K : PySem.W.Frag} {H : Hp} : ∀ bs : List Bool, DpAll K H (bs.map V.bl) (bs.map PyData.bool)
  | [] => .nil
  | b :: bs => .cons (.bl b) (bools_dp bs)
theorem kinds_dp {K : PySem.W.Frag} {H : Hp} {q : Addr} {i : Nat} (h : H q = some (.lst (kindsV i))) : Dp K H (.ref q) (.list (kindsD i)) := by
  have := bools_dp (K := K) (H := H) ((List.range 30).map fun j => decide (i = j))
  rw [List.map_map, List.map_map] at this
  exact .lst (SqL.of h) this
theorem kinds_shaped : ∀ i, i < 30 → SeqAt.shaped (.list (kindsD i)) = true := by decide +kernel
theorem kinds_eqv : ∀ i, i < 30 → PyData.eqv (.list (kindsD i)) (.list (kindsD i)) = true := fun i h => SeqAt.eqv_refl _ (SeqAt.canLay_of_shaped (kinds_shaped i h))
end TT

set_option Elab.async false
set_option linter.all false
set_option maxRecDepth 100000
set_option maxHeartbeats 4000000
namespace TT
open PySem PySem.Spec PyProof.Rows L2
def sp_l_right : Sp := fun vs H Q _ => ∃ (p : Addr) (n : Nat), vs = [.ref p] ∧ Pot H p n ∧ n + 40 < 1000000 ∧ ∀ (n' : Nat) (H' : Hp), n' ≤ n + 40 → Pot H' p n' → Keep p H H' → Q (.bl true) H'
theorem Keep.dic {p e : Addr} {H Hx H4 : Hp} {o o0 : HO} (k : Keep p H Hx) (n : Hx e = none) (k4 : Keep p (L2.upd Hx e o0) H4) : Keep p H (L2.upd H4 e o) := fun b u nb eb => by
  have e1 := k _ _ nb eb
  have nbe := ne_of_none e1 n
  rw [upd_ne nbe]
  exact k4 _ _ nb (by rw [upd_ne nbe]; exact e1)
theorem Pot.updN {H : Hp} {p e : Addr} {n : Nat} {o : HO} (hp : Pot H p n) (h : p ≠ e) : Pot (L2.upd H e o) p n := by
  obtain ⟨a, m, x, r⟩ := hp
  exact ⟨a, m, by rw [upd_ne h]; exact x, r⟩
theorem map_at {as : List Addr} {j : Nat} {y : V} (h : (as.map V.ref)[j]? = some y) : ∃ a, as[j]? = some a ∧ y = .ref a := by
  rw [List.getElem?_map] at h
  cases e : as[j]? with
  | none => rw [e] at h; cases h
  | some a => rw [e] at h; cases h; exact ⟨a, rfl, rfl⟩
section
variable {P : Program} {w : World} {K : PySem.W.Frag} {mg : Str → Option Value} {base : Heap} {Z : Zs}
theorem ok_l_right (T : Txt K mg Z) : GOk P w K mg base CX0 8 Z.f_l_right Z.d_l_right ["_law_pot_here"] sp_l_right := by
  refine okG T.F_l_right sc_l_right (fun vs H Q E h => ?_) (fun cdv A outer s H vs Q E g hr h => ?_)
  · obtain ⟨p, n, rfl, _⟩ := h
    rfl
  · obtain ⟨p, n, rfl, hp, hn, k⟩ := h
    refine ⟨_, (pss_cons (ps_set (i := 1) sc_l_right.nd rfl (Or.inl rfl) (pe_lst (pa_cons (pe_call (ok_l_odd T) (hr.mono (by decide)) rfl T.g_l_odd T.k_l_odd T.bn_l_odd .nil pass0 (pa_cons (pv 0) pa_nil)) (pa_cons (pe_tup (pa_cons (pe_call (ok_l_odd T) (hr.mono (by decide)) rfl T.g_l_odd T.k_l_odd T.bn_l_odd .nil pass0 (pa_cons (pv 0) pa_nil)) (pa_cons (pe_lst (pa_cons (pe_call (ok_l_odd T) (hr.mono (by decide)) rfl T.g_l_odd T.k_l_odd T.bn_l_odd .nil pass0 (pa_cons (pv 0) pa_nil)) pa_nil)) pa_nil))) (pa_cons (pe_disp (pps_cons pe_str (pe_call (ok_l_odd T) (hr.mono (by decide)) rfl T.g_l_odd T.k_l_odd T.bn_l_odd .nil pass0 (pa_cons (pv 0) pa_nil)) pps_nil) (by rfl) (by rfl) (fun z => by cases z) (by decide)) pa_nil)))))
      (pss_cons (ps_for PassesOwn.never rfl (pi_list (pv 1)) (pg_name (i := 2) sc_l_right.nd rfl (Or.inr rfl)) (pss_cons (ps_set (i := 3) sc_l_right.nd rfl (Or.inl rfl) (pe_call (ok_l_all_of T) (hr.mono (by decide)) rfl T.g_l_all_of T.k_l_all_of T.bn_l_all_of .nil pass0 (pa_cons (pv 2) pa_nil)))
      (pss_cons (ps_if (pt_not (pt_val (pe_callB  (cr_all rfl) (by rfl) T.b_all (by decide +kernel) (pa_cons (pe_lc (own := [("_law_error", 5)]) rfl sc_l_right.nd (pi_list (pv 3)) (blkOk_by (own := [("_law_error", 5)]) (N := ["_law_pot_here", "_law_some", "_law_one", "_law_errors", "_law_at", "_law_error", "_law_kept", "_law_k"]) (sc := defScope s_l_right) (by decide +kernel)) (fun _ _ _ _ _ => (pg_name (i := 5) sc_l_right.nd rfl (Or.inl rfl))) (fun _ _ _ _ _ => pts_nil) (fun _ _ _ _ _ => (pe_and (pe_cmpR (show OpR _ _ (rSame K) from op_same (by exact hr.units) (hr.mono (by decide))) (show PE _ _ (tXv K "value" (tVar 5)) from pe_xv (pv 5)) (pv 2) (nomark _)) (pe_one (pe_callB  (r := rIsX K) (id := "isinstance") call_isX (by rfl) T.b_isinstance (by decide +kernel) (pa_cons (pv 5) (pa_cons (pe_bltn (v := .ty "ValueError") rfl T.b_ValueError (by decide +kernel) rfl) pa_nil))))))) pa_nil)))) (pss_one (ps_ret pe_bl)) pss_nil)
      (pss_one (ps_for PassesOwn.never rfl (pi_enum (by rfl) T.b_enumerate (pa_cons (pv 3) pa_nil)) (pg_tup rfl (pgs_cons (pg_name (i := 4) sc_l_right.nd rfl (Or.inr rfl)) (pgs_cons (pg_name (i := 5) sc_l_right.nd rfl (Or.inl rfl)) pgs_nil))) (pss_one (ps_if (PW.pt (pw_or (pt_cmpR (op_neD (by exact hr.units)) (pe_call (ok_l_kinds_of T) (hr.mono (by decide)) rfl T.g_l_kinds_of T.k_l_kinds_of T.bn_l_kinds_of .nil pass0 (pa_cons (pv 5) pa_nil)) (pe_lc (own := [("_law_k", 7)]) rfl sc_l_right.nd (pi_range1 rfl T.b_range (pa_cons (pe_callB  call_len (by rfl) T.b_len (by decide +kernel) (pa_cons (pv 3) pa_nil)) pa_nil)) (blkOk_by (own := [("_law_k", 7)]) (N := ["_law_pot_here", "_law_some", "_law_one", "_law_errors", "_law_at", "_law_error", "_law_kept", "_law_k"]) (sc := defScope s_l_right) (by decide +kernel)) (fun _ _ _ _ _ => (pg_name (i := 7) sc_l_right.nd rfl (Or.inl rfl))) (fun _ _ _ _ _ => pts_nil) (fun _ _ _ _ _ => (pe_cmpR op_eq (pv 7) (pv 4) (nomark _)))) (nomark _)) (pw_or1 (pt_not (pt_val (pe_callB  (r := rIsX K) (id := "isinstance") call_isX (by rfl) T.b_isinstance (by decide +kernel) (pa_cons (pv 5) (pa_cons (pe_glob (v := .ref (Z.c 30)) rfl T.g_TuneError rfl) pa_nil)))))))) (pss_one (ps_ret pe_bl)) pss_nil)))))))
      (pss_cons (ps_setLc (i := 6) (own := [("_law_error", 5)]) rfl sc_l_right.nd rfl rfl (sw_true rfl rfl rfl (by decide +kernel)) (pi_list (pe_call (ok_l_all_of T) (hr.mono (by decide)) rfl T.g_l_all_of T.k_l_all_of T.bn_l_all_of .nil pass0 (pa_cons (pe_ix ix_list (pv 1) pe_int (fun _ _ => rfl)) pa_nil))) (blkOk_by (own := [("_law_error", 5)]) (N := ["_law_pot_here", "_law_some", "_law_one", "_law_errors", "_law_at", "_law_error", "_law_kept", "_law_k"]) (sc := defScope s_l_right) (by decide +kernel)) (fun _ _ _ _ _ => (pg_name (i := 5) sc_l_right.nd rfl (Or.inl rfl))) (fun _ _ _ _ _ => pts_nil) (fun _ _ _ _ _ => (show PE _ _ (tXv K "value" (tVar 5)) from pe_xv (pv 5))))
      (pss_one (ps_ret (pe_and (pe_cmpR op_eq (pe_callB (r := rReprD K) (id := "repr") (call_reprS (by exact g) (by exact hr.units)) (by rfl) T.b_repr (by decide +kernel) (pa_cons (pv 6) pa_nil)) (pe_callB (r := rReprD K) (id := "repr") (call_reprS (by exact g) (by exact hr.units)) (by rfl) T.b_repr (by decide +kernel) (pa_cons (pe_op op_rep (pe_lst (pa_cons (pe_ix ix_list (pv 1) pe_int (fun _ _ => rfl)) pa_nil)) (pe_callB call_len (by rfl) T.b_len (by decide +kernel) (pa_cons (pv 6) pa_nil))) pa_nil)) (nomark _)) (pe_one (pe_cmpR op_eq (pe_callB (r := rReprD K) (id := "repr") (call_reprS (by exact g) (by exact hr.units)) (by rfl) T.b_repr (by decide +kernel) (pa_cons (pe_xv (pe_mkX (T.ex 30 (by decide)).ox (T.ex 30 (by decide)).ini T.t_E_init (ok_E_init T) (hr.mono (by decide)) T.bn_E_init .nil pass0 rfl T.g_TuneError (pa_cons (pe_ix ix_list (pv 1) pe_int (fun _ _ => rfl)) pa_nil))) pa_nil)) (pe_callB (r := rReprD K) (id := "repr") (call_reprS (by exact g) (by exact hr.units)) (by rfl) T.b_repr (by decide +kernel) (pa_cons (pe_ix ix_list (pv 1) pe_int (fun _ _ => rfl)) pa_nil)) (nomark _))))))))), ?_⟩
    refine ⟨_, rfl, p, n, rfl, hp, by omega, fun v1 d1 n1 H1 hd1 o1 hn1 hp1 k1 => ?_⟩
    refine ⟨_, rfl, p, n1, rfl, hp1, by omega, fun v2 d2 n2 H2 hd2 o2 hn2 hp2 k2 => ?_⟩
    refine ⟨_, rfl, p, n2, rfl, hp2, by omega, fun v3 d3 n3 H3 hd3 o3 hn3 hp3 k3 => ?_⟩
    refine ⟨by show 1 ≤ sizeLine; decide, fun l hl => ⟨by show 2 ≤ sizeLine; decide, fun t ht => ?_⟩⟩
    intro e he
    have sl := Same.new (o := .lst [v3]) (Same.refl H3) hl
    have st := Same.new (o := .tup [v2, .ref l]) (Same.refl _) ht
    have se := Same.new (o := .dK []) (Same.refl _) he
    have hpx := hp3.same (sl.trans st)
    have hp4 := hpx.same se
    have net : t ≠ p := ((hp3.same sl).ne ht).symm
    have nee : e ≠ p := (hpx.ne he).symm
    refine ⟨_, rfl, p, n3, rfl, hp4, by omega, fun v4 d4 n4 H4 hd4 o4 hn4 hp5 k4 => ?_⟩
    refine ⟨k4 _ _ nee upd_same, [(.inr "a", v4)], rfl, by show 1 ≤ 15; decide, ?_⟩
    refine ⟨by show 3 ≤ sizeLine; decide, fun q hq0 => ?_⟩
    have kx1 : Keep p H1 (upd (upd H3 l (.lst [v3])) t (.tup [v2, .ref l])) := (k2.trans k3).same (sl.trans st)
    have kq := fun (b : Addr) => (Keep.rfl' (p := p) (H := upd H4 e (.dK (mergeK [] [(.inr "a", v4)])))).new (o := .lst [v1, .ref t, .ref e]) hq0
    have kxq := (Keep.dic (o := .dK (mergeK [] [(.inr "a", v4)])) Keep.rfl' he k4).trans (kq p)
    have kHq := (Keep.dic (o := .dK (mergeK [] [(.inr "a", v4)])) (k1.trans kx1) he k4).trans (kq p)
    have k1q := (Keep.dic (o := .dK (mergeK [] [(.inr "a", v4)])) kx1 he k4).trans (kq p)
    have hp6 := hp5.updN (o := .dK (mergeK [] [(.inr "a", v4)])) nee.symm
    have nqp := hp6.ne hq0
    have hpq := hp6.updN (o := .lst [v1, .ref t, .ref e]) nqp
    have ct := kxq _ _ net upd_same
    have ce := kq p e _ nee upd_same
    have hq : (upd (upd H4 e (.dK (mergeK [] [(.inr "a", v4)]))) q (.lst [v1, .ref t, .ref e])) q = some (.lst [v1, .ref t, .ref e]) := upd_same
    generalize upd (upd H4 e (.dK (mergeK [] [(.inr "a", v4)]))) q (.lst [v1, .ref t, .ref e]) = Hq at hq ce ct hpq k1q kHq ⊢
    have o1q := o1.keep k1q
    have nice : ∀ x ∈ [v1, V.ref t, V.ref e], Nice p Hq x := fun x hx => by
      simp only [List.mem_cons, List.not_mem_nil, or_false] at hx
      rcases hx with rfl | rfl | rfl
      · exact .odd o1q
      · exact .tup net ct fun v hv => by
          simp only [List.mem_cons, List.not_mem_nil, or_false] at hv
          rcases hv with rfl | rfl
          · exact o2.fr
          · exact .inr ⟨_, rfl⟩
      · exact .dic nee ce o4.fr
    clear kxq kq ct ce kx1
    refine ⟨_, rfl, q, rfl, ⟨_, SqL.of hq⟩, ?_⟩
    refine for_list (xs := [v1, .ref t, .ref e]) (fun _ σ H' => ∃ a2 a3 a4 a5, σ = [some (.ref p), some (.ref q), a2, a3, a4, a5, none, none] ∧ Same Hq H') ⟨_, _, _, _, rfl, Same.refl _⟩ (fun i σ H' _ ⟨_, _, _, _, _, s⟩ => SqL.of (s _ _ hq)) ?_ ?_
    · rintro i x σ H' hi ⟨a2, a3, a4, a5, rfl, s⟩
      have nx : Nice p H' x := (nice x (List.mem_of_getElem? hi)).keep (Keep.of s)
      refine ⟨_, rfl, x, rfl, fun q' as H1 hl m hq' nq s1 => ?_⟩
      have j30 : ∀ j a, as[j]? = some a → j < 30 := fun j a ha => by have := (List.getElem?_eq_some_iff.mp ha).1; omega
      refine ⟨_, rfl, q', rfl, ⟨_, SqL.of hq'⟩, fun D hD => ?_⟩
      refine lc_list (xs := as.map V.ref) (fun i H2 => H2 D = some (.lst (List.replicate i (.bl true))) ∧ Same H1 H2) ⟨upd_same, Same.new (Same.refl _) hD⟩ (fun i H2 _ h => SqL.of (h.2 _ _ hq')) ?_ ?_
      · rintro j y H2 hj ⟨hD', s2⟩
        obtain ⟨a, ha, rfl⟩ := map_at hj
        have jl := j30 j a ha
        have X := T.ex j (by omega)
        have hE := Err.same s2 (m j a ha)
        refine ⟨rfl, ?_⟩
        unfold tYes
        refine iteT ?_
        refine ⟨_, rfl, a, Z.c j, _, x, rfl, hE, X.xf, X.nv, rfl, _, rfl, rfl, (nx.keep (Keep.of (s1.trans s2))).self, fun H3 s3 => ⟨true, rfl, iteT ?_⟩⟩
        have hE3 := Err.same s3 hE
        refine ⟨_, rfl, a, Z.c j, _, .ty "ValueError", .type "ValueError", true, true, rfl, hE3, X.ec, X.selfC, .ty _, X.ve, ?_⟩
        refine ⟨_, s3 _ _ hD', ?_, ?_, fun b o eb => ?_⟩
        · rw [List.length_replicate]
          exact Nat.lt_trans jl (by decide)
        · rw [← List.replicate_succ']
          exact upd_same
        · rw [upd_ne (ne_of_none eb hD)]
          exact s3 _ _ (s2 _ _ eb)
      · rintro H2 ⟨hD', s2⟩
        rw [List.length_map, hl] at hD'
        refine ⟨D, List.replicate 30 true, rfl, SqL.of (by rw [List.map_replicate]; exact hD'), _, rfl, ?_⟩
        refine iteF ?_
        have hq2 := s2 _ _ hq'
        refine ⟨_, rfl, q', as.map V.ref, rfl, SqL.of hq2, ?_⟩
        refine for_it (walk_enum (xs := as.map V.ref)) (fun _ σ H3 => ∃ b4 b5, σ = [some (.ref p), some (.ref q), some x, some (.ref q'), b4, b5, none, none] ∧ Same H2 H3) ⟨_, _, rfl, Same.refl _⟩ (fun i σ H3 _ ⟨_, _, _, e⟩ => SqL.of (e _ _ hq2)) ?_ ?_
        · rintro j y σ H3 H4 hj ⟨b4, b5, rfl, s3⟩ ⟨T4, z4, y4, rfl, nT, rfl, e1, e2⟩
          cases e1
          obtain ⟨a, ha, rfl⟩ := map_at e2
          have jl := j30 j a ha
          have X := T.ex j (by omega)
          have s4 := Same.new (o := .tup [.int (j : Nat), .ref a]) (Same.refl H3) nT
          have hE := Err.same (s2.trans (s3.trans s4)) (m j a ha)
          refine ⟨T4, _, rfl, SqT.of upd_same, rfl, _, _, rfl, _, _, rfl, rfl, ?_⟩
          refine ⟨_, rfl, a, j, _, rfl, jl, hE, fun r H5 nr s5 hr5 => ?_⟩
          refine ⟨_, rfl, _, 30, rfl, .inl ⟨_, SqL.of (s5 _ _ (s4 _ _ (s3 _ _ hq2))), by rw [List.length_map, hl]⟩, _, rfl, by decide, by decide, fun D2 hD2 => ?_⟩
          refine lc_range (n := 30) (fun i H6 => H6 D2 = some (.lst ((List.range i).map fun k => V.bl (decide (j = k)))) ∧ Same H5 H6) ⟨upd_same, Same.new (Same.refl _) hD2⟩ ?_ ?_
          · rintro i H6 hi ⟨hD6, s6⟩
            refine ⟨rfl, ?_⟩
            unfold tYes
            refine iteT ?_
            refine ⟨_, rfl, _, rfl, rfl, ?_⟩
            have e : decide (V.int (0 + (i : Int)) = V.int (j : Int)) = decide (j = i) := by
              by_cases c : j = i
              · subst c
                rw [decide_eq_true rfl, decide_eq_true (by rw [Int.zero_add])]
              · rw [decide_eq_false c, decide_eq_false fun z => c (by injection z; omega)]
            rw [e]
            refine ⟨_, hD6, ?_, ?_, fun b o eb => ?_⟩
            · rw [List.length_map, List.length_range]
              exact Nat.lt_trans hi (by decide)
            · rw [List.range_succ, List.map_append]
              exact upd_same
            · rw [upd_ne (ne_of_none eb hD2)]
              exact s6 _ _ eb
          · rintro H6 ⟨hD6, s6⟩
            refine ⟨.list (kindsD j), .list (kindsD j), kinds_dp (s6 _ _ hr5), kinds_dp hD6, kinds_shaped j jl, kinds_shaped j jl, ?_⟩
            rw [kinds_eqv j jl]
            refine ⟨_, rfl, iteF ?_⟩
            have hE6 := Err.same (s5.trans s6) hE
            refine ⟨_, rfl, a, Z.c j, _, .ref (Z.c 30), .ref (Z.c 30), true, true, rfl, hE6, X.ec, X.selfC, .own _, by
              rw [X.kit (T.ex 30 (by decide)) fun z => absurd (T.nd j 30 (by omega) (by decide) z) (by omega), decide_eq_true rfl], true, rfl, iteF ?_⟩
            exact ⟨_, _, rfl, s3.trans (s4.trans (s5.trans s6))⟩
        · rintro σ H3 ⟨b4, b5, rfl, s3⟩
          exact ⟨_, _, _, _, rfl, s.trans (s1.trans (s2.trans s3))⟩
    · rintro σ H' ⟨a2, a3, a4, a5, rfl, s⟩
      have hf := List.all_eq_true.mp menu_fine d1 hd1
      unfold fine at hf
      simp only [Bool.and_eq_true, decide_eq_true_eq] at hf
      obtain ⟨⟨⟨⟨⟨f1, f2⟩, f3⟩, f4⟩, f5⟩, f6⟩ := hf
      have sl6 : sizeLine = 16777216 := sizeLine_eq
      refine ⟨_, rfl, q, _, _, _, rfl, rfl, SqL.of (s _ _ hq), rfl, v1, rfl, fun q2 as H1 hl m hq2 nq2 s1 => ?_⟩
      refine ⟨q2, rfl, ⟨_, SqL.of hq2⟩, fun D hD => ?_⟩
      refine lc_list (xs := as.map V.ref) (fun i H2 => H2 D = some (.lst (List.replicate i v1)) ∧ Same H1 H2) ⟨upd_same, Same.new (Same.refl _) hD⟩ (fun i H2 _ h => SqL.of (h.2 _ _ hq2)) ?_ ?_
      · rintro j y H2 hj ⟨hD', s2⟩
        obtain ⟨a, ha, rfl⟩ := map_at hj
        have jl : j < 30 := by have := (List.getElem?_eq_some_iff.mp ha).1; omega
        have X := T.ex j (by omega)
        have hE := Err.same s2 (m j a ha)
        refine ⟨rfl, ?_⟩
        unfold tYes
        refine iteT ?_
        refine ⟨_, rfl, a, Z.c j, _, v1, rfl, hE, X.xf, X.nv, rfl, ?_⟩
        refine ⟨_, hD', ?_, ?_, fun b o eb => ?_⟩
        · rw [List.length_replicate]
          exact Nat.lt_trans jl (by decide)
        · rw [← List.replicate_succ']
          exact upd_same
        · rw [upd_ne (ne_of_none eb hD)]
          exact s2 _ _ eb
      · rintro H2 ⟨hD', s2⟩
        rw [List.length_map, hl] at hD'
        have sA : Same Hq H2 := s.trans (s1.trans s2)
        have oA := o1q.keep (Keep.of sA)
        refine ⟨_, rfl, .ref D, .list (List.replicate 30 d1), rfl, .rep hD' oA.dp, f4, f5, by omega, ?_⟩
        refine ⟨_, rfl, q, _, _, _, rfl, rfl, SqL.of (sA _ _ hq), rfl, by show 1 ≤ sizeLine; decide, fun l1 hl1 => ?_⟩
        have t1 := Same.new (o := .lst [v1]) (Same.refl H2) hl1
        refine ⟨_, rfl, _, 30, rfl, .inl ⟨_, SqL.of (t1 _ _ hD'), by rw [List.length_replicate]⟩, ?_⟩
        refine ⟨l1, _, [v1], rfl, rfl, upd_same, by decide, by decide, by show 1 * 30 ≤ sizeLine; decide, fun l2 hl2 => ?_⟩
        have t2 := Same.new (o := .lst (List.replicate 30 v1)) (Same.refl _) hl2
        have sB := sA.trans (t1.trans t2)
        have oB := o1q.keep (Keep.of sB)
        refine ⟨.ref l2, .list (List.replicate 30 d1), rfl, .rep (n := 30) (v := v1) upd_same oB.dp, f4, f5, by omega, rfl, ?_⟩
        rw [decide_eq_true rfl]
        refine ⟨true, rfl, iteT ?_⟩
        refine ⟨_, rfl, q, _, _, _, rfl, rfl, SqL.of (sB _ _ hq), rfl, mk1 (T.ex 30 (by decide)) fun a30 G s30 e30 => ⟨rfl, ?_⟩⟩
        have X := T.ex 30 (by decide)
        have sC := sB.trans s30
        have oC := o1q.keep (Keep.of sC)
        refine ⟨a30, Z.c 30, _, v1, rfl, e30, X.xf, X.nv, rfl, v1, d1, rfl, .one oC.dp, f1, f2, by omega, ?_⟩
        refine ⟨_, rfl, q, _, _, _, rfl, rfl, SqL.of (sC _ _ hq), rfl, v1, d1, rfl, .one oC.dp, f1, f2, by omega, rfl, ?_⟩
        rw [decide_eq_true rfl]
        exact k n4 _ (by omega) (hpq.same sC) (kHq.same sC)
end
end TT

set_option Elab.async false
set_option linter.all false
set_option maxRecDepth 100000
set_option maxHeartbeats 4000000
namespace TT
open PySem PySem.Spec PyProof.Rows L2
def sp_law (K : PySem.W.Frag) : Sp := fun vs H Q _ => ∃ (a : Addr) (ns : List Int), vs = [.ref a] ∧ SqL K H a (ns.map V.int) ∧ ns.length ≤ 63 ∧ ∀ H', Q (.bl true) H'
theorem rg_item {m : Int} {i : Nat} {x : V} (h : (rgV 0 m)[i]? = some x) : ∃ z : Int, x = .int z ∧ 0 ≤ z ∧ z < m := by
  have := List.mem_of_getElem? h
  unfold rgV at this
  obtain ⟨j, hj, rfl⟩ := List.mem_map.mp this
  have := List.mem_range.mp hj
  exact ⟨0 + (j : Int), rfl, by omega, by omega⟩
theorem rg_len {m : Int} {i : Nat} {x : V} (h : (rgV 0 m)[i]? = some x) (hm : m ≤ 63) : i < 63 := by
  have := (List.getElem?_eq_some_iff.mp h).1
  unfold rgV at this
  rw [List.length_map, List.length_range] at this
  omega
section
variable {P : Program} {w : World} {K : PySem.W.Frag} {mg : Str → Option Value} {base : Heap} {Z : Zs}
theorem ok_law (T : Txt K mg Z) : GOk P w K mg base CX0 10 Z.f_law Z.d_law ["_law_script"] (sp_law K) := by
  refine okG T.F_law sc_law (fun vs H Q E h => ?_) (fun cdv A outer s H vs Q E g hr h => ?_)
  · obtain ⟨a, ns, rfl, _⟩ := h
    rfl
  · obtain ⟨a, ns, rfl, hS, hl, k⟩ := h
    refine ⟨_, (pss_one (ps_ret (pe_callB  (cr_all rfl) (by rfl) T.b_all (by decide +kernel) (pa_cons (pe_lc (own := [("_law_k", 1)]) rfl sc_law.nd (pi_list (pe_call (ok_l_cells T) (hr.mono (by decide)) rfl T.g_l_cells T.k_l_cells T.bn_l_cells .nil pass0 (pa_cons (pv 0) (pa_cons pe_int pa_nil)))) (blkOk_by (own := [("_law_k", 1)]) (N := ["_law_script", "_law_k"]) (sc := defScope s_law) (by decide +kernel)) (fun _ _ _ _ _ => (pg_name (i := 1) sc_law.nd rfl (Or.inl rfl))) (fun _ _ _ _ _ => pts_nil) (fun _ _ _ _ _ => (pe_callG (ok_l_right T) g (hr.mono (by decide)) rfl T.g_l_right T.k_l_right T.bn_l_right .nil pass0 (pa_cons (pe_call (ok_l_pot T) (hr.mono (by decide)) rfl T.g_l_pot T.k_l_pot T.bn_l_pot .nil pass0 (pa_cons (pv 0) (pa_cons (pv 1) pa_nil))) pa_nil)))) pa_nil)))), ?_⟩
    refine ⟨_, rfl, a, ns, 3, rfl, hS, hl, by decide, by decide, fun q m nq m1 m2 => ?_⟩
    have s0 := Same.new (o := .lst (rgV 0 m)) (Same.refl H) nq
    refine ⟨q, rfl, ⟨_, SqL.of upd_same⟩, fun D hD => ?_⟩
    refine lc_list (xs := rgV 0 m) (fun i H' => H' D = some (.lst (List.replicate i (.bl true))) ∧ Same (upd H q (.lst (rgV 0 m))) H') ⟨upd_same, Same.new (Same.refl _) hD⟩ (fun i H' _ h => SqL.of (h.2 _ _ upd_same)) ?_ ?_
    · rintro i x H1 hi ⟨hD', s1⟩
      have il := rg_len hi m2
      obtain ⟨z, rfl, z0, z1⟩ := rg_item hi
      refine ⟨rfl, ?_⟩
      unfold tYes
      refine iteT ?_
      refine ⟨_, rfl, _, rfl, a, ns, z, rfl, (s0.trans s1).seq hS, hl, z0, by omega, fun p H2 np s2 hp2 => ?_⟩
      refine ⟨p, 0, rfl, hp2, by decide, fun n2 H3 hn2 hp3 k3 => ?_⟩
      have nDp := ne_of_none hD' np
      refine ⟨_, k3 _ _ nDp (s2 _ _ hD'), ?_, ?_, fun b o e => ?_⟩
      · rw [List.length_replicate]
        exact Nat.lt_trans il (by decide)
      · rw [← List.replicate_succ']
        exact upd_same
      · have e1 := s1 _ _ e
        rw [upd_ne (ne_of_none e hD)]
        exact k3 _ _ (ne_of_none e1 np) (s2 _ _ e1)
    · rintro H' ⟨hD', s1⟩
      refine ⟨D, List.replicate (rgV 0 m).length true, rfl, SqL.of (by rw [List.map_replicate]; exact hD'), ?_⟩
      have e : (List.replicate (rgV 0 m).length true).all id = true := by simp
      rw [e]
      exact k H'
end
end TT

set_option Elab.async false
set_option linter.all false
set_option maxRecDepth 100000
set_option maxHeartbeats 8000000
namespace TT
open PySem PySem.Spec PyProof.Rows L2
structure ExcF (K : PySem.W.Frag) (cE fI C : Addr) : Prop where
  cls : ∃ nm q N bs sn sub ab col dd k0 k1 k2 k3 k5, K.lookup C = some (excClassObj nm q C N bs (chain cE C) true sn sub ab col dd k0 k1 k2 k3 k5 "ValueError.__new__")
  sa : PySem.W.findIn K (.ref C) "__setattr__" = some (some (.builtin "object.__setattr__"))
  tyC : PySem.W.typeIn K (.ref C) = some (.type "type")
  kC : PySem.W.keepIn K (.ref C) = true
  ga : PySem.W.findIn K (.ref C) "__getattribute__" = some (some (.builtin "BaseException.__getattribute__"))
  gg : PySem.W.findIn K (.ref C) "__getattr__" = some none
  ha : PySem.W.findIn K (.ref C) "__class__" = some (some (.builtin "object.__class__"))
  ini : PySem.W.findIn K (.ref C) "__init__" = some (some (.ref fI))
  nv : PySem.W.findIn K (.ref C) "value" = some none
theorem excF_mk {K : PySem.W.Frag} {cE fI C : Addr} {nm q : Str} {N : Addr} {bs bm : List Value} {sn : List Str} {sub : List Value} {ab : Bool} {col : Option Bool} {dd : Option Addr} {k0 k1 k2 k3 k5 : Option Value}
    (xL : K.lookup C = some (excClassObj nm q C N bs bm true sn sub ab col dd k0 k1 k2 k3 k5 "ValueError.__new__")) (hb : bm = chain cE C)
    (sa : PySem.W.findIn K (.ref C) "__setattr__" = some (some (.builtin "object.__setattr__"))) (tyC : PySem.W.typeIn K (.ref C) = some (.type "type")) (kC : PySem.W.keepIn K (.ref C) = true)
    (ga : PySem.W.findIn K (.ref C) "__getattribute__" = some (some (.builtin "BaseException.__getattribute__"))) (gg : PySem.W.findIn K (.ref C) "__getattr__" = some none)
    (ha : PySem.W.findIn K (.ref C) "__class__" = some (some (.builtin "object.__class__"))) (ini : PySem.W.findIn K (.ref C) "__init__" = some (some (.ref fI))) (nv : PySem.W.findIn K (.ref C) "value" = some none) : ExcF K cE fI C :=
  ⟨⟨nm, q, N, bs, sn, sub, ab, col, dd, k0, k1, k2, k3, k5, hb ▸ xL⟩, sa, tyC, kC, ga, gg, ha, ini, nv⟩
theorem chain_has (cE C : Addr) (b : Value) (h : b ∈ ([.type "ValueError", .type "Exception", .type "BaseException", .type "object"] : List Value)) : (Value.ref C :: chain cE C).contains b = true := by
  rw [List.contains_iff_mem]
  exact List.mem_cons_of_mem _ (List.mem_append_right _ h)
theorem ExcF.all {K : PySem.W.Frag} {cE fI C : Addr} (a : ExcF K cE fI C) (zget : PySem.W.specialIn K (.builtin "object.__class__") "__get__" = some (some (.builtin "getset_descriptor.__get__"))) (ztk : PySem.W.takesIn K (.builtin "object.__class__") = some true) : ExcT K cE fI C := by
  obtain ⟨nm, q, N, bs, sn, sb, ab, col, dd, k0, k1, k2, k3, k5, xL⟩ := a.cls
  have cl : PySem.W.clsIn K C = some { name := nm, bases := bs, mro := Value.ref C :: chain cE C, ns := N, qualname := q, hasDict := true, slotNames := sn, subclasses := sb, abstract := ab, collection := col } := by
    unfold PySem.W.clsIn
    rw [xL]
  have sub : ∀ b, PySem.W.subIn K (.ref C) b = some ((Value.ref C :: chain cE C).contains b) := fun b => by
    unfold PySem.W.subIn
    dsimp only
    unfold PySem.W.mroIn
    rw [cl]
    rfl
  have hd : PySem.W.hasDictIn K C = true := by
    unfold PySem.W.hasDictIn
    rw [cl]
    rfl
  have be : PySem.W.subIn K (.ref C) (.type "BaseException") = some true := by rw [sub, chain_has cE C _ (by simp)]
  have ob : PySem.W.subIn K (.ref C) (.type "object") = some true := by rw [sub, chain_has cE C _ (by simp)]
  exact {
    ox := ⟨⟨nm, q, N, bs, _, sn, sb, ab, col, dd, k0, k1, k2, k3, k5, xL, by
      unfold chain
      by_cases c : C = cE
      · rw [if_pos c]
        decide +kernel
      · rw [if_neg c]
        rfl⟩, a.sa, be, a.tyC, a.kC⟩
    xf := ⟨a.ga, a.gg, be, hd⟩
    ec := ⟨a.ga, a.gg, be, hd, a.ha, zget, ztk, ob⟩
    ini := a.ini
    nv := a.nv
    sub := sub
    is := by rw [cl, a.tyC] <;> rfl }
theorem nd_at {l : List Addr} (h : l.Nodup) {i j : Nat} (hi : i < l.length) (hj : j < l.length) (e : l.getD i 0 = l.getD j 0) : i = j := by
  rw [List.getD_eq_getElem?_getD, List.getD_eq_getElem?_getD, List.getElem?_eq_getElem hi, List.getElem?_eq_getElem hj] at e
  have pw := List.pairwise_iff_getElem.mp h
  have e' : l[i] = l[j] := e
  rcases Nat.lt_trichotomy i j with c | c | c
  · exact absurd e' (pw i j hi hj c)
  · exact c
  · exact absurd e'.symm (pw j i hj hi c)
theorem all_mk {l : PySem.W.OpenLaw} {w : World} {K : PySem.W.Frag} {h : Heap} {mg : Str → Option Value} {fa c0 c1 c2 c3 c4 c5 c6 c7 c8 c9 c10 c11 c12 c13 c14 c15 c16 c17 c18 c19 c20 c21 c22 c23 c24 c25 c26 c27 c28 c29 c30 f0 f1 f2 f3 f4 f5 f6 f7 f8 f9 : Addr} (X : K.In h) (G : h.Ns mainGlobals mg) (hfa : mg "law" = some (.ref fa))
    {od0 an0 od1 an1 od2 an2 od3 an3 od4 an4 od5 an5 od6 an6 od7 an7 od8 an8 od9 an9 : Option Addr} {sl0 sl1 sl2 sl3 sl4 sl5 sl6 sl7 sl8 sl9 : Array (Option Value)} {oc0 kV0 dc0 pm0 cd0 ct0 oc1 kV1 dc1 pm1 cd1 ct1 oc2 kV2 dc2 pm2 cd2 ct2 oc3 kV3 dc3 pm3 cd3 ct3 oc4 kV4 dc4 pm4 cd4 ct4 oc5 kV5 dc5 pm5 cd5 ct5 oc6 kV6 dc6 pm6 cd6 ct6 oc7 kV7 dc7 pm7 cd7 ct7 oc8 kV8 dc8 pm8 cd8 ct8 oc9 kV9 dc9 pm9 cd9 ct9 : Value}
    (g0 : PySem.W.nsIn K mainGlobals "BadPlace" = some (some (.ref c0)))
    (g1 : PySem.W.nsIn K mainGlobals "BadLength" = some (some (.ref c1)))
    (g2 : PySem.W.nsIn K mainGlobals "BadAmount" = some (some (.ref c2)))
    (g3 : PySem.W.nsIn K mainGlobals "BadWay" = some (some (.ref c3)))
    (g4 : PySem.W.nsIn K mainGlobals "BadText" = some (some (.ref c4)))
    (g5 : PySem.W.nsIn K mainGlobals "NoPlace" = some (some (.ref c5)))
    (g6 : PySem.W.nsIn K mainGlobals "BadNote" = some (some (.ref c6)))
    (g7 : PySem.W.nsIn K mainGlobals "BadPart" = some (some (.ref c7)))
    (g8 : PySem.W.nsIn K mainGlobals "NoJoint" = some (some (.ref c8)))
    (g9 : PySem.W.nsIn K mainGlobals "BadNumber" = some (some (.ref c9)))
    (g10 : PySem.W.nsIn K mainGlobals "BadBook" = some (some (.ref c10)))
    (g11 : PySem.W.nsIn K mainGlobals "NoTie" = some (some (.ref c11)))
    (g12 : PySem.W.nsIn K mainGlobals "BadTie" = some (some (.ref c12)))
    (g13 : PySem.W.nsIn K mainGlobals "Full" = some (some (.ref c13)))
    (g14 : PySem.W.nsIn K mainGlobals "OtherSize" = some (some (.ref c14)))
    (g15 : PySem.W.nsIn K mainGlobals "OtherNote" = some (some (.ref c15)))
    (g16 : PySem.W.nsIn K mainGlobals "BadSize" = some (some (.ref c16)))
    (g17 : PySem.W.nsIn K mainGlobals "Clash" = some (some (.ref c17)))
    (g18 : PySem.W.nsIn K mainGlobals "BadPieces" = some (some (.ref c18)))
    (g19 : PySem.W.nsIn K mainGlobals "IsTold" = some (some (.ref c19)))
    (g20 : PySem.W.nsIn K mainGlobals "NoNumber" = some (some (.ref c20)))
    (g21 : PySem.W.nsIn K mainGlobals "BadBounds" = some (some (.ref c21)))
    (g22 : PySem.W.nsIn K mainGlobals "NoRoom" = some (some (.ref c22)))
    (g23 : PySem.W.nsIn K mainGlobals "BadOffers" = some (some (.ref c23)))
    (g24 : PySem.W.nsIn K mainGlobals "BadWishes" = some (some (.ref c24)))
    (g25 : PySem.W.nsIn K mainGlobals "NothingToUndo" = some (some (.ref c25)))
    (g26 : PySem.W.nsIn K mainGlobals "NothingToRedo" = some (some (.ref c26)))
    (g27 : PySem.W.nsIn K mainGlobals "NoTrial" = some (some (.ref c27)))
    (g28 : PySem.W.nsIn K mainGlobals "BadJournal" = some (some (.ref c28)))
    (g29 : PySem.W.nsIn K mainGlobals "BadLine" = some (some (.ref c29)))
    (g30 : PySem.W.nsIn K mainGlobals "TuneError" = some (some (.ref c30)))
    (hin : PySem.W.findIn K (.ref c30) "__init__" = some (some (.ref f0)))
    (i0 : PySem.W.isFn K (.ref f0) = true)
    (l0 : K.lookup f0 = some ⟨oc0, od0, .func (PySem.W.fnOf "__init__" "TuneError.__init__" (defArgs s_E_init) (defBody s_E_init) (defScope s_E_init) .none kV0 dc0 pm0 an0 cd0 ct0), sl0⟩)
    (d0 : PySem.W.codeIn K cd0 "TuneError.__init__" = true)
    (k0 : PySem.W.keepIn K (.ref f0) = true)
    (a1 : PySem.W.nsIn K mainGlobals "_law_pot" = some (some (.ref f1)))
    (l1 : K.lookup f1 = some ⟨oc1, od1, .func (PySem.W.fnOf "_law_pot" "_law_pot" (defArgs s_l_pot) (defBody s_l_pot) (defScope s_l_pot) .none kV1 dc1 pm1 an1 cd1 ct1), sl1⟩)
    (d1 : PySem.W.codeIn K cd1 "_law_pot" = true)
    (k1 : PySem.W.keepIn K (.ref f1) = true)
    (a2 : PySem.W.nsIn K mainGlobals "_law_take" = some (some (.ref f2)))
    (l2 : K.lookup f2 = some ⟨oc2, od2, .func (PySem.W.fnOf "_law_take" "_law_take" (defArgs s_l_take) (defBody s_l_take) (defScope s_l_take) .none kV2 dc2 pm2 an2 cd2 ct2), sl2⟩)
    (d2 : PySem.W.codeIn K cd2 "_law_take" = true)
    (k2 : PySem.W.keepIn K (.ref f2) = true)
    (a3 : PySem.W.nsIn K mainGlobals "_law_of" = some (some (.ref f3)))
    (l3 : K.lookup f3 = some ⟨oc3, od3, .func (PySem.W.fnOf "_law_of" "_law_of" (defArgs s_l_of) (defBody s_l_of) (defScope s_l_of) .none kV3 dc3 pm3 an3 cd3 ct3), sl3⟩)
    (d3 : PySem.W.codeIn K cd3 "_law_of" = true)
    (k3 : PySem.W.keepIn K (.ref f3) = true)
    (a4 : PySem.W.nsIn K mainGlobals "_law_cells" = some (some (.ref f4)))
    (l4 : K.lookup f4 = some ⟨oc4, od4, .func (PySem.W.fnOf "_law_cells" "_law_cells" (defArgs s_l_cells) (defBody s_l_cells) (defScope s_l_cells) .none kV4 dc4 pm4 an4 cd4 ct4), sl4⟩)
    (d4 : PySem.W.codeIn K cd4 "_law_cells" = true)
    (k4 : PySem.W.keepIn K (.ref f4) = true)
    (a5 : PySem.W.nsIn K mainGlobals "_law_odd" = some (some (.ref f5)))
    (l5 : K.lookup f5 = some ⟨oc5, od5, .func (PySem.W.fnOf "_law_odd" "_law_odd" (defArgs s_l_odd) (defBody s_l_odd) (defScope s_l_odd) .none kV5 dc5 pm5 an5 cd5 ct5), sl5⟩)
    (d5 : PySem.W.codeIn K cd5 "_law_odd" = true)
    (k5 : PySem.W.keepIn K (.ref f5) = true)
    (a6 : PySem.W.nsIn K mainGlobals "_law_all_of" = some (some (.ref f6)))
    (l6 : K.lookup f6 = some ⟨oc6, od6, .func (PySem.W.fnOf "_law_all_of" "_law_all_of" (defArgs s_l_all_of) (defBody s_l_all_of) (defScope s_l_all_of) .none kV6 dc6 pm6 an6 cd6 ct6), sl6⟩)
    (d6 : PySem.W.codeIn K cd6 "_law_all_of" = true)
    (k6 : PySem.W.keepIn K (.ref f6) = true)
    (a7 : PySem.W.nsIn K mainGlobals "_law_kinds_of" = some (some (.ref f7)))
    (l7 : K.lookup f7 = some ⟨oc7, od7, .func (PySem.W.fnOf "_law_kinds_of" "_law_kinds_of" (defArgs s_l_kinds_of) (defBody s_l_kinds_of) (defScope s_l_kinds_of) .none kV7 dc7 pm7 an7 cd7 ct7), sl7⟩)
    (d7 : PySem.W.codeIn K cd7 "_law_kinds_of" = true)
    (k7 : PySem.W.keepIn K (.ref f7) = true)
    (a8 : PySem.W.nsIn K mainGlobals "_law_right" = some (some (.ref f8)))
    (l8 : K.lookup f8 = some ⟨oc8, od8, .func (PySem.W.fnOf "_law_right" "_law_right" (defArgs s_l_right) (defBody s_l_right) (defScope s_l_right) .none kV8 dc8 pm8 an8 cd8 ct8), sl8⟩)
    (d8 : PySem.W.codeIn K cd8 "_law_right" = true)
    (k8 : PySem.W.keepIn K (.ref f8) = true)
    (a9 : PySem.W.nsIn K mainGlobals "law" = some (some (.ref f9)))
    (l9 : K.lookup f9 = some ⟨oc9, od9, .func (PySem.W.fnOf "law" "law" (defArgs s_law) (defBody s_law) (defScope s_law) .none kV9 dc9 pm9 an9 cd9 ct9), sl9⟩)
    (d9 : PySem.W.codeIn K cd9 "law" = true)
    (k9 : PySem.W.keepIn K (.ref f9) = true)
    (b_int : PySem.W.nsIn K mainGlobals "int" = some none)
    (b_len : PySem.W.nsIn K mainGlobals "len" = some none)
    (b_abs : PySem.W.nsIn K mainGlobals "abs" = some none)
    (b_list : PySem.W.nsIn K mainGlobals "list" = some none)
    (b_range : PySem.W.nsIn K mainGlobals "range" = some none)
    (b_max : PySem.W.nsIn K mainGlobals "max" = some none)
    (b_min : PySem.W.nsIn K mainGlobals "min" = some none)
    (b_isinstance : PySem.W.nsIn K mainGlobals "isinstance" = some none)
    (b_enumerate : PySem.W.nsIn K mainGlobals "enumerate" = some none)
    (b_all : PySem.W.nsIn K mainGlobals "all" = some none)
    (b_repr : PySem.W.nsIn K mainGlobals "repr" = some none)
    (b_ValueError : PySem.W.nsIn K mainGlobals "ValueError" = some none)
    (zve : PySem.W.findCls K (.type "ValueError") (.type "type") "__init__" = some (.val (.builtin "ValueError.__init__")))
    (tin : PySem.W.typeIn K (.ref f0) = some (.type "function"))
    (zget : PySem.W.specialIn K (.builtin "object.__class__") "__get__" = some (some (.builtin "getset_descriptor.__get__")))
    (ztk : PySem.W.takesIn K (.builtin "object.__class__") = some true)
    (e0 : ExcF K c30 f0 c0)
    (e1 : ExcF K c30 f0 c1)
    (e2 : ExcF K c30 f0 c2)
    (e3 : ExcF K c30 f0 c3)
    (e4 : ExcF K c30 f0 c4)
    (e5 : ExcF K c30 f0 c5)
    (e6 : ExcF K c30 f0 c6)
    (e7 : ExcF K c30 f0 c7)
    (e8 : ExcF K c30 f0 c8)
    (e9 : ExcF K c30 f0 c9)
    (e10 : ExcF K c30 f0 c10)
    (e11 : ExcF K c30 f0 c11)
    (e12 : ExcF K c30 f0 c12)
    (e13 : ExcF K c30 f0 c13)
    (e14 : ExcF K c30 f0 c14)
    (e15 : ExcF K c30 f0 c15)
    (e16 : ExcF K c30 f0 c16)
    (e17 : ExcF K c30 f0 c17)
    (e18 : ExcF K c30 f0 c18)
    (e19 : ExcF K c30 f0 c19)
    (e20 : ExcF K c30 f0 c20)
    (e21 : ExcF K c30 f0 c21)
    (e22 : ExcF K c30 f0 c22)
    (e23 : ExcF K c30 f0 c23)
    (e24 : ExcF K c30 f0 c24)
    (e25 : ExcF K c30 f0 c25)
    (e26 : ExcF K c30 f0 c26)
    (e27 : ExcF K c30 f0 c27)
    (e28 : ExcF K c30 f0 c28)
    (e29 : ExcF K c30 f0 c29)
    (e30 : ExcF K c30 f0 c30)
    (nd : ([c0, c1, c2, c3, c4, c5, c6, c7, c8, c9, c10, c11, c12, c13, c14, c15, c16, c17, c18, c19, c20, c21, c22, c23, c24, c25, c26, c27, c28, c29, c30] : List Addr).Nodup) :
    ∃ fd : FuncData, (∀ (s : Shared) (v : Value), BindsTo s fd ⟨[v], []⟩ [("_law_script", v)]) ∧ ∀ base : Heap, K.In base → base.Ns mainGlobals mg → GOk l.prog w K mg base CX0 10 fa fd ["_law_script"] (sp_law K) := by
  have e := hfa.symm.trans (PySem.W.mg_of X G a9)
  cases e
  have F0 := fun_mk (st := s_E_init) l0 d0 k0
  have F1 := fun_mk (st := s_l_pot) l1 d1 k1
  have F2 := fun_mk (st := s_l_take) l2 d2 k2
  have F3 := fun_mk (st := s_l_of) l3 d3 k3
  have F4 := fun_mk (st := s_l_cells) l4 d4 k4
  have F5 := fun_mk (st := s_l_odd) l5 d5 k5
  have F6 := fun_mk (st := s_l_all_of) l6 d6 k6
  have F7 := fun_mk (st := s_l_kinds_of) l7 d7 k7
  have F8 := fun_mk (st := s_l_right) l8 d8 k8
  have F9 := fun_mk (st := s_law) l9 d9 k9
  have cs_all : ∀ i, i < 31 → ExcT K c30 f0 (([c0, c1, c2, c3, c4, c5, c6, c7, c8, c9, c10, c11, c12, c13, c14, c15, c16, c17, c18, c19, c20, c21, c22, c23, c24, c25, c26, c27, c28, c29, c30] : List Addr).getD i 0) := fun i hi => match i, hi with
    | 0, _ => e0.all zget ztk
    | 1, _ => e1.all zget ztk
    | 2, _ => e2.all zget ztk
    | 3, _ => e3.all zget ztk
    | 4, _ => e4.all zget ztk
    | 5, _ => e5.all zget ztk
    | 6, _ => e6.all zget ztk
    | 7, _ => e7.all zget ztk
    | 8, _ => e8.all zget ztk
    | 9, _ => e9.all zget ztk
    | 10, _ => e10.all zget ztk
    | 11, _ => e11.all zget ztk
    | 12, _ => e12.all zget ztk
    | 13, _ => e13.all zget ztk
    | 14, _ => e14.all zget ztk
    | 15, _ => e15.all zget ztk
    | 16, _ => e16.all zget ztk
    | 17, _ => e17.all zget ztk
    | 18, _ => e18.all zget ztk
    | 19, _ => e19.all zget ztk
    | 20, _ => e20.all zget ztk
    | 21, _ => e21.all zget ztk
    | 22, _ => e22.all zget ztk
    | 23, _ => e23.all zget ztk
    | 24, _ => e24.all zget ztk
    | 25, _ => e25.all zget ztk
    | 26, _ => e26.all zget ztk
    | 27, _ => e27.all zget ztk
    | 28, _ => e28.all zget ztk
    | 29, _ => e29.all zget ztk
    | 30, _ => e30.all zget ztk
    | i + 31, h => absurd h (by omega)
  have T : Txt K mg { c := fun i => ([c0, c1, c2, c3, c4, c5, c6, c7, c8, c9, c10, c11, c12, c13, c14, c15, c16, c17, c18, c19, c20, c21, c22, c23, c24, c25, c26, c27, c28, c29, c30] : List Addr).getD i 0, f_E_init := f0, d_E_init := PySem.W.fnOf "__init__" "TuneError.__init__" (defArgs s_E_init) (defBody s_E_init) (defScope s_E_init) .none kV0 dc0 pm0 an0 cd0 ct0, f_l_pot := f1, d_l_pot := PySem.W.fnOf "_law_pot" "_law_pot" (defArgs s_l_pot) (defBody s_l_pot) (defScope s_l_pot) .none kV1 dc1 pm1 an1 cd1 ct1, f_l_take := f2, d_l_take := PySem.W.fnOf "_law_take" "_law_take" (defArgs s_l_take) (defBody s_l_take) (defScope s_l_take) .none kV2 dc2 pm2 an2 cd2 ct2, f_l_of := f3, d_l_of := PySem.W.fnOf "_law_of" "_law_of" (defArgs s_l_of) (defBody s_l_of) (defScope s_l_of) .none kV3 dc3 pm3 an3 cd3 ct3, f_l_cells := f4, d_l_cells := PySem.W.fnOf "_law_cells" "_law_cells" (defArgs s_l_cells) (defBody s_l_cells) (defScope s_l_cells) .none kV4 dc4 pm4 an4 cd4 ct4, f_l_odd := f5, d_l_odd := PySem.W.fnOf "_law_odd" "_law_odd" (defArgs s_l_odd) (defBody s_l_odd) (defScope s_l_odd) .none kV5 dc5 pm5 an5 cd5 ct5, f_l_all_of := f6, d_l_all_of := PySem.W.fnOf "_law_all_of" "_law_all_of" (defArgs s_l_all_of) (defBody s_l_all_of) (defScope s_l_all_of) .none kV6 dc6 pm6 an6 cd6 ct6, f_l_kinds_of := f7, d_l_kinds_of := PySem.W.fnOf "_law_kinds_of" "_law_kinds_of" (defArgs s_l_kinds_of) (defBody s_l_kinds_of) (defScope s_l_kinds_of) .none kV7 dc7 pm7 an7 cd7 ct7, f_l_right := f8, d_l_right := PySem.W.fnOf "_law_right" "_law_right" (defArgs s_l_right) (defBody s_l_right) (defScope s_l_right) .none kV8 dc8 pm8 an8 cd8 ct8, f_law := fa, d_law := PySem.W.fnOf "law" "law" (defArgs s_law) (defBody s_law) (defScope s_law) .none kV9 dc9 pm9 an9 cd9 ct9 } := { g_BadPlace := PySem.W.mg_of X G g0, g_BadLength := PySem.W.mg_of X G g1, g_BadAmount := PySem.W.mg_of X G g2, g_BadWay := PySem.W.mg_of X G g3, g_BadText := PySem.W.mg_of X G g4, g_NoPlace := PySem.W.mg_of X G g5, g_BadNote := PySem.W.mg_of X G g6, g_BadPart := PySem.W.mg_of X G g7, g_NoJoint := PySem.W.mg_of X G g8, g_BadNumber := PySem.W.mg_of X G g9, g_BadBook := PySem.W.mg_of X G g10, g_NoTie := PySem.W.mg_of X G g11, g_BadTie := PySem.W.mg_of X G g12, g_Full := PySem.W.mg_of X G g13, g_OtherSize := PySem.W.mg_of X G g14, g_OtherNote := PySem.W.mg_of X G g15, g_BadSize := PySem.W.mg_of X G g16, g_Clash := PySem.W.mg_of X G g17, g_BadPieces := PySem.W.mg_of X G g18, g_IsTold := PySem.W.mg_of X G g19, g_NoNumber := PySem.W.mg_of X G g20, g_BadBounds := PySem.W.mg_of X G g21, g_NoRoom := PySem.W.mg_of X G g22, g_BadOffers := PySem.W.mg_of X G g23, g_BadWishes := PySem.W.mg_of X G g24, g_NothingToUndo := PySem.W.mg_of X G g25, g_NothingToRedo := PySem.W.mg_of X G g26, g_NoTrial := PySem.W.mg_of X G g27, g_BadJournal := PySem.W.mg_of X G g28, g_BadLine := PySem.W.mg_of X G g29, g_TuneError := PySem.W.mg_of X G g30, F_E_init := F0, bn_E_init := F0.binds (ps := ["self", "value"]) fun _ _ _ _ _ _ us hl => match us, hl with | [_, _], _ => rfl, k_E_init := k0, i_E_init := i0, F_l_pot := F1, bn_l_pot := F1.binds (ps := ["_law_script", "_law_k"]) fun _ _ _ _ _ _ us hl => match us, hl with | [_, _], _ => rfl, k_l_pot := k1, g_l_pot := PySem.W.mg_of X G a1, F_l_take := F2, bn_l_take := F2.binds (ps := ["_law_pot_here", "_law_under"]) fun _ _ _ _ _ _ us hl => match us, hl with | [_, _], _ => rfl, k_l_take := k2, g_l_take := PySem.W.mg_of X G a2, F_l_of := F3, bn_l_of := F3.binds (ps := ["_law_pot_here", "_law_some"]) fun _ _ _ _ _ _ us hl => match us, hl with | [_, _], _ => rfl, k_l_of := k3, g_l_of := PySem.W.mg_of X G a3, F_l_cells := F4, bn_l_cells := F4.binds (ps := ["_law_script", "_law_most"]) fun _ _ _ _ _ _ us hl => match us, hl with | [_, _], _ => rfl, k_l_cells := k4, g_l_cells := PySem.W.mg_of X G a4, F_l_odd := F5, bn_l_odd := F5.binds (ps := ["_law_pot_here"]) fun _ _ _ _ _ _ us hl => match us, hl with | [_], _ => rfl, k_l_odd := k5, g_l_odd := PySem.W.mg_of X G a5, F_l_all_of := F6, bn_l_all_of := F6.binds (ps := ["_law_one"]) fun _ _ _ _ _ _ us hl => match us, hl with | [_], _ => rfl, k_l_all_of := k6, g_l_all_of := PySem.W.mg_of X G a6, F_l_kinds_of := F7, bn_l_kinds_of := F7.binds (ps := ["_law_error"]) fun _ _ _ _ _ _ us hl => match us, hl with | [_], _ => rfl, k_l_kinds_of := k7, g_l_kinds_of := PySem.W.mg_of X G a7, F_l_right := F8, bn_l_right := F8.binds (ps := ["_law_pot_here"]) fun _ _ _ _ _ _ us hl => match us, hl with | [_], _ => rfl, k_l_right := k8, g_l_right := PySem.W.mg_of X G a8, F_law := F9, bn_law := F9.binds (ps := ["_law_script"]) fun _ _ _ _ _ _ us hl => match us, hl with | [_], _ => rfl, k_law := k9, g_law := PySem.W.mg_of X G a9, b_int := PySem.W.mg_none_of X G b_int, b_len := PySem.W.mg_none_of X G b_len, b_abs := PySem.W.mg_none_of X G b_abs, b_list := PySem.W.mg_none_of X G b_list, b_range := PySem.W.mg_none_of X G b_range, b_max := PySem.W.mg_none_of X G b_max, b_min := PySem.W.mg_none_of X G b_min, b_isinstance := PySem.W.mg_none_of X G b_isinstance, b_enumerate := PySem.W.mg_none_of X G b_enumerate, b_all := PySem.W.mg_none_of X G b_all, b_repr := PySem.W.mg_none_of X G b_repr, b_ValueError := PySem.W.mg_none_of X G b_ValueError, z_ve := zve, t_E_init := tin, ex := fun i hi => cs_all i hi, nd := fun i j hi hj e => nd_at nd (by simpa using hi) (by simpa using hj) e }
  exact ⟨_, fun s v => .of_eq rfl, fun base _ _ => ok_law T⟩
end TT

set_option Elab.async false
set_option linter.all false
open PySem PySem.W PyProof.Rows
set_option maxRecDepth 100000 in
set_option maxHeartbeats 0 in
theorem PySem.Challenge.cw_turnedtunes_k00_errors_keep_their_value_holds : PySem.Challenge.rw_turnedtunes_k00_errors_keep_their_value.Holds := by
  w_on; o_law; k_head; (case hw => w_witness2)
  k_fill
  refine TT.walk_g (n := 63) (k := 10) (x := "_law_script") (CX := L2.CX0) (sp := TT.sp_law) (l := PySem.Challenge.rw_turnedtunes_k00_errors_keep_their_value) rfl (by decide) rfl ⟨rfl, by decide, by decide⟩ (fun w h Y => PySem.W.kIn_of Y) ?F (fun K H a ns hl hS => ⟨a, ns, rfl, hS, hl, fun _ => rfl⟩) (fun _ _ _ _ z => z)
  case F =>
    intro w mg fa h KX G hmg
    refine' TT.all_mk KX G hmg ?zz_g0 ?zz_g1 ?zz_g2 ?zz_g3 ?zz_g4 ?zz_g5 ?zz_g6 ?zz_g7 ?zz_g8 ?zz_g9 ?zz_g10 ?zz_g11 ?zz_g12 ?zz_g13 ?zz_g14 ?zz_g15 ?zz_g16 ?zz_g17 ?zz_g18 ?zz_g19 ?zz_g20 ?zz_g21 ?zz_g22 ?zz_g23 ?zz_g24 ?zz_g25 ?zz_g26 ?zz_g27 ?zz_g28 ?zz_g29 ?zz_g30 ?zz_hin ?zz_i0 ?zz_l0 ?zz_d0 ?zz_k0 ?zz_a1 ?zz_l1 ?zz_d1 ?zz_k1 ?zz_a2 ?zz_l2 ?zz_d2 ?zz_k2 ?zz_a3 ?zz_l3 ?zz_d3 ?zz_k3 ?zz_a4 ?zz_l4 ?zz_d4 ?zz_k4 ?zz_a5 ?zz_l5 ?zz_d5 ?zz_k5 ?zz_a6 ?zz_l6 ?zz_d6 ?zz_k6 ?zz_a7 ?zz_l7 ?zz_d7 ?zz_k7 ?zz_a8 ?zz_l8 ?zz_d8 ?zz_k8 ?zz_a9 ?zz_l9 ?zz_d9 ?zz_k9 ?zz_b_int ?zz_b_len ?zz_b_abs ?zz_b_list ?zz_b_range ?zz_b_max ?zz_b_min ?zz_b_isinstance ?zz_b_enumerate ?zz_b_all ?zz_b_repr ?zz_b_ValueError ?zz_zve ?zz_tin ?zz_zget ?zz_ztk ?zz_e0 ?zz_e1 ?zz_e2 ?zz_e3 ?zz_e4 ?zz_e5 ?zz_e6 ?zz_e7 ?zz_e8 ?zz_e9 ?zz_e10 ?zz_e11 ?zz_e12 ?zz_e13 ?zz_e14 ?zz_e15 ?zz_e16 ?zz_e17 ?zz_e18 ?zz_e19 ?zz_e20 ?zz_e21 ?zz_e22 ?zz_e23 ?zz_e24 ?zz_e25 ?zz_e26 ?zz_e27 ?zz_e28 ?zz_e29 ?zz_e30 ?zz_nd
    (case zz_g0 => k_is)
    (case zz_g1 => k_is)
    (case zz_g2 => k_is)
    (case zz_g3 => k_is)
    (case zz_g4 => k_is)
    (case zz_g5 => k_is)
    (case zz_g6 => k_is)
    (case zz_g7 => k_is)
    (case zz_g8 => k_is)
    (case zz_g9 => k_is)
    (case zz_g10 => k_is)
    (case zz_g11 => k_is)
    (case zz_g12 => k_is)
    (case zz_g13 => k_is)
    (case zz_g14 => k_is)
    (case zz_g15 => k_is)
    (case zz_g16 => k_is)
    (case zz_g17 => k_is)
    (case zz_g18 => k_is)
    (case zz_g19 => k_is)
    (case zz_g20 => k_is)
    (case zz_g21 => k_is)
    (case zz_g22 => k_is)
    (case zz_g23 => k_is)
    (case zz_g24 => k_is)
    (case zz_g25 => k_is)
    (case zz_g26 => k_is)
    (case zz_g27 => k_is)
    (case zz_g28 => k_is)
    (case zz_g29 => k_is)
    (case zz_g30 => k_is)
    (case zz_hin => k_is)
    (case zz_i0 => k_is)
    (case zz_l0 => k_is)
    (case zz_d0 => k_is)
    (case zz_k0 => k_is)
    (case zz_a1 => k_is)
    (case zz_l1 => k_is)
    (case zz_d1 => k_is)
    (case zz_k1 => k_is)
    (case zz_a2 => k_is)
    (case zz_l2 => k_is)
    (case zz_d2 => k_is)
    (case zz_k2 => k_is)
    (case zz_a3 => k_is)
    (case zz_l3 => k_is)
    (case zz_d3 => k_is)
    (case zz_k3 => k_is)
    (case zz_a4 => k_is)
    (case zz_l4 => k_is)
    (case zz_d4 => k_is)
    (case zz_k4 => k_is)
    (case zz_a5 => k_is)
    (case zz_l5 => k_is)
    (case zz_d5 => k_is)
    (case zz_k5 => k_is)
    (case zz_a6 => k_is)
    (case zz_l6 => k_is)
    (case zz_d6 => k_is)
    (case zz_k6 => k_is)
    (case zz_a7 => k_is)
    (case zz_l7 => k_is)
    (case zz_d7 => k_is)
    (case zz_k7 => k_is)
    (case zz_a8 => k_is)
    (case zz_l8 => k_is)
    (case zz_d8 => k_is)
    (case zz_k8 => k_is)
    (case zz_a9 => k_is)
    (case zz_l9 => k_is)
    (case zz_d9 => k_is)
    (case zz_k9 => k_is)
    (case zz_b_int => k_is)
    (case zz_b_len => k_is)
    (case zz_b_abs => k_is)
    (case zz_b_list => k_is)
    (case zz_b_range => k_is)
    (case zz_b_max => k_is)
    (case zz_b_min => k_is)
    (case zz_b_isinstance => k_is)
    (case zz_b_enumerate => k_is)
    (case zz_b_all => k_is)
    (case zz_b_repr => k_is)
    (case zz_b_ValueError => k_is)
    (case zz_zve => k_is)
    (case zz_tin => k_is)
    (case zz_zget => k_is)
    (case zz_ztk => k_is)
    (case zz_e0 => (refine' TT.excF_mk ?zx0_xL rfl ?zx0_sa ?zx0_tyC ?zx0_kC ?zx0_ga ?zx0_gg ?zx0_ha ?zx0_ini ?zx0_nv; (case zx0_xL => k_is); (case zx0_sa => k_is); (case zx0_tyC => k_is); (case zx0_kC => k_is); (case zx0_ga => k_is); (case zx0_gg => k_is); (case zx0_ha => k_is); (case zx0_ini => k_is); (case zx0_nv => k_is)))
    (case zz_e1 => (refine' TT.excF_mk ?zx1_xL rfl ?zx1_sa ?zx1_tyC ?zx1_kC ?zx1_ga ?zx1_gg ?zx1_ha ?zx1_ini ?zx1_nv; (case zx1_xL => k_is); (case zx1_sa => k_is); (case zx1_tyC => k_is); (case zx1_kC => k_is); (case zx1_ga => k_is); (case zx1_gg => k_is); (case zx1_ha => k_is); (case zx1_ini => k_is); (case zx1_nv => k_is)))
    (case zz_e2 => (refine' TT.excF_mk ?zx2_xL rfl ?zx2_sa ?zx2_tyC ?zx2_kC ?zx2_ga ?zx2_gg ?zx2_ha ?zx2_ini ?zx2_nv; (case zx2_xL => k_is); (case zx2_sa => k_is); (case zx2_tyC => k_is); (case zx2_kC => k_is); (case zx2_ga => k_is); (case zx2_gg => k_is); (case zx2_ha => k_is); (case zx2_ini => k_is); (case zx2_nv => k_is)))
    (case zz_e3 => (refine' TT.excF_mk ?zx3_xL rfl ?zx3_sa ?zx3_tyC ?zx3_kC ?zx3_ga ?zx3_gg ?zx3_ha ?zx3_ini ?zx3_nv; (case zx3_xL => k_is); (case zx3_sa => k_is); (case zx3_tyC => k_is); (case zx3_kC => k_is); (case zx3_ga => k_is); (case zx3_gg => k_is); (case zx3_ha => k_is); (case zx3_ini => k_is); (case zx3_nv => k_is)))
    (case zz_e4 => (refine' TT.excF_mk ?zx4_xL rfl ?zx4_sa ?zx4_tyC ?zx4_kC ?zx4_ga ?zx4_gg ?zx4_ha ?zx4_ini ?zx4_nv; (case zx4_xL => k_is); (case zx4_sa => k_is); (case zx4_tyC => k_is); (case zx4_kC => k_is); (case zx4_ga => k_is); (case zx4_gg => k_is); (case zx4_ha => k_is); (case zx4_ini => k_is); (case zx4_nv => k_is)))
    (case zz_e5 => (refine' TT.excF_mk ?zx5_xL rfl ?zx5_sa ?zx5_tyC ?zx5_kC ?zx5_ga ?zx5_gg ?zx5_ha ?zx5_ini ?zx5_nv; (case zx5_xL => k_is); (case zx5_sa => k_is); (case zx5_tyC => k_is); (case zx5_kC => k_is); (case zx5_ga => k_is); (case zx5_gg => k_is); (case zx5_ha => k_is); (case zx5_ini => k_is); (case zx5_nv => k_is)))
    (case zz_e6 => (refine' TT.excF_mk ?zx6_xL rfl ?zx6_sa ?zx6_tyC ?zx6_kC ?zx6_ga ?zx6_gg ?zx6_ha ?zx6_ini ?zx6_nv; (case zx6_xL => k_is); (case zx6_sa => k_is); (case zx6_tyC => k_is); (case zx6_kC => k_is); (case zx6_ga => k_is); (case zx6_gg => k_is); (case zx6_ha => k_is); (case zx6_ini => k_is); (case zx6_nv => k_is)))
    (case zz_e7 => (refine' TT.excF_mk ?zx7_xL rfl ?zx7_sa ?zx7_tyC ?zx7_kC ?zx7_ga ?zx7_gg ?zx7_ha ?zx7_ini ?zx7_nv; (case zx7_xL => k_is); (case zx7_sa => k_is); (case zx7_tyC => k_is); (case zx7_kC => k_is); (case zx7_ga => k_is); (case zx7_gg => k_is); (case zx7_ha => k_is); (case zx7_ini => k_is); (case zx7_nv => k_is)))
    (case zz_e8 => (refine' TT.excF_mk ?zx8_xL rfl ?zx8_sa ?zx8_tyC ?zx8_kC ?zx8_ga ?zx8_gg ?zx8_ha ?zx8_ini ?zx8_nv; (case zx8_xL => k_is); (case zx8_sa => k_is); (case zx8_tyC => k_is); (case zx8_kC => k_is); (case zx8_ga => k_is); (case zx8_gg => k_is); (case zx8_ha => k_is); (case zx8_ini => k_is); (case zx8_nv => k_is)))
    (case zz_e9 => (refine' TT.excF_mk ?zx9_xL rfl ?zx9_sa ?zx9_tyC ?zx9_kC ?zx9_ga ?zx9_gg ?zx9_ha ?zx9_ini ?zx9_nv; (case zx9_xL => k_is); (case zx9_sa => k_is); (case zx9_tyC => k_is); (case zx9_kC => k_is); (case zx9_ga => k_is); (case zx9_gg => k_is); (case zx9_ha => k_is); (case zx9_ini => k_is); (case zx9_nv => k_is)))
    (case zz_e10 => (refine' TT.excF_mk ?zx10_xL rfl ?zx10_sa ?zx10_tyC ?zx10_kC ?zx10_ga ?zx10_gg ?zx10_ha ?zx10_ini ?zx10_nv; (case zx10_xL => k_is); (case zx10_sa => k_is); (case zx10_tyC => k_is); (case zx10_kC => k_is); (case zx10_ga => k_is); (case zx10_gg => k_is); (case zx10_ha => k_is); (case zx10_ini => k_is); (case zx10_nv => k_is)))
    (case zz_e11 => (refine' TT.excF_mk ?zx11_xL rfl ?zx11_sa ?zx11_tyC ?zx11_kC ?zx11_ga ?zx11_gg ?zx11_ha ?zx11_ini ?zx11_nv; (case zx11_xL => k_is); (case zx11_sa => k_is); (case zx11_tyC => k_is); (case zx11_kC => k_is); (case zx11_ga => k_is); (case zx11_gg => k_is); (case zx11_ha => k_is); (case zx11_ini => k_is); (case zx11_nv => k_is)))
    (case zz_e12 => (refine' TT.excF_mk ?zx12_xL rfl ?zx12_sa ?zx12_tyC ?zx12_kC ?zx12_ga ?zx12_gg ?zx12_ha ?zx12_ini ?zx12_nv; (case zx12_xL => k_is); (case zx12_sa => k_is); (case zx12_tyC => k_is); (case zx12_kC => k_is); (case zx12_ga => k_is); (case zx12_gg => k_is); (case zx12_ha => k_is); (case zx12_ini => k_is); (case zx12_nv => k_is)))
    (case zz_e13 => (refine' TT.excF_mk ?zx13_xL rfl ?zx13_sa ?zx13_tyC ?zx13_kC ?zx13_ga ?zx13_gg ?zx13_ha ?zx13_ini ?zx13_nv; (case zx13_xL => k_is); (case zx13_sa => k_is); (case zx13_tyC => k_is); (case zx13_kC => k_is); (case zx13_ga => k_is); (case zx13_gg => k_is); (case zx13_ha => k_is); (case zx13_ini => k_is); (case zx13_nv => k_is)))
    (case zz_e14 => (refine' TT.excF_mk ?zx14_xL rfl ?zx14_sa ?zx14_tyC ?zx14_kC ?zx14_ga ?zx14_gg ?zx14_ha ?zx14_ini ?zx14_nv; (case zx14_xL => k_is); (case zx14_sa => k_is); (case zx14_tyC => k_is); (case zx14_kC => k_is); (case zx14_ga => k_is); (case zx14_gg => k_is); (case zx14_ha => k_is); (case zx14_ini => k_is); (case zx14_nv => k_is)))
    (case zz_e15 => (refine' TT.excF_mk ?zx15_xL rfl ?zx15_sa ?zx15_tyC ?zx15_kC ?zx15_ga ?zx15_gg ?zx15_ha ?zx15_ini ?zx15_nv; (case zx15_xL => k_is); (case zx15_sa => k_is); (case zx15_tyC => k_is); (case zx15_kC => k_is); (case zx15_ga => k_is); (case zx15_gg => k_is); (case zx15_ha => k_is); (case zx15_ini => k_is); (case zx15_nv => k_is)))
    (case zz_e16 => (refine' TT.excF_mk ?zx16_xL rfl ?zx16_sa ?zx16_tyC ?zx16_kC ?zx16_ga ?zx16_gg ?zx16_ha ?zx16_ini ?zx16_nv; (case zx16_xL => k_is); (case zx16_sa => k_is); (case zx16_tyC => k_is); (case zx16_kC => k_is); (case zx16_ga => k_is); (case zx16_gg => k_is); (case zx16_ha => k_is); (case zx16_ini => k_is); (case zx16_nv => k_is)))
    (case zz_e17 => (refine' TT.excF_mk ?zx17_xL rfl ?zx17_sa ?zx17_tyC ?zx17_kC ?zx17_ga ?zx17_gg ?zx17_ha ?zx17_ini ?zx17_nv; (case zx17_xL => k_is); (case zx17_sa => k_is); (case zx17_tyC => k_is); (case zx17_kC => k_is); (case zx17_ga => k_is); (case zx17_gg => k_is); (case zx17_ha => k_is); (case zx17_ini => k_is); (case zx17_nv => k_is)))
    (case zz_e18 => (refine' TT.excF_mk ?zx18_xL rfl ?zx18_sa ?zx18_tyC ?zx18_kC ?zx18_ga ?zx18_gg ?zx18_ha ?zx18_ini ?zx18_nv; (case zx18_xL => k_is); (case zx18_sa => k_is); (case zx18_tyC => k_is); (case zx18_kC => k_is); (case zx18_ga => k_is); (case zx18_gg => k_is); (case zx18_ha => k_is); (case zx18_ini => k_is); (case zx18_nv => k_is)))
    (case zz_e19 => (refine' TT.excF_mk ?zx19_xL rfl ?zx19_sa ?zx19_tyC ?zx19_kC ?zx19_ga ?zx19_gg ?zx19_ha ?zx19_ini ?zx19_nv; (case zx19_xL => k_is); (case zx19_sa => k_is); (case zx19_tyC => k_is); (case zx19_kC => k_is); (case zx19_ga => k_is); (case zx19_gg => k_is); (case zx19_ha => k_is); (case zx19_ini => k_is); (case zx19_nv => k_is)))
    (case zz_e20 => (refine' TT.excF_mk ?zx20_xL rfl ?zx20_sa ?zx20_tyC ?zx20_kC ?zx20_ga ?zx20_gg ?zx20_ha ?zx20_ini ?zx20_nv; (case zx20_xL => k_is); (case zx20_sa => k_is); (case zx20_tyC => k_is); (case zx20_kC => k_is); (case zx20_ga => k_is); (case zx20_gg => k_is); (case zx20_ha => k_is); (case zx20_ini => k_is); (case zx20_nv => k_is)))
    (case zz_e21 => (refine' TT.excF_mk ?zx21_xL rfl ?zx21_sa ?zx21_tyC ?zx21_kC ?zx21_ga ?zx21_gg ?zx21_ha ?zx21_ini ?zx21_nv; (case zx21_xL => k_is); (case zx21_sa => k_is); (case zx21_tyC => k_is); (case zx21_kC => k_is); (case zx21_ga => k_is); (case zx21_gg => k_is); (case zx21_ha => k_is); (case zx21_ini => k_is); (case zx21_nv => k_is)))
    (case zz_e22 => (refine' TT.excF_mk ?zx22_xL rfl ?zx22_sa ?zx22_tyC ?zx22_kC ?zx22_ga ?zx22_gg ?zx22_ha ?zx22_ini ?zx22_nv; (case zx22_xL => k_is); (case zx22_sa => k_is); (case zx22_tyC => k_is); (case zx22_kC => k_is); (case zx22_ga => k_is); (case zx22_gg => k_is); (case zx22_ha => k_is); (case zx22_ini => k_is); (case zx22_nv => k_is)))
    (case zz_e23 => (refine' TT.excF_mk ?zx23_xL rfl ?zx23_sa ?zx23_tyC ?zx23_kC ?zx23_ga ?zx23_gg ?zx23_ha ?zx23_ini ?zx23_nv; (case zx23_xL => k_is); (case zx23_sa => k_is); (case zx23_tyC => k_is); (case zx23_kC => k_is); (case zx23_ga => k_is); (case zx23_gg => k_is); (case zx23_ha => k_is); (case zx23_ini => k_is); (case zx23_nv => k_is)))
    (case zz_e24 => (refine' TT.excF_mk ?zx24_xL rfl ?zx24_sa ?zx24_tyC ?zx24_kC ?zx24_ga ?zx24_gg ?zx24_ha ?zx24_ini ?zx24_nv; (case zx24_xL => k_is); (case zx24_sa => k_is); (case zx24_tyC => k_is); (case zx24_kC => k_is); (case zx24_ga => k_is); (case zx24_gg => k_is); (case zx24_ha => k_is); (case zx24_ini => k_is); (case zx24_nv => k_is)))
    (case zz_e25 => (refine' TT.excF_mk ?zx25_xL rfl ?zx25_sa ?zx25_tyC ?zx25_kC ?zx25_ga ?zx25_gg ?zx25_ha ?zx25_ini ?zx25_nv; (case zx25_xL => k_is); (case zx25_sa => k_is); (case zx25_tyC => k_is); (case zx25_kC => k_is); (case zx25_ga => k_is); (case zx25_gg => k_is); (case zx25_ha => k_is); (case zx25_ini => k_is); (case zx25_nv => k_is)))
    (case zz_e26 => (refine' TT.excF_mk ?zx26_xL rfl ?zx26_sa ?zx26_tyC ?zx26_kC ?zx26_ga ?zx26_gg ?zx26_ha ?zx26_ini ?zx26_nv; (case zx26_xL => k_is); (case zx26_sa => k_is); (case zx26_tyC => k_is); (case zx26_kC => k_is); (case zx26_ga => k_is); (case zx26_gg => k_is); (case zx26_ha => k_is); (case zx26_ini => k_is); (case zx26_nv => k_is)))
    (case zz_e27 => (refine' TT.excF_mk ?zx27_xL rfl ?zx27_sa ?zx27_tyC ?zx27_kC ?zx27_ga ?zx27_gg ?zx27_ha ?zx27_ini ?zx27_nv; (case zx27_xL => k_is); (case zx27_sa => k_is); (case zx27_tyC => k_is); (case zx27_kC => k_is); (case zx27_ga => k_is); (case zx27_gg => k_is); (case zx27_ha => k_is); (case zx27_ini => k_is); (case zx27_nv => k_is)))
    (case zz_e28 => (refine' TT.excF_mk ?zx28_xL rfl ?zx28_sa ?zx28_tyC ?zx28_kC ?zx28_ga ?zx28_gg ?zx28_ha ?zx28_ini ?zx28_nv; (case zx28_xL => k_is); (case zx28_sa => k_is); (case zx28_tyC => k_is); (case zx28_kC => k_is); (case zx28_ga => k_is); (case zx28_gg => k_is); (case zx28_ha => k_is); (case zx28_ini => k_is); (case zx28_nv => k_is)))
    (case zz_e29 => (refine' TT.excF_mk ?zx29_xL rfl ?zx29_sa ?zx29_tyC ?zx29_kC ?zx29_ga ?zx29_gg ?zx29_ha ?zx29_ini ?zx29_nv; (case zx29_xL => k_is); (case zx29_sa => k_is); (case zx29_tyC => k_is); (case zx29_kC => k_is); (case zx29_ga => k_is); (case zx29_gg => k_is); (case zx29_ha => k_is); (case zx29_ini => k_is); (case zx29_nv => k_is)))
    (case zz_e30 => (refine' TT.excF_mk ?zx30_xL rfl ?zx30_sa ?zx30_tyC ?zx30_kC ?zx30_ga ?zx30_gg ?zx30_ha ?zx30_ini ?zx30_nv; (case zx30_xL => k_is); (case zx30_sa => k_is); (case zx30_tyC => k_is); (case zx30_kC => k_is); (case zx30_ga => k_is); (case zx30_gg => k_is); (case zx30_ha => k_is); (case zx30_ini => k_is); (case zx30_nv => k_is)))
    (case zz_nd => decide +kernel)
#print axioms PySem.Challenge.cw_turnedtunes_k00_errors_keep_their_value_holds
