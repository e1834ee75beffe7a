import PyProof.Rows.All
import Wide.All
import OpenK.AllK
import Wide.FinOn
import PyProof.EqAt
import PyProof.EqKinds
import PyProof.TupleCall
import PyProof.ReprRoads
import HandS.Base
import HandS.Call
import HandS.List
import HandS.Ends
import HandS.Words
import HandS.Comp
import HandS.Iter
import HandS.Text
import HandS.Wide
import HandS.FStr
import HandS.IsInst
import HandS.Defaults
import HandS.MakeKwOnly
import HandS.OwnEq
import HandS.TupAny
import HandS.Style
import HandS.Conv
import HandS.Star
import PySem.Challenge.RW_turnedtunes_k05_ties_told_back
set_option Elab.async false
set_option linter.all false
set_option maxRecDepth 100000
set_option maxHeartbeats 4000000
/-! Rules of our own over the hand layer: powers of great ints, repr of data, own unary operators, promises that know that no repr is under way. -/
namespace TT
open PySem PySem.Spec PyProof.Rows L2
section
variable {X : Cx}
/-- a ** b of any size that fits -/
theorem op_powW : OpR X (binaryOp .Pow) (rI (fun i j => 0 ≤ j ∧ (Builtin.Int.intBits i : Int) * j ≤ 2 ^ 27) fun i j => .int (i ^ j.toNat)) :=
  opI fun _ _ _ _ _ _ _ hc q => pow_int hc.1 hc.2 q

/-- repr(x), x data without dicts -/
def rRepr (K : PySem.W.Frag) : List V → Hp → VK → Prop := fun xs H Q => ∃ (x : V) (d : PyData), xs = [x] ∧ Dp K H x d ∧ d.showable = true ∧ d.hasDict = false ∧ d.depth ≤ 60 ∧ d.shown.length ≤ sizeLine ∧ Q (.str d.shown) H
theorem call_repr (hg : X.A.guards = some []) (hu : X.A.units + 64 < cLine) : CallR X (.builtin "repr") (rRepr X.K) := by
  intro pins s σ H xs us Q I r h
  obtain ⟨x, d, rfl, hd, hs, hn, hdep, hz, q⟩ := h
  obtain ⟨u, rfl, rx⟩ : ∃ u, us = [u] ∧ RelV x u := by
    cases r with
    | cons a b => cases b; exact ⟨_, rfl, a⟩
  obtain ⟨as, rd⟩ := Dp.reads I d x u hd rx
  have fin : ∀ h' tk u', (∀ b o, s.heap.get? b = some o → h'.get? b = some o) → EP X pins σ Q (.str d.shown u') { s with heap := h', toks := tk } :=
    fun h' tk u' hk => ⟨.str d.shown, H, I.kept hk, ⟨_, rfl⟩, q⟩
  cases hd with
  | non => obtain rfl := rx; exact PySem.P.repr_of_none (fin s.heap _ _ fun _ _ e => e)
  | bl b => obtain rfl := rx; exact PySem.P.repr_of_bool (fin s.heap _ _ fun _ _ e => e)
  | int i => obtain ⟨t, rfl⟩ := rx; exact PySem.P.repr_of_int (by simpa [PyData.showable] using hs) (fin s.heap _ _ fun _ _ e => e)
  | str y => obtain ⟨t, rfl⟩ := rx; exact PySem.P.repr_of_str (fin s.heap _ _ fun _ _ e => e) hz
  | lst h1 h2 =>
    obtain rfl := rx
    exact repr_of_reads' rd hs (PyData.noDict_hsm hn) hg (by omega) (fun _ _ e => e) (fun h' u tk hk => fin h' tk u hk) hz
  | tup h1 h2 =>
    obtain rfl := rx
    exact repr_of_reads' rd hs (PyData.noDict_hsm hn) hg (by omega) (fun _ _ e => e) (fun h' u tk hk => fin h' tk u hk) hz
end

/-! ### promises that know that no repr is under way -/
/-- the def at f keeps sp wherever it is called while no repr runs -/
structure GOk (P : Program) (w : World) (K : PySem.W.Frag) (mg : Str → Option Value) (base : Heap) (CX : CXT) (k : Nat) (f : Addr) (fd : FuncData) (ps : List Str) (sp : Sp) : Prop where
  size : ∀ vs H Q E, sp vs H Q E → vs.length = ps.length
  go : ∀ (A : Around) (outer : List Env) (s : Shared) (H : Hp) (args : Args) (us : List Value) (vs : List V) (Q : VK) (E : XK), A.guards = some [] → Room k A →
    Env0 P w K mg base A outer s H → BindsTo s fd args (ps.zip us) → Vals vs us → sp vs H Q E → codeAny (model P w) A (.call (.ref f) args) (CR CX outer P w H s Q E) s

section
variable {P : Program} {w : World} {K : PySem.W.Frag} {mg : Str → Option Value} {base : Heap} {CX : CXT} {k : Nat} {f : Addr} {ps : List Str} {sp : Sp}
theorem GOk.mono {j : Nat} {fd : FuncData} (F : GOk P w K mg base CX j f fd ps sp) (h : j ≤ k) : GOk P w K mg base CX k f fd ps sp :=
  { size := F.size, go := fun A outer s H args us vs Q E g r => F.go A outer s H args us vs Q E g (r.mono h) }
theorem GOk.weak {sp' : Sp} {fd : FuncData} (F : GOk P w K mg base CX k f fd ps sp) (h : ∀ vs H Q E, sp' vs H Q E → sp vs H Q E) : GOk P w K mg base CX k f fd ps sp' :=
  { size := fun vs H Q E q => F.size vs H Q E (h vs H Q E q), go := fun A outer s H args us vs Q E g r e b v q => F.go A outer s H args us vs Q E g r e b v (h vs H Q E q) }
/-- any promise of the layer is one -/
theorem GOk.of {fd : FuncData} (F : FnOk P w K mg base CX k f fd ps sp) : GOk P w K mg base CX k f fd ps sp :=
  { size := F.len, go := fun A outer s H args us vs Q E _ => F.run A outer s H args us vs Q E }
/-- such a def by its body -/
theorem g_of {name qual : Str} {params : Arguments} {body : List Stmt} {scope : Scope} {dV kV doc pm cdv ct oc : Value} {an od : Option Addr} {osl : Array (Option Value)} {N : List Str}
    (lk : K.lookup f = some ⟨oc, od, .func (PySem.W.fnOf name qual params body scope dV kV doc pm an cdv ct), osl⟩) (hcd : PySem.W.codeIn K cdv qual = true) (S : FnScope N ps scope)
    (size : ∀ vs H Q E, sp vs H Q E → vs.length = ps.length)
    (hb : ∀ (A : Around) (outer : List Env) (s : Shared) (H : Hp) (vs : List V) (Q : VK) (E : XK), A.guards = some [] → Room k (A.deeper (envOfC qual scope s.heap.objs.size f cdv)) → sp vs H Q E →
      ∃ t, PSs (cxOf CX P w K mg base N qual scope f cdv A outer s H E) body t ∧ t { nx := fun _ H1 => Q .non H1, rt := Q } (start N vs) H) :
    GOk P w K mg base CX (k + 1) f (PySem.W.fnOf name qual params body scope dV kV doc pm an cdv ct) ps sp := by
  refine { size := size, go := fun A outer s H args us vs Q E g hr e0 bnd rv hsp => ?_ }
  have old : ∀ b o, base.get? b = some o → s.heap.get? b = some o := fun b o e => (e0.bs b o e).1
  have kinds : ∀ y ∈ ps.zip us, scope.names.lookup y.1 = some .local ∨ (scope.names.lookup y.1 = some .cell ∧ ((cellsFrom (s.heap.objs.size + 1) scope.names []).lookup y.1).isSome = true) := by
    intro y hy
    obtain ⟨n, v⟩ := y
    refine (S.par n (List.of_mem_zip hy).1).imp id fun q => ⟨q, ?_⟩
    exact PySem.W.cellsFrom_some _ _ _ (.inl q)
  refine codeAny_call_function hr.depth (e0.mod.kin.keeps old _ _ lk) rfl S.co S.gen rfl (PySem.W.codeRec_of (e0.mod.kin.keeps old) hcd) (bnd _ _ _ _ (wpAny_newFunctionEnv_cells S.kind kinds fun env he s1 x => ?_))
  subst he
  refine ⟨(e0.mod.nolimit.keeps old).keeps x.toInCall.keep, codeAny_func ?_⟩
  obtain ⟨t, ht, hq⟩ := hb A outer s H vs Q E g (hr.deeper _) hsp
  have J : Inv (cxOf CX P w K mg base N qual scope f cdv A outer s H E) [] (start N vs) H s1 := inv_start S hr.hd e0 (size _ _ _ _ hsp) rv x
  refine wpAny_mono (ht.run [] s1 (start N vs) H _ J hq) (fun fl s2 hs => ?_) fun _ _ z => z
  cases fl with
  | ret u => obtain ⟨v, σ1, H1, I1, r1, q1⟩ := hs; exact ⟨v, H1, I1.os, I1.bare, I1.base, I1.hok, r1, q1⟩
  | next => obtain ⟨σ1, H1, I1, q1⟩ := hs; exact ⟨V.non, H1, I1.os, I1.bare, I1.base, I1.hok, rfl, q1⟩
  | brk => obtain ⟨_, _, _, z⟩ := hs; exact z.elim
  | cont => obtain ⟨_, _, _, z⟩ := hs; exact z.elim
end

/-- a def of the text that nothing leaves but by return -/
theorem okG {P : Program} {w : World} {K : PySem.W.Frag} {mg : Str → Option Value} {base : Heap} {x qual : Str} {st : Stmt} {f : Addr} {fd : FuncData} {N ps : List Str} {k : Nat} {sp : Sp} (F : Fun K x qual st f fd) (S : FnScope N ps (defScope st))
    (size : ∀ vs H Q E, sp vs H Q E → vs.length = ps.length)
    (hb : ∀ (cdv : Value) (A : Around) (outer : List Env) (s : Shared) (H : Hp) (vs : List V) (Q : VK) (E : XK), A.guards = some [] → Room k (A.deeper (envOfC qual (defScope st) s.heap.objs.size f cdv)) → sp vs H Q E →
      ∃ t, PSs (cxOf CX0 P w K mg base N qual (defScope st) f cdv A outer s H E).nox (defBody st) t ∧ t { nx := fun _ H1 => Q .non H1, rt := Q } (start N vs) H) : GOk P w K mg base CX0 (k + 1) f fd ps sp := by
  obtain ⟨oc, od, kV, doc, pm, an, cdv, ct, osl, rfl, lk, hcd⟩ := F.ex
  refine g_of lk hcd S size fun A outer s H vs Q E g hr hsp => ?_
  obtain ⟨t, h, q⟩ := hb cdv A outer s H vs Q E g hr hsp
  exact ⟨t, h.nox, q⟩
section
variable {X : Cx} {CX : CXT} {k : Nat} {f : Addr} {fd : FuncData} {ps : List Str} {sp : Sp} {dvs : List V} {ds : List Value} {E : XK} {x : Str} {p pos : Pos} {e : Expr} {es : List Expr} {t : TA}
theorem run_g {pins : List (Addr × Obj)} {σ : L2.St} {H : Hp} {s : Shared} {Q : VK} {us : List Value} {vs : List V} (F : GOk X.prog X.w X.K X.mg X.base CX k f fd ps sp) (g : X.A.guards = some []) (hr : Room k X.A)
    (hb : Binds X.K fd ps ds) (hd : Vals dvs ds) (hx : Passes CX X E) (I : Inv X pins σ H s) (r : Vals vs us) (h : sp (vs ++ dvs) H Q E) : wpAny (model X.prog X.w) X.A (call (.ref f) us) (EP X pins σ Q) X.xe s := by
  have r2 := r.append hd
  have n : (us ++ ds).length = ps.length := r2.length ▸ F.size _ _ _ _ h
  refine wpAny_call (codeAny_mono (F.go X.A X.stack s H ⟨us, []⟩ _ _ Q E g hr I.env0 (hb s us I.kIn n) r2 h) fun res s1 z => ?_)
  match res, z with
  | .error e, z => exact hx pins σ H s e s1 I z
  | .ok (.ret u), z => exact I.after z
  | .ok .next, z => exact z.elim
  | .ok .brk, z => exact z.elim
  | .ok .cont, z => exact z.elim
/-- f(e, ..) of such a def -/
theorem pe_callG (F : GOk X.prog X.w X.K X.mg X.base CX k f fd ps sp) (g : X.A.guards = some []) (hr : Room k X.A) (hg : Gl X x) (hm : X.mg x = some (.ref f)) (hk : PySem.W.keepIn X.K (.ref f) = true)
    (hb : Binds X.K fd ps ds) (hd : Vals dvs ds) (hx : Passes CX X E) (ha : PA X (e :: es) t) (hdb : (x == ("__debug__" : Str)) = false := by decide)
    (he : starEach (e :: es) X.env = (false, eval e X.env) :: starEach es X.env := by rfl) (hpl : (backTo pos (starEach es X.env)).any (·.1) = false := by rfl) : PE X (.Call (.Name x p) (e :: es) [] pos) (tCall sp dvs E t) := by
  constructor
  intro pins s σ H Q I h
  exact wpAny_Call_Name_kw (ld_glob I hg hm (PySem.W.callWith_K (h₀ := X.base) I.ok.mod.kin hk (thn (ha.run pos pins s σ H _ I h) fun us s1 ⟨vs, H1, I1, r, q⟩ => ⟨I1.kIn, run_g F g hr hb hd hx I1 r q⟩) he hpl) hdb)

/-- ~x of an instance of an own class -/
theorem un_own {C : Addr} (F : FnOk X.prog X.w X.K X.mg X.base CX k f fd ps sp) (hr : Room k X.A) (hb : Binds X.K fd ps []) (hx : Passes CX X E)
    (hs : PySem.W.findIn X.K (.ref C) "__invert__" = some (some (.ref f))) (hf : PySem.W.isFn X.K (.ref f) = true) :
    UnR X (unaryOp .Invert) (fun x H Q => ∃ a dx fs, x = .ref a ∧ H a = some (.ins C dx fs) ∧ sp [.ref a] H Q E) := by
  intro pins s σ H x v Q I rx h
  obtain ⟨a, dx, fs, rfl, ha, hq⟩ := h
  obtain rfl : v = Value.ref a := rx
  obtain ⟨mA, O, _⟩ := ins_get I.hok ha
  obtain ⟨od, J, _⟩ := O.look
  obtain ⟨m, hF⟩ := I.fr
  exact PySem.W.ksp_inv hF I.ok.mod.kin J hs hf (run_fn (us := [.ref a]) (vs := [.ref a]) (dvs := []) (ds := []) F hr hb .nil hx I (.cons rfl .nil) hq)
end

/-! ### the end of a law's row for such a promise -/
/-- the script alone is tracked: as a known list, or not at all where it is an object of the module -/
def seen (a : Addr) (ob : Obj) (ns : List Int) (own : Bool) : Hp := fun b => if own = false ∧ b = a then some (.frz ob (.lst (ns.map V.int))) else none
theorem seen_own {a : Addr} {ob : Obj} {ns : List Int} (b : Addr) : seen a ob ns true b = none := if_neg fun z => nomatch z.1
theorem seen_at {a : Addr} {ob : Obj} {ns : List Int} : seen a ob ns false a = some (.frz ob (.lst (ns.map V.int))) := if_pos ⟨rfl, rfl⟩
theorem seen_ne {a b : Addr} {ob : Obj} {ns : List Int} {o : Bool} (h : b ≠ a) : seen a ob ns o b = none := if_neg fun z => h z.2
theorem run_law {P : Program} {w : World} {K : PySem.W.Frag} {mg mb : Str → Option Value} {CX : CXT} {k : Nat} {fa a : Addr} {fd : FuncData} {x : Str} {sp : Sp} {s : Shared} {vs : List Value} {ns : List Int}
    (KX : K.In s.heap) (hns : s.heap.Ns mainGlobals mg) (hb : s.heap.Ns builtinsNs mb) (hbb : ∀ x : Str, x ≠ "__name__" → mb x = bootBuiltins x) (lim : s.heap.NoLimit) (hg : s.gens = #[])
    (ha : s.heap.get? a = some { cls := .type "list", data := .seq vs.toArray }) (hi : IntsAre vs ns) (hl : ns.length ≤ sizeLine) (hr : Room k callerA)
    (F : ∀ base : Heap, K.In base → base.Ns mainGlobals mg → GOk P w K mg base CX k fa fd [x] sp) (bnd : ∀ (s : Shared) (u : Value), BindsTo s fd ⟨[u], []⟩ [(x, u)])
    (hsp : ∀ H : Hp, SqL K H a (ns.map V.int) → sp [.ref a] H (fun v _ => v = .bl true) fun _ _ _ => False) (noX : ∀ H e s1, CX [] H s (fun _ _ _ => False) e s1 → False) :
    codeAny (model P w) callerA (.call (.ref fa) ⟨[.ref a], []⟩) (fun r s1 => r = .ok (.ret (.bool true)) ∧ OldK s.heap s1.heap ∧ s1.os = s.os ∧ AllBare s1.gens) s := by
  have rv := vals_ints hi
  obtain ⟨own, hS, hT, hK⟩ : ∃ own, SqL K (seen a { cls := .type "list", data := .seq vs.toArray } ns own) a (ns.map V.int) ∧ HOk P w (seen a { cls := .type "list", data := .seq vs.toArray } ns own) s.heap ∧
      (∀ b o, K.lookup b = some o → seen a { cls := .type "list", data := .seq vs.toArray } ns own b = none) := by
    cases hk : K.lookup a with
    | some o =>
      have e := (KX a o hk).symm.trans ha
      cases e
      refine ⟨true, .inr ⟨_, vs.toArray, _, hk, rfl, rfl, rfl, ?_, by simpa using rv⟩, fun b u z => ?_, fun b _ _ => seen_own b⟩
      · rw [List.size_toArray, hi.length]; exact hl
      · rw [seen_own] at z; cases z
    | none =>
      refine ⟨false, .inl (.inr ⟨_, seen_at⟩), fun b u z => ?_, fun b o hb => seen_ne fun e => ?_⟩
      · by_cases h : b = a
        · subst h
          rw [seen_at] at z; cases z
          exact ⟨ha, by rw [List.length_map]; exact hl, vs, _, rv, ha⟩
        · rw [seen_ne h] at z; cases z
      · subst e; rw [hk] at hb; cases hb
  generalize hH : seen a { cls := .type "list", data := .seq vs.toArray } ns own = H at hS hT hK
  have only : ∀ b u, H b = some u → b = a ∧ u = .frz { cls := .type "list", data := .seq vs.toArray } (.lst (ns.map V.int)) := fun b u z => by
    subst hH
    by_cases h : b = a
    · subst h
      cases own with
      | true => rw [seen_own] at z; cases z
      | false => rw [seen_at] at z; exact ⟨rfl, (Option.some.inj z).symm⟩
    · rw [seen_ne h] at z; cases z
  have free : ∀ {b : Addr} {o : Obj} {es : Array DictEntry} {ep : Nat}, s.heap.get? b = some o → o.data = .dict es ep → H b = none := fun {b o es ep} e d => by
    cases q : H b with
    | none => rfl
    | some u =>
      obtain ⟨rfl, _⟩ := only b u q
      have e' := e.symm.trans ha
      cases e'
      have d' : Data.seq vs.toArray _ = Data.dict es ep := d
      cases d'
  have ns' : ∀ {b : Addr} {m : Str → Option Value}, s.heap.Ns b m → (hidT s.heap H).Ns b m := fun {b m} n => by
    obtain ⟨o, es, ep, e, d, r⟩ := n
    exact ⟨o, es, ep, hidT_get e (free e d), d, r⟩
  have inK : K.In (hidT s.heap H) := fun b o e => hidT_get (KX b o e) (hK b o e)
  obtain ⟨mc, l1, l2⟩ := lim
  have e0 : Env0 P w K mg (hidT s.heap H) callerA [] s H :=
    { frames := rfl, mod := ⟨inK, ns' hns, ⟨mb, ns' hb, hbb⟩, ⟨mc, ns' l1, l2⟩⟩, bs := fun b o e => of_hidT e, bsz := Nat.le_of_eq (hidT_size _ _), funs := trivial, frf := fun b z => absurd (show b ∈ ([] : List Addr) from z) List.not_mem_nil, hok := hT, bare := .of_eq hg }
  refine codeAny_mono ((F _ inK (ns' hns)).go callerA [] s H ⟨[.ref a], []⟩ [.ref a] [.ref a] _ _ rfl hr e0 (bnd s (.ref a)) (.cons rfl .nil) (hsp H hS)) fun r s1 z => ?_
  match r, z with
  | .error e, z => exact (noX H e s1 z).elim
  | .ok .next, z => exact z.elim
  | .ok .brk, z => exact z.elim
  | .ok .cont, z => exact z.elim
  | .ok (.ret u), z =>
    obtain ⟨v, H1, os, bare, un, hok, r1, q⟩ := z
    subst q
    obtain rfl : u = Value.bool true := r1
    refine ⟨rfl, OldK.of_keep fun b o e => ?_, os, bare⟩
    cases q : H b with
    | none => exact un.keep b o e q (fun z => absurd (show b ∈ ([] : List Addr) from z) List.not_mem_nil) List.not_mem_nil
    | some u =>
      obtain ⟨rfl, rfl⟩ := only b u q
      obtain ⟨e1, _⟩ := hT _ _ q
      obtain ⟨e2, _⟩ := hok _ _ (un.frzs _ _ _ q)
      rw [e] at e1; cases e1
      exact e2
theorem walk_g {l : PySem.W.OpenLaw} {n k : Nat} {q : Program} {loose : List Str} {XP : (Str → Option Value) → Heap → Prop} {YP : World → Heap → Prop} {d : DefRec} {K : Params → PySem.W.Frag} {CX : CXT} {sp : PySem.W.Frag → Sp} {x : Str}
    (hn : l.most = some n) (hn2 : n ≤ sizeLine) (hdf : d.params.defaults = []) (hr : Room k callerA) (hY : ∀ (w : World) (h : Heap), YP w h → (K w.params).In h)
    (F : ∀ (w : World) (mg : Str → Option Value) (fa : Addr) (h : Heap), (K w.params).In h → h.Ns mainGlobals mg → mg d.name = some (.ref fa) → ∃ fd : FuncData, (∀ (s : Shared) (u : Value), BindsTo s fd ⟨[u], []⟩ [(x, u)]) ∧
        ∀ base : Heap, (K w.params).In base → base.Ns mainGlobals mg → GOk l.prog w (K w.params) mg base CX k fa fd [x] (sp (K w.params)))
    (hsp : ∀ (K : PySem.W.Frag) (H : Hp) (a : Addr) (ns : List Int), ns.length ≤ n → SqL K H a (ns.map V.int) → sp K [.ref a] H (fun v _ => v = .bl true) fun _ _ _ => False)
    (noX : ∀ (H : Hp) (s : Shared) (e : Value) (s1 : Shared), CX [] H s (fun _ _ _ => False) e s1 → False) : PySem.W.WalkO q loose XP YP l.row.toRowW d [] (fun f vs => PySem.call f vs) :=
  Att.attach_call hn hdf fun w s₀ s₁ mg mb fa o pm cd doc a vs ns G Y ho hd hcd hmg hobj hints hlen hg => by
    obtain ⟨fd, hb, hF⟩ := F w mg fa _ (hY w _ Y) G.T.g hmg
    exact run_law (hY w _ Y) G.T.g G.T.b G.T.builtins G.T.nolimit hg hobj hints (Nat.le_trans hlen hn2) hr hF hb (fun H hS => hsp _ H a ns hlen hS) fun H e s1 => noX H s₁ e s1
end TT

set_option Elab.async false
set_option linter.all false
set_option maxRecDepth 100000
set_option maxHeartbeats 4000000
namespace TT
open PySem PySem.Spec PyProof.Rows L2
def top (i : Nat) : Stmt := PySem.Challenge.pw_turnedtunes_k05_ties_told_back.main.body.getD i (.Pass ⟨0, 0, 0, 0⟩)
abbrev s_is_whole : Stmt := top 16
theorem sc_is_whole : FnScope ["value"] ["value"] (defScope s_is_whole) := ⟨rfl, rfl, rfl, by decide +kernel, rfl, by decide +kernel, by decide +kernel⟩
abbrev s_is_from : Stmt := top 17
theorem sc_is_from : FnScope ["value", "least"] ["value", "least"] (defScope s_is_from) := ⟨rfl, rfl, rfl, by decide +kernel, rfl, by decide +kernel, by decide +kernel⟩
abbrev s_is_between : Stmt := top 18
theorem sc_is_between : FnScope ["value", "least", "greatest"] ["value", "least", "greatest"] (defScope s_is_between) := ⟨rfl, rfl, rfl, by decide +kernel, rfl, by decide +kernel, by decide +kernel⟩
abbrev s_written : Stmt := top 19
theorem sc_written : FnScope ["number", "rest", "chunks"] ["number"] (defScope s_written) := ⟨rfl, rfl, rfl, by decide +kernel, rfl, by decide +kernel, by decide +kernel⟩
abbrev s_T_init : Stmt := inClass (top 23) 0
theorem sc_T_init : FnScope ["self", "first", "second", "length", "amount", "down", "backward", "way", "back"] ["self", "first", "second", "length", "amount", "down", "backward"] (defScope s_T_init) := ⟨rfl, rfl, rfl, by decide +kernel, rfl, by decide +kernel, by decide +kernel⟩
abbrev s_T_call : Stmt := inClass (top 23) 2
theorem sc_T_call : FnScope ["self", "place", "step"] ["self", "place"] (defScope s_T_call) := ⟨rfl, rfl, rfl, by decide +kernel, rfl, by decide +kernel, by decide +kernel⟩
abbrev s_T_led : Stmt := inClass (top 23) 3
theorem sc_T_led : FnScope ["self", "note"] ["self", "note"] (defScope s_T_led) := ⟨rfl, rfl, rfl, by decide +kernel, rfl, by decide +kernel, by decide +kernel⟩
abbrev s_T_invert : Stmt := inClass (top 23) 5
theorem sc_T_invert : FnScope ["self", "amount"] ["self"] (defScope s_T_invert) := ⟨rfl, rfl, rfl, by decide +kernel, rfl, by decide +kernel, by decide +kernel⟩
abbrev s_T_eq : Stmt := inClass (top 23) 8
theorem sc_T_eq : FnScope ["self", "other"] ["self", "other"] (defScope s_T_eq) := ⟨rfl, rfl, rfl, by decide +kernel, rfl, by decide +kernel, by decide +kernel⟩
abbrev s_check_parts : Stmt := top 24
theorem sc_check_parts : FnScope ["first", "second", "length"] ["first", "second", "length"] (defScope s_check_parts) := ⟨rfl, rfl, rfl, by decide +kernel, rfl, by decide +kernel, by decide +kernel⟩
abbrev s_check_leading : Stmt := top 25
theorem sc_check_leading : FnScope ["amount", "down", "backward"] ["amount", "down", "backward"] (defScope s_check_leading) := ⟨rfl, rfl, rfl, by decide +kernel, rfl, by decide +kernel, by decide +kernel⟩
abbrev s_l_pot : Stmt := top 32
theorem sc_l_pot : FnScope ["_law_script", "_law_k", "_law_cell", "_law_own", "_law_small"] ["_law_script", "_law_k"] (defScope s_l_pot) := ⟨rfl, rfl, rfl, by decide +kernel, rfl, by decide +kernel, by decide +kernel⟩
abbrev s_l_take : Stmt := top 33
theorem sc_l_take : FnScope ["_law_pot_here", "_law_under", "_law_digit", "_law_prime", "_law_mixed"] ["_law_pot_here", "_law_under"] (defScope s_l_take) := ⟨rfl, rfl, rfl, by decide +kernel, rfl, by decide +kernel, by decide +kernel⟩
abbrev s_l_of : Stmt := top 34
theorem sc_l_of : FnScope ["_law_pot_here", "_law_some"] ["_law_pot_here", "_law_some"] (defScope s_l_of) := ⟨rfl, rfl, rfl, by decide +kernel, rfl, by decide +kernel, by decide +kernel⟩
abbrev s_l_cells : Stmt := top 35
theorem sc_l_cells : FnScope ["_law_script", "_law_most"] ["_law_script", "_law_most"] (defScope s_l_cells) := ⟨rfl, rfl, rfl, by decide +kernel, rfl, by decide +kernel, by decide +kernel⟩
abbrev s_l_amount : Stmt := top 36
theorem sc_l_amount : FnScope ["_law_pot_here"] ["_law_pot_here"] (defScope s_l_amount) := ⟨rfl, rfl, rfl, by decide +kernel, rfl, by decide +kernel, by decide +kernel⟩
abbrev s_l_row : Stmt := top 37
theorem sc_l_row : FnScope ["_law_pot_here", "_law_size", "_law_length", "_law_first", "_law_second", "_law_amount_here", "_law_is_down", "_law_is_back"] ["_law_pot_here", "_law_size"] (defScope s_l_row) := ⟨rfl, rfl, rfl, by decide +kernel, rfl, by decide +kernel, by decide +kernel⟩
abbrev s_l_far : Stmt := top 38
theorem sc_l_far : FnScope ["_law_row_here", "_law_far_here"] ["_law_row_here", "_law_far_here"] (defScope s_l_far) := ⟨rfl, rfl, rfl, by decide +kernel, rfl, by decide +kernel, by decide +kernel⟩
abbrev s_l_tie : Stmt := top 39
theorem sc_l_tie : FnScope ["_law_row_here"] ["_law_row_here"] (defScope s_l_tie) := ⟨rfl, rfl, rfl, by decide +kernel, rfl, by decide +kernel, by decide +kernel⟩
abbrev s_l_row_of : Stmt := top 40
theorem sc_l_row_of : FnScope ["_law_tie_here"] ["_law_tie_here"] (defScope s_l_row_of) := ⟨rfl, rfl, rfl, by decide +kernel, rfl, by decide +kernel, by decide +kernel⟩
abbrev s_l_back : Stmt := top 41
theorem sc_l_back : FnScope ["_law_row_here"] ["_law_row_here"] (defScope s_l_back) := ⟨rfl, rfl, rfl, by decide +kernel, rfl, by decide +kernel, by decide +kernel⟩
abbrev s_l_right : Stmt := top 42
theorem sc_l_right : FnScope ["_law_pot_here", "_law_row_here", "_law_tie_here", "_law_turned", "_law_place", "_law_note"] ["_law_pot_here"] (defScope s_l_right) := ⟨rfl, rfl, rfl, by decide +kernel, rfl, by decide +kernel, by decide +kernel⟩
abbrev s_law : Stmt := top 43
theorem sc_law : FnScope ["_law_script", "_law_k", "_law_pot_here", "_law_lap"] ["_law_script"] (defScope s_law) := ⟨rfl, rfl, rfl, by decide +kernel, rfl, by decide +kernel, by decide +kernel⟩
/-- where the top has put each def -/
structure Zs where
  f_is_whole : Addr
  d_is_whole : FuncData
  f_is_from : Addr
  d_is_from : FuncData
  f_is_between : Addr
  d_is_between : FuncData
  f_written : Addr
  d_written : FuncData
  f_T_init : Addr
  d_T_init : FuncData
  f_T_call : Addr
  d_T_call : FuncData
  f_T_led : Addr
  d_T_led : FuncData
  f_T_invert : Addr
  d_T_invert : FuncData
  f_T_eq : Addr
  d_T_eq : FuncData
  f_check_parts : Addr
  d_check_parts : FuncData
  f_check_leading : Addr
  d_check_leading : FuncData
  f_l_pot : Addr
  d_l_pot : FuncData
  f_l_take : Addr
  d_l_take : FuncData
  f_l_of : Addr
  d_l_of : FuncData
  f_l_cells : Addr
  d_l_cells : FuncData
  f_l_amount : Addr
  d_l_amount : FuncData
  f_l_row : Addr
  d_l_row : FuncData
  f_l_far : Addr
  d_l_far : FuncData
  f_l_tie : Addr
  d_l_tie : FuncData
  f_l_row_of : Addr
  d_l_row_of : FuncData
  f_l_back : Addr
  d_l_back : FuncData
  f_l_right : Addr
  d_l_right : FuncData
  f_law : Addr
  d_law : FuncData
  cC : Addr
  t_GREATEST : Tok
  t__DIGITS : Tok
  t__CHUNK : Tok
structure Txt (K : PySem.W.Frag) (mg : Str → Option Value) (Z : Zs) : Prop where
  F_is_whole : Fun K "is_whole" "is_whole" s_is_whole Z.f_is_whole Z.d_is_whole
  bn_is_whole : Binds K Z.d_is_whole ["value"] []
  k_is_whole : PySem.W.keepIn K (.ref Z.f_is_whole) = true
  g_is_whole : mg "is_whole" = some (.ref Z.f_is_whole)
  F_is_from : Fun K "is_from" "is_from" s_is_from Z.f_is_from Z.d_is_from
  bn_is_from : Binds K Z.d_is_from ["value", "least"] []
  k_is_from : PySem.W.keepIn K (.ref Z.f_is_from) = true
  g_is_from : mg "is_from" = some (.ref Z.f_is_from)
  F_is_between : Fun K "is_between" "is_between" s_is_between Z.f_is_between Z.d_is_between
  bn_is_between : Binds K Z.d_is_between ["value", "least", "greatest"] []
  k_is_between : PySem.W.keepIn K (.ref Z.f_is_between) = true
  g_is_between : mg "is_between" = some (.ref Z.f_is_between)
  F_written : Fun K "written" "written" s_written Z.f_written Z.d_written
  bn_written : Binds K Z.d_written ["number"] []
  k_written : PySem.W.keepIn K (.ref Z.f_written) = true
  g_written : mg "written" = some (.ref Z.f_written)
  F_T_init : FunD K "__init__" "Tie.__init__" (defArgs s_T_init) (defBody s_T_init) (defScope s_T_init) [.int 0] [("down", .bl false), ("backward", .bl false)] Z.f_T_init Z.d_T_init
  k_T_init : PySem.W.keepIn K (.ref Z.f_T_init) = true
  i_T_init : PySem.W.isFn K (.ref Z.f_T_init) = true
  a_T_init : PySem.W.findIn K (.ref Z.cC) "__init__" = some (some (.ref Z.f_T_init))
  F_T_call : Fun K "__call__" "Tie.__call__" s_T_call Z.f_T_call Z.d_T_call
  bn_T_call : Binds K Z.d_T_call ["self", "place"] []
  k_T_call : PySem.W.keepIn K (.ref Z.f_T_call) = true
  i_T_call : PySem.W.isFn K (.ref Z.f_T_call) = true
  a_T_call : PySem.W.findIn K (.ref Z.cC) "__call__" = some (some (.ref Z.f_T_call))
  F_T_led : Fun K "led" "Tie.led" s_T_led Z.f_T_led Z.d_T_led
  bn_T_led : Binds K Z.d_T_led ["self", "note"] []
  k_T_led : PySem.W.keepIn K (.ref Z.f_T_led) = true
  i_T_led : PySem.W.isFn K (.ref Z.f_T_led) = true
  a_T_led : PySem.W.findIn K (.ref Z.cC) "led" = some (some (.ref Z.f_T_led))
  F_T_invert : Fun K "__invert__" "Tie.__invert__" s_T_invert Z.f_T_invert Z.d_T_invert
  bn_T_invert : Binds K Z.d_T_invert ["self"] []
  k_T_invert : PySem.W.keepIn K (.ref Z.f_T_invert) = true
  i_T_invert : PySem.W.isFn K (.ref Z.f_T_invert) = true
  a_T_invert : PySem.W.findIn K (.ref Z.cC) "__invert__" = some (some (.ref Z.f_T_invert))
  F_T_eq : Fun K "__eq__" "Tie.__eq__" s_T_eq Z.f_T_eq Z.d_T_eq
  bn_T_eq : Binds K Z.d_T_eq ["self", "other"] []
  k_T_eq : PySem.W.keepIn K (.ref Z.f_T_eq) = true
  i_T_eq : PySem.W.isFn K (.ref Z.f_T_eq) = true
  a_T_eq : PySem.W.findIn K (.ref Z.cC) "__eq__" = some (some (.ref Z.f_T_eq))
  F_check_parts : Fun K "_check_parts" "_check_parts" s_check_parts Z.f_check_parts Z.d_check_parts
  bn_check_parts : Binds K Z.d_check_parts ["first", "second", "length"] []
  k_check_parts : PySem.W.keepIn K (.ref Z.f_check_parts) = true
  g_check_parts : mg "_check_parts" = some (.ref Z.f_check_parts)
  F_check_leading : Fun K "_check_leading" "_check_leading" s_check_leading Z.f_check_leading Z.d_check_leading
  bn_check_leading : Binds K Z.d_check_leading ["amount", "down", "backward"] []
  k_check_leading : PySem.W.keepIn K (.ref Z.f_check_leading) = true
  g_check_leading : mg "_check_leading" = some (.ref Z.f_check_leading)
  F_l_pot : Fun K "_law_pot" "_law_pot" s_l_pot Z.f_l_pot Z.d_l_pot
  bn_l_pot : Binds K Z.d_l_pot ["_law_script", "_law_k"] []
  k_l_pot : PySem.W.keepIn K (.ref Z.f_l_pot) = true
  g_l_pot : mg "_law_pot" = some (.ref Z.f_l_pot)
  F_l_take : Fun K "_law_take" "_law_take" s_l_take Z.f_l_take Z.d_l_take
  bn_l_take : Binds K Z.d_l_take ["_law_pot_here", "_law_under"] []
  k_l_take : PySem.W.keepIn K (.ref Z.f_l_take) = true
  g_l_take : mg "_law_take" = some (.ref Z.f_l_take)
  F_l_of : Fun K "_law_of" "_law_of" s_l_of Z.f_l_of Z.d_l_of
  bn_l_of : Binds K Z.d_l_of ["_law_pot_here", "_law_some"] []
  k_l_of : PySem.W.keepIn K (.ref Z.f_l_of) = true
  g_l_of : mg "_law_of" = some (.ref Z.f_l_of)
  F_l_cells : Fun K "_law_cells" "_law_cells" s_l_cells Z.f_l_cells Z.d_l_cells
  bn_l_cells : Binds K Z.d_l_cells ["_law_script", "_law_most"] []
  k_l_cells : PySem.W.keepIn K (.ref Z.f_l_cells) = true
  g_l_cells : mg "_law_cells" = some (.ref Z.f_l_cells)
  F_l_amount : Fun K "_law_amount" "_law_amount" s_l_amount Z.f_l_amount Z.d_l_amount
  bn_l_amount : Binds K Z.d_l_amount ["_law_pot_here"] []
  k_l_amount : PySem.W.keepIn K (.ref Z.f_l_amount) = true
  g_l_amount : mg "_law_amount" = some (.ref Z.f_l_amount)
  F_l_row : Fun K "_law_row" "_law_row" s_l_row Z.f_l_row Z.d_l_row
  bn_l_row : Binds K Z.d_l_row ["_law_pot_here", "_law_size"] []
  k_l_row : PySem.W.keepIn K (.ref Z.f_l_row) = true
  g_l_row : mg "_law_row" = some (.ref Z.f_l_row)
  F_l_far : Fun K "_law_far" "_law_far" s_l_far Z.f_l_far Z.d_l_far
  bn_l_far : Binds K Z.d_l_far ["_law_row_here", "_law_far_here"] []
  k_l_far : PySem.W.keepIn K (.ref Z.f_l_far) = true
  g_l_far : mg "_law_far" = some (.ref Z.f_l_far)
  F_l_tie : Fun K "_law_tie" "_law_tie" s_l_tie Z.f_l_tie Z.d_l_tie
  bn_l_tie : Binds K Z.d_l_tie ["_law_row_here"] []
  k_l_tie : PySem.W.keepIn K (.ref Z.f_l_tie) = true
  g_l_tie : mg "_law_tie" = some (.ref Z.f_l_tie)
  F_l_row_of : Fun K "_law_row_of" "_law_row_of" s_l_row_of Z.f_l_row_of Z.d_l_row_of
  bn_l_row_of : Binds K Z.d_l_row_of ["_law_tie_here"] []
  k_l_row_of : PySem.W.keepIn K (.ref Z.f_l_row_of) = true
  g_l_row_of : mg "_law_row_of" = some (.ref Z.f_l_row_of)
  F_l_back : Fun K "_law_back" "_law_back" s_l_back Z.f_l_back Z.d_l_back
  bn_l_back : Binds K Z.d_l_back ["_law_row_here"] []
  k_l_back : PySem.W.keepIn K (.ref Z.f_l_back) = true
  g_l_back : mg "_law_back" = some (.ref Z.f_l_back)
  F_l_right : Fun K "_law_right" "_law_right" s_l_right Z.f_l_right Z.d_l_right
  bn_l_right : Binds K Z.d_l_right ["_law_pot_here"] []
  k_l_right : PySem.W.keepIn K (.ref Z.f_l_right) = true
  g_l_right : mg "_law_right" = some (.ref Z.f_l_right)
  F_law : Fun K "law" "law" s_law Z.f_law Z.d_law
  bn_law : Binds K Z.d_law ["_law_script"] []
  k_law : PySem.W.keepIn K (.ref Z.f_law) = true
  g_law : mg "law" = some (.ref Z.f_law)
  b_isinstance : mg "isinstance" = none
  b_int : mg "int" = none
  b_bool : mg "bool" = none
  b_str : mg "str" = none
  b_max : mg "max" = none
  b_len : mg "len" = none
  b_abs : mg "abs" = none
  b_list : mg "list" = none
  b_range : mg "range" = none
  b_min : mg "min" = none
  b_all : mg "all" = none
  b_repr : mg "repr" = none
  c_GREATEST : mg "GREATEST" = some (.int 1000000000000000000000000000000 Z.t_GREATEST)
  c__DIGITS : mg "_DIGITS" = some (.int 64 Z.t__DIGITS)
  c__CHUNK : mg "_CHUNK" = some (.int 10000000000000000000000000000000000000000000000000000000000000000 Z.t__CHUNK)
  cl : Cls K Z.cC
  g_C : mg "Tie" = some (.ref Z.cC)
  mkC : PySem.W.makesIn K Z.cC = true
  kC : PySem.W.keepIn K (.ref Z.cC) = true
  n_first : NoAttr K Z.cC "first"
  n_second : NoAttr K Z.cC "second"
  n_length : NoAttr K Z.cC "length"
  n_amount : NoAttr K Z.cC "amount"
  n_down : NoAttr K Z.cC "down"
  n_backward : NoAttr K Z.cC "backward"
  n_text : NoAttr K Z.cC "text"
  z_cls : PySem.W.findIn K (.ref Z.cC) "__class__" = some (some (.builtin "object.__class__"))
  z_get : PySem.W.specialIn K (.builtin "object.__class__") "__get__" = some (some (.builtin "getset_descriptor.__get__"))
  z_tk : PySem.W.takesIn K (.builtin "object.__class__") = some true
  z_mro : PySem.W.mroIn K Z.cC (.type "object") = some true
  z_kit : PySem.W.kitOne K (.ref Z.cC) (.ref Z.cC) = some true
  z_call : PySem.W.fnIn K Z.f_T_call = true
end TT

set_option Elab.async false
set_option linter.all false
set_option maxRecDepth 100000
set_option maxHeartbeats 4000000
namespace TT
open PySem PySem.Spec PyProof.Rows L2
/-! ### the law's draws -/
/-- a pot of draws stands at p: n numbers were mixed so far -/
def Pot (H : Hp) (p : Addr) (n : Nat) : Prop := ∃ own mix : Int, H p = some (.lst [.int own, .int mix, .int (n : Int)]) ∧ 0 ≤ own ∧ own < 10 ^ 300 ∧ 0 ≤ mix ∧ mix < 2305843009213693951
/-- all that was tracked but the object at p is as it was -/
def Keep (p : Addr) (H H' : Hp) : Prop := ∀ b o, b ≠ p → H b = some o → H' b = some o
theorem Keep.rfl' {p : Addr} {H : Hp} : Keep p H H := fun _ _ _ h => h
theorem Keep.trans {p : Addr} {H H1 H2 : Hp} (a : Keep p H H1) (b : Keep p H1 H2) : Keep p H H2 := fun c o n h => b c o n (a c o n h)
theorem Keep.of {p : Addr} {H H1 : Hp} (a : Same H H1) : Keep p H H1 := fun c o _ h => a c o h
theorem Keep.upd {p : Addr} {H H1 : Hp} {o : HO} (a : Keep p H H1) : Keep p H (upd H1 p o) := fun c u n h => by rw [upd_ne n]; exact a c u n h
theorem Keep.new {p q : Addr} {H H1 : Hp} {o : HO} (a : Keep p H H1) (h : H1 q = none) : Keep p H (L2.upd H1 q o) := fun c u n e => by
  have := a c u n e
  rw [upd_ne (ne_of_none this h)]
  exact this
theorem Same.new {q : Addr} {H H1 : Hp} {o : HO} (a : Same H H1) (h : H1 q = none) : Same H (L2.upd H1 q o) := fun c u e => by
  have := a c u e
  rw [upd_ne (ne_of_none this h)]
  exact this
theorem lt200 {u : Int} (h0 : 0 < u) (h : u < 10 ^ 60) : u.natAbs < 2 ^ 200 := by
  have : (10 : Int) ^ 60 < 2 ^ 200 := by decide
  omega
theorem bits62 {y : Int} (h0 : 0 ≤ y) (h : y < 2 ^ 62) : Builtin.Int.intBits y ≤ 64 := intBits_le_64 (by omega) (by omega)
theorem prime_at (i : Int) (h0 : 0 ≤ i) (h : i < 5) : ∃ v : Int, atI [V.int 2147483647, V.int 2147483629, V.int 2147483587, V.int 2147483579, V.int 2147483563] i = some (.int v) ∧ 2 ≤ v ∧ v ≤ 2147483648 := by
  have : i = 0 ∨ i = 1 ∨ i = 2 ∨ i = 3 ∨ i = 4 := by omega
  rcases this with rfl | rfl | rfl | rfl | rfl <;> exact ⟨_, rfl, by decide, by decide⟩
def sp_l_take : Sp := fun vs H Q _ => ∃ (p : Addr) (n : Nat) (u : Int), vs = [.ref p, .int u] ∧ Pot H p n ∧ n < 1000000 ∧ 0 < u ∧ u < 10 ^ 60 ∧
  ∀ (d : Int) (n' : Nat) (H' : Hp), 0 ≤ d → d < u → n' ≤ n + 1 → Pot H' p n' → Keep p H H' → Q (.int d) H'
section
variable {P : Program} {w : World} {K : PySem.W.Frag} {mg : Str → Option Value} {base : Heap} {Z : Zs}
theorem ok_l_take (T : Txt K mg Z) : FnOk P w K mg base CX0 1 Z.f_l_take Z.d_l_take ["_law_pot_here", "_law_under"] sp_l_take := by
  refine T.F_l_take.ok sc_l_take (fun vs H Q E h => ?_) (fun cdv A outer s H vs Q E hr h => ?_)
  · obtain ⟨p, n, u, rfl, _⟩ := h
    rfl
  · obtain ⟨p, n, u, rfl, ⟨own, mix, hp, o0, o1, m0, m1⟩, hn, u0, u1, k⟩ := h
    refine ⟨_, (pss_cons (ps_if (pt_cmpR op_gt (pe_ix ix_list (pv 0) pe_int (fun _ _ => rfl)) pe_int (nomark _)) (pss_cons (ps_set (i := 2) sc_l_take.nd rfl (Or.inl rfl) (pe_op op_mod (pe_callTy call_int1 (by rfl) T.b_int (by decide +kernel) (pa_cons (pe_ix ix_list (pv 0) pe_int (fun _ _ => rfl)) pa_nil)) (pv 1)))
      (pss_cons (ps_asg (pe_op op_fdivW (pe_ix ix_list (pv 0) pe_int (fun _ _ => rfl)) (pv 1)) (pg_sub (pv 0) pe_int set_list))
      (pss_one (ps_ret (pv 2))))) pss_nil)
      (pss_cons (ps_asg (pe_op op_add (pe_ix ix_list (pv 0) pe_int (fun _ _ => rfl)) pe_int) (pg_sub (pv 0) pe_int set_list))
      (pss_cons (ps_set (i := 3) sc_l_take.nd rfl (Or.inl rfl) (pe_ix ix_list (pe_lst (pa_cons pe_int (pa_cons pe_int (pa_cons pe_int (pa_cons pe_int (pa_cons pe_int pa_nil)))))) (pe_op op_mod (pe_callTy call_int1 (by rfl) T.b_int (by decide +kernel) (pa_cons (pe_ix ix_list (pv 0) pe_int (fun _ _ => rfl)) pa_nil)) pe_int) (fun _ _ => rfl)))
      (pss_cons (ps_set (i := 4) sc_l_take.nd rfl (Or.inl rfl) (pe_op op_mod (pe_callTy call_int1 (by rfl) T.b_int (by decide +kernel) (pa_cons (pe_op op_powW (pe_callTy call_int1 (by rfl) T.b_int (by decide +kernel) (pa_cons (pe_op op_add (pe_op op_add (pe_ix ix_list (pv 0) pe_int (fun _ _ => rfl)) (pe_op op_mul (pe_op op_mul pe_int (pe_ix ix_list (pv 0) pe_int (fun _ _ => rfl))) (pe_ix ix_list (pv 0) pe_int (fun _ _ => rfl)))) pe_int) pa_nil)) pe_int) pa_nil)) (pv 3)))
      (pss_cons (ps_set (i := 4) sc_l_take.nd rfl (Or.inl rfl) (pe_op op_mod (pe_callTy call_int1 (by rfl) T.b_int (by decide +kernel) (pa_cons (pe_op op_mul (pv 4) (pe_op op_add (pe_op op_mod (pe_callTy call_int1 (by rfl) T.b_int (by decide +kernel) (pa_cons (pv 4) pa_nil)) pe_int) (pe_op op_mul pe_int (pe_ix ix_list (pv 0) pe_int (fun _ _ => rfl))))) pa_nil)) pe_int))
      (pss_one (ps_ret (pe_op op_mod (pe_callTy call_int1 (by rfl) T.b_int (by decide +kernel) (pa_cons (pe_op op_fdivW (pv 4) pe_int) pa_nil)) (pv 1))))))))), ?_⟩
    refine ⟨_, rfl, p, _, _, _, rfl, rfl, SqL.of hp, rfl, _, _, rfl, rfl, _, rfl, ?_⟩
    refine ite2 (fun c => ?_) (fun c => ?_)
    · have c' : 0 < own := of_decide_eq_true c
      have q0 : 0 ≤ own / u := Int.ediv_nonneg o0 (Int.le_of_lt u0)
      have q1 : own / u < 10 ^ 300 := Int.lt_of_le_of_lt (Int.ediv_le_self _ o0) o1
      refine ⟨_, rfl, p, _, _, _, rfl, rfl, SqL.of hp, rfl, .inl ⟨_, rfl, _, rfl, _, _, rfl, rfl, u0, ?_⟩⟩
      refine ⟨_, rfl, p, _, _, _, rfl, rfl, SqL.of hp, rfl, _, rfl, _, _, rfl, rfl, wide_div u0 (b := 200) (lt200 u0 u1) (by decide) (by decide), _, rfl, p, _, _, _, rfl, rfl, hp, rfl, _, rfl, ?_⟩
      exact k _ n _ (Int.emod_nonneg _ (by omega)) (Int.emod_lt_of_pos _ u0) (Nat.le_succ _) ⟨own / u, mix, upd_same, q0, q1, m0, m1⟩ Keep.rfl'.upd
    · refine ⟨_, rfl, p, _, _, _, rfl, rfl, SqL.of hp, rfl, _, _, rfl, rfl, _, rfl, p, _, _, _, rfl, rfl, hp, rfl, ?_⟩
      obtain ⟨H1, hH1⟩ : ∃ H1, H1 = upd H p (.lst [V.int own, V.int mix, V.int ((n : Int) + 1)]) := ⟨_, rfl⟩
      have hp1 : H1 p = some (.lst [V.int own, V.int mix, V.int ((n : Int) + 1)]) := by rw [hH1]; exact upd_same
      have kp1 : Keep p H H1 := by rw [hH1]; exact Keep.rfl'.upd
      refine Eq.mp (congrArg _ hH1) ?_
      -- the primes
      refine ⟨by show 5 ≤ sizeLine; decide, fun q hq => ?_⟩
      have npq : p ≠ q := ne_of_none hp1 hq
      have hp2 : (upd H1 q (.lst [V.int 2147483647, V.int 2147483629, V.int 2147483587, V.int 2147483579, V.int 2147483563])) p = some (.lst [V.int own, V.int mix, V.int ((n : Int) + 1)]) := by rw [upd_ne npq]; exact hp1
      refine ⟨_, rfl, p, _, _, _, rfl, rfl, SqL.of hp2, rfl, .inl ⟨_, rfl, _, _, rfl, rfl, by show (0 : Int) < 5; decide, ?_⟩⟩
      obtain ⟨v, hv, v0, v1⟩ := prime_at (((n : Int) + 1) % 5) (Int.emod_nonneg _ (by decide)) (Int.emod_lt_of_pos _ (by decide))
      refine ⟨q, _, _, _, rfl, rfl, SqL.of upd_same, hv, ?_⟩
      generalize hH2 : upd H1 q (.lst [V.int 2147483647, V.int 2147483629, V.int 2147483587, V.int 2147483579, V.int 2147483563]) = H2 at hp2 ⊢
      have kp2 : Keep p H H2 := by rw [← hH2]; exact kp1.new hq
      -- mixed
      refine ⟨_, rfl, p, _, _, _, rfl, rfl, SqL.of hp2, rfl, _, rfl, p, _, _, _, rfl, rfl, SqL.of hp2, rfl, _, _, rfl, rfl, .inl (by constructor <;> decide), _, rfl, p, _, _, _, rfl, rfl, SqL.of hp2, rfl, _, _, rfl, rfl, .inr (by constructor <;> omega), _, _, rfl, rfl, _, _, rfl, rfl, .inl ⟨_, rfl, ?_⟩⟩
      have b1 : 0 ≤ 100169 * ((n : Int) + 1) * ((n : Int) + 1) ∧ 100169 * ((n : Int) + 1) * ((n : Int) + 1) ≤ 100169 * 1000000 * 1000000 := by
        have h1 : 0 ≤ (n : Int) + 1 := by omega
        have h2 : (n : Int) + 1 ≤ 1000000 := by omega
        refine ⟨Int.mul_nonneg (Int.mul_nonneg (by decide) h1) h1, ?_⟩
        exact Int.mul_le_mul (Int.mul_le_mul_of_nonneg_left h2 (by decide)) h2 h1 (by decide)
      generalize hz : 100169 * ((n : Int) + 1) * ((n : Int) + 1) = z at b1 ⊢
      have b2 : 0 ≤ mix + z + 53 ∧ mix + z + 53 < 2 ^ 62 := by constructor <;> omega
      generalize mix + z + 53 = y at b2 ⊢
      refine ⟨_, _, rfl, rfl, ⟨by decide, ?_⟩, .inl ⟨_, rfl, ?_⟩⟩
      · have := bits62 b2.1 b2.2
        show ((Builtin.Int.intBits y : Nat) : Int) * 3 ≤ 2 ^ 27
        omega
      refine ⟨_, rfl, _, _, rfl, rfl, by omega, ?_⟩
      have b3 : 0 ≤ y ^ (3 : Int).toNat % v ∧ y ^ (3 : Int).toNat % v < 2147483648 := ⟨Int.emod_nonneg _ (by omega), Int.lt_of_lt_of_le (Int.emod_lt_of_pos _ (by omega)) (by omega)⟩
      refine ⟨_, rfl, _, rfl, .inl ⟨_, rfl, _, _, rfl, rfl, by show (0 : Int) < 10039; decide, _, rfl, p, _, _, _, rfl, rfl, SqL.of hp2, rfl, _, _, rfl, rfl, .inl (by constructor <;> decide), _, _, rfl, rfl, _, _, rfl, rfl, .inl (by constructor <;> omega), .inl ⟨_, rfl, _, _, rfl, rfl, (by decide : (0 : Int) < 2305843009213693907), ?_⟩⟩⟩
      refine ⟨_, rfl, _, _, rfl, rfl, wide_div (j := 127) (by decide) (b := 200) (by decide) (by decide) (by decide), .inl ⟨_, rfl, _, rfl, _, _, rfl, rfl, u0, ?_⟩⟩
      exact k _ (n + 1) _ (Int.emod_nonneg _ (by omega)) (Int.emod_lt_of_pos _ u0) (Nat.le_refl _) ⟨own, mix, hp2, o0, o1, m0, m1⟩ kp2
end
end TT

set_option Elab.async false
set_option linter.all false
set_option maxRecDepth 100000
set_option maxHeartbeats 4000000
namespace TT
open PySem PySem.Spec PyProof.Rows L2
def sp_l_of : Sp := fun vs H Q _ => ∃ (p a : Addr) (n : Nat) (xs : List V), vs = [.ref p, .ref a] ∧ Pot H p n ∧ n < 1000000 ∧ H a = some (.lst xs) ∧ a ≠ p ∧ 0 < xs.length ∧ xs.length ≤ 1000 ∧
  ∀ (v : V) (n' : Nat) (H' : Hp), v ∈ xs → n' ≤ n + 1 → Pot H' p n' → Keep p H H' → Q v H'
def sp_l_cells (K : PySem.W.Frag) : Sp := fun vs H Q _ => ∃ (a : Addr) (ns : List Int) (most : Int), vs = [.ref a, .int most] ∧ SqL K H a (ns.map V.int) ∧ ns.length ≤ 63 ∧ 1 ≤ most ∧ most ≤ 63 ∧
  ∀ (q : Addr) (m : Int), H q = none → 1 ≤ m → m ≤ 63 → Q (.ref q) (upd H q (.lst (rgV 0 m)))
def sp_l_pot (K : PySem.W.Frag) : Sp := fun vs H Q _ => ∃ (a : Addr) (ns : List Int) (i : Int), vs = [.ref a, .int i] ∧ SqL K H a (ns.map V.int) ∧ ns.length ≤ 63 ∧ 0 ≤ i ∧ i < 100 ∧
  ∀ (p : Addr) (H' : Hp), H p = none → Same H H' → Pot H' p 0 → Q (.ref p) H'
theorem at_mem {xs : List V} {i : Int} (h0 : 0 ≤ i) (h : i < (xs.length : Int)) : ∃ v, atI xs i = some v ∧ v ∈ xs := by
  obtain ⟨j, rfl⟩ : ∃ j : Nat, i = (j : Int) := ⟨i.toNat, by omega⟩
  have hj : j < xs.length := by omega
  exact ⟨xs[j], atI_nat (List.getElem?_eq_getElem hj), List.getElem_mem hj⟩
theorem ite01 (b : Bool) : -(2 ^ 64) < (if b = true then (1 : Int) else 0) ∧ (if b = true then (1 : Int) else 0) < 2 ^ 64 := by cases b <;> constructor <;> decide
theorem share {T : Int → Prop} {G : Prop} (h : (∀ z, T z) → G) (t : ∀ z, T z) : G := h t
section
variable {P : Program} {w : World} {K : PySem.W.Frag} {mg : Str → Option Value} {base : Heap} {Z : Zs}
theorem ok_l_of (T : Txt K mg Z) : FnOk P w K mg base CX0 2 Z.f_l_of Z.d_l_of ["_law_pot_here", "_law_some"] sp_l_of := by
  refine T.F_l_of.ok sc_l_of (fun vs H Q E h => ?_) (fun cdv A outer s H vs Q E hr h => ?_)
  · obtain ⟨p, a, n, xs, rfl, _⟩ := h
    rfl
  · obtain ⟨p, a, n, xs, rfl, hp, hn, ha, hne, l0, l1, k⟩ := h
    refine ⟨_, (pss_one (ps_ret (pe_ix ix_list (pv 1) (pe_call (ok_l_take T) (hr.mono (by decide)) rfl T.g_l_take T.k_l_take T.bn_l_take .nil pass0 (pa_cons (pv 0) (pa_cons (pe_callB call_len (by rfl) T.b_len (by decide +kernel) (pa_cons (pv 1) pa_nil)) pa_nil))) (fun _ _ => rfl)))), ?_⟩
    have big : (xs.length : Int) < 10 ^ 60 := by
      have : (1000 : Int) < 10 ^ 60 := by decide
      omega
    refine ⟨_, rfl, _, rfl, _, rfl, _, _, rfl, .inl ⟨_, SqL.of ha, rfl⟩, p, n, _, rfl, hp, hn, by omega, big, fun d n' H' d0 d1 hn' hp' kp => ?_⟩
    obtain ⟨v, hv, hm⟩ := at_mem d0 d1
    exact ⟨a, xs, d, v, rfl, rfl, SqL.of (kp _ _ hne ha), hv, k v n' H' hm hn' hp' kp⟩
theorem ok_l_cells (T : Txt K mg Z) : FnOk P w K mg base CX0 1 Z.f_l_cells Z.d_l_cells ["_law_script", "_law_most"] (sp_l_cells K) := by
  refine T.F_l_cells.ok sc_l_cells (fun vs H Q E h => ?_) (fun cdv A outer s H vs Q E hr h => ?_)
  · obtain ⟨a, ns, m, rfl, _⟩ := h
    rfl
  · obtain ⟨a, ns, m, rfl, hS, hl, m0, m1, k⟩ := h
    refine ⟨_, (pss_one (ps_ret (pe_listRg rfl rfl T.b_list (prg_1 rfl T.b_range (pe_callB (call_max2 rfl) (by rfl) T.b_max (by decide +kernel) (pa_cons pe_int (pa_cons (pe_callB (call_min2 rfl) (by rfl) T.b_min (by decide +kernel) (pa_cons (pv 1) (pa_cons (pe_callB call_len (by rfl) T.b_len (by decide +kernel) (pa_cons (pv 0) pa_nil)) pa_nil))) pa_nil))))))), ?_⟩
    refine ⟨_, rfl, _, rfl, _, _, rfl, .inl ⟨_, hS, rfl⟩, _, _, rfl, _, _, rfl, ?_⟩
    rw [List.length_map]
    have b : 1 ≤ (if (if (ns.length : Int) < m then (ns.length : Int) else m) > 1 then (if (ns.length : Int) < m then (ns.length : Int) else m) else 1) ∧ (if (if (ns.length : Int) < m then (ns.length : Int) else m) > 1 then (if (ns.length : Int) < m then (ns.length : Int) else m) else 1) ≤ 63 := by
      constructor <;> split <;> first | omega | (split <;> omega)
    exact ⟨_, rfl, RgOk.of_le (by decide) (by omega) (by decide) (by omega), fun q hq => k q _ hq b.1 b.2⟩
theorem own_bound (x : Int) (b : Bool) : 0 ≤ x % ((10 : Int) ^ (60 : Int).toNat) ^ (5 : Int).toNat * (if b = true then 1 else 0) ∧ x % ((10 : Int) ^ (60 : Int).toNat) ^ (5 : Int).toNat * (if b = true then 1 else 0) < 10 ^ 300 := by
  have e : ((10 : Int) ^ (60 : Int).toNat) ^ (5 : Int).toNat = 10 ^ 300 := by decide
  rw [e]
  have h1 := Int.emod_nonneg x (b := 10 ^ 300) (by decide)
  have h2 := Int.emod_lt_of_pos x (b := 10 ^ 300) (by decide)
  cases b
  · simp only [Bool.false_eq_true, if_false, Int.mul_zero]
    exact ⟨Int.le_refl _, by decide⟩
  · simp only [if_true, Int.mul_one]
    exact ⟨h1, h2⟩
theorem ok_l_pot (T : Txt K mg Z) : FnOk P w K mg base CX0 1 Z.f_l_pot Z.d_l_pot ["_law_script", "_law_k"] (sp_l_pot K) := by
  refine T.F_l_pot.ok sc_l_pot (fun vs H Q E h => ?_) (fun cdv A outer s H vs Q E hr h => ?_)
  · obtain ⟨a, ns, i, rfl, _⟩ := h
    rfl
  · obtain ⟨a, ns, i, rfl, hS, hl, i0, i1, k⟩ := h
    refine ⟨_, (pss_cons (ps_set (i := 2) sc_l_pot.nd rfl (Or.inl rfl) (pe_ifExp (pt_cmpR op_lt (pv 1) (pe_callB call_len (by rfl) T.b_len (by decide +kernel) (pa_cons (pv 0) pa_nil)) (nomark _)) (pe_ix ix_list (pv 0) (pv 1) (fun _ _ => rfl)) (pe_op op_add (pe_op op_mul pe_int (pv 1)) pe_int)))
      (pss_cons (ps_set (i := 3) sc_l_pot.nd rfl (Or.inl rfl) (pe_op op_mul (pe_op op_mod (pe_callTy call_int1 (by rfl) T.b_int (by decide +kernel) (pa_cons (pe_callB call_abs (by rfl) T.b_abs (by decide +kernel) (pa_cons (pv 2) pa_nil)) pa_nil)) (pe_op op_powW (pe_op op_powW pe_int pe_int) pe_int)) (pe_callTy call_int1 (by rfl) T.b_int (by decide +kernel) (pa_cons (pe_cmpR op_ge (pe_callB call_abs (by rfl) T.b_abs (by decide +kernel) (pa_cons (pv 2) pa_nil)) (pe_op op_powW pe_int pe_int) (nomark _)) pa_nil))))
      (pss_cons (ps_set (i := 4) sc_l_pot.nd rfl (Or.inl rfl) (pe_op op_mod (pe_callTy call_int1 (by rfl) T.b_int (by decide +kernel) (pa_cons (pv 2) pa_nil)) pe_int))
      (pss_one (ps_ret (pe_lst (pa_cons (pv 3) (pa_cons (pe_op op_mod (pe_callTy call_int1 (by rfl) T.b_int (by decide +kernel) (pa_cons (pe_op op_add (pe_op op_add (pe_op op_mul (pv 4) pe_int) (pe_op op_mul (pe_op op_mul pe_int (pv 1)) (pv 1))) pe_int) pa_nil)) pe_int) (pa_cons pe_int pa_nil))))))))), ?_⟩
    refine ⟨_, rfl, _, rfl, _, _, rfl, .inl ⟨_, hS, rfl⟩, _, _, rfl, rfl, _, rfl, ?_⟩
    rw [List.length_map]
    refine' share (fun tail => ite2 (fun c => ?b1) (fun c => ?b2)) ?b3
    case b1 =>
      have c' : i < (ns.length : Int) := of_decide_eq_true c
      obtain ⟨v, hv, hm⟩ := at_mem (xs := ns.map V.int) i0 (by rw [List.length_map]; exact c')
      obtain ⟨z, _, rfl⟩ := List.mem_map.mp hm
      exact ⟨_, rfl, _, rfl, a, _, _, _, rfl, rfl, hS, hv, tail z⟩
    case b2 => exact ⟨_, rfl, _, _, rfl, rfl, .inl (by constructor <;> decide), _, _, rfl, rfl, tail _⟩
    case b3 =>
      intro z
      refine ⟨_, rfl, _, rfl, .inl ⟨_, rfl, _, _, rfl, rfl, ⟨by decide, by decide +kernel⟩, _, _, rfl, rfl, ⟨by decide, by decide +kernel⟩, _, _, rfl, rfl, (by decide +kernel : (0 : Int) < ((10 : Int) ^ (60 : Int).toNat) ^ (5 : Int).toNat), ?_⟩⟩
      refine ⟨_, rfl, _, rfl, _, _, rfl, rfl, ⟨by decide, by decide +kernel⟩, _, _, rfl, rfl, .inr ⟨_, rfl, _, _, rfl, rfl, .inr (ite01 _), ?_⟩⟩
      have ob := own_bound (if z < 0 then -z else z) (decide ((10 : Int) ^ (18 : Int).toNat ≤ (if z < 0 then -z else z)))
      refine ⟨_, rfl, .inl ⟨_, rfl, _, _, rfl, rfl, by show (0 : Int) < 2305843009213693951; decide, ?_⟩⟩
      refine ⟨_, rfl, _, rfl, _, _, rfl, rfl, .inr (by constructor <;> decide), _, rfl, _, _, rfl, rfl, .inl (by constructor <;> decide), _, rfl, _, _, rfl, rfl, .inr (by constructor <;> omega), _, _, rfl, rfl, _, _, rfl, rfl, .inl ⟨_, rfl, _, _, rfl, rfl, by show (0 : Int) < 2305843009213693921; decide, ?_⟩⟩
      refine ⟨by show 3 ≤ sizeLine; decide, fun p hp => k p _ hp (Same.new (Same.refl H) hp) ⟨_, _, upd_same, ob.1, ob.2, Int.emod_nonneg _ (by decide), ?_⟩⟩
      exact Int.lt_trans (Int.emod_lt_of_pos _ (by decide)) (by decide)
end
end TT

set_option Elab.async false
set_option linter.all false
set_option maxRecDepth 100000
set_option maxHeartbeats 4000000
namespace TT
open PySem PySem.Spec PyProof.Rows L2
theorem Pot.new {H : Hp} {p q : Addr} {n : Nat} {o : HO} (h : Pot H p n) (hq : H q = none) : Pot (upd H q o) p n := by
  obtain ⟨a, m, e, r⟩ := h
  exact ⟨a, m, by rw [upd_ne (ne_of_none e hq)]; exact e, r⟩
theorem free_of {H H' : Hp} {p q : Addr} {n m : Nat} (k : Keep p H H') (hp : Pot H p n) (hq : H' q = none) (hp' : Pot H' p m) : H q = none := by
  cases e : H q with
  | none => rfl
  | some o =>
    have ne : q ≠ p := by
      rintro rfl
      obtain ⟨_, _, z, _⟩ := hp'
      rw [hq] at z; cases z
    rw [k q o ne e] at hq
    cases hq
/-! ### rows: the law's own picture of a tie -/
/-- the six values of a tie -/
structure Row where
  f : Int
  s : Int
  l : Int
  a : Int
  d : Bool
  b : Bool
/-- such as a tie may have: places within 10 ^ 30, amounts below 10 ^ 40 -/
structure Row.Ok (r : Row) : Prop where
  f0 : 0 ≤ r.f
  s0 : 0 ≤ r.s
  l0 : 1 ≤ r.l
  fe : r.f + r.l ≤ 10 ^ 30
  se : r.s + r.l ≤ 10 ^ 30
  al : -(10 ^ 60) < r.a
  ah : r.a < 10 ^ 60
  bk : r.b = true → 1 < r.l
def Row.vs (r : Row) : List V := [.int r.f, .int r.s, .int r.l, .int r.a, .bl r.d, .bl r.b]
def Row.dat (r : Row) : PyData := .tuple [.int r.f, .int r.s, .int r.l, .int r.a, .bool r.d, .bool r.b]
/-- a row as a tuple stands at q -/
def RowAt (H : Hp) (q : Addr) (r : Row) : Prop := H q = some (.tup r.vs)
theorem Keep.row {p q : Addr} {H H' : Hp} {r : Row} {n : Nat} (k : Keep p H H') (hp : Pot H p n) (h : RowAt H q r) : RowAt H' q r := by
  refine k _ _ ?_ h
  obtain ⟨_, _, e, _⟩ := hp
  exact ne_of h e (fun z => by cases z)
def sp_l_amount : Sp := fun vs H Q _ => ∃ (p : Addr) (n : Nat), vs = [.ref p] ∧ Pot H p n ∧ n < 1000000 ∧
  ∀ (v : Int) (n' : Nat) (H' : Hp), -(10 ^ 40) < v → v < 10 ^ 40 → n' ≤ n + 1 → Pot H' p n' → Keep p H H' → Q (.int v) H'
def sp_l_row : Sp := fun vs H Q _ => ∃ (p : Addr) (n : Nat) (z : Int), vs = [.ref p, .int z] ∧ Pot H p n ∧ n + 6 < 1000000 ∧ 1 ≤ z ∧ z ≤ 1000 ∧
  ∀ (r : Row) (q : Addr) (n' : Nat) (H' : Hp), r.Ok → r.f + r.l ≤ z → r.s + r.l ≤ z → n' ≤ n + 6 → Pot H' p n' → Keep p H H' → RowAt H' q r → H q = none → Q (.ref q) H'
section
variable {P : Program} {w : World} {K : PySem.W.Frag} {mg : Str → Option Value} {base : Heap} {Z : Zs}
theorem ok_l_amount (T : Txt K mg Z) : FnOk P w K mg base CX0 3 Z.f_l_amount Z.d_l_amount ["_law_pot_here"] sp_l_amount := by
  refine T.F_l_amount.ok sc_l_amount (fun vs H Q E h => ?_) (fun cdv A outer s H vs Q E hr h => ?_)
  · obtain ⟨p, n, rfl, _⟩ := h
    rfl
  · obtain ⟨p, n, rfl, hp, hn, k⟩ := h
    refine ⟨_, (pss_one (ps_ret (pe_call (ok_l_of T) (hr.mono (by decide)) rfl T.g_l_of T.k_l_of T.bn_l_of .nil pass0 (pa_cons (pv 0) (pa_cons (pe_lst (pa_cons pe_int (pa_cons pe_int (pa_cons pe_int (pa_cons (pe_un un_neg pe_int) (pa_cons pe_int (pa_cons pe_int (pa_cons (pe_un un_neg pe_int) (pa_cons pe_int (pa_cons (pe_op op_powW pe_int pe_int) pa_nil)))))))))) pa_nil))))), ?_⟩
    refine ⟨_, rfl, _, rfl, _, rfl, _, _, rfl, rfl, ⟨by decide, by decide +kernel⟩, by show 9 ≤ sizeLine; decide, fun a ha => ?_⟩
    have hpa : p ≠ a := by
      obtain ⟨_, _, e, _⟩ := hp
      exact ne_of_none e ha
    have hp2 : Pot (upd H a (.lst [.int 0, .int 0, .int 1, .int (-1), .int 2, .int 5, .int (-7), .int 12, .int ((10 : Int) ^ (35 : Int).toNat)])) p n := by
      obtain ⟨o, m, e, r⟩ := hp
      exact ⟨o, m, by rw [upd_ne hpa]; exact e, r⟩
    refine ⟨p, a, n, _, rfl, hp2, hn, upd_same, hpa.symm, by decide, by decide, fun v n' H' hv hn' hp' kp => ?_⟩
    have kp' : Keep p H H' := (Keep.new Keep.rfl' ha).trans kp
    simp only [List.mem_cons, List.not_mem_nil, or_false] at hv
    rcases hv with rfl | rfl | rfl | rfl | rfl | rfl | rfl | rfl | rfl <;> exact k _ n' H' (by decide) (by decide) hn' hp' kp'
theorem ok_l_row (T : Txt K mg Z) : FnOk P w K mg base CX0 4 Z.f_l_row Z.d_l_row ["_law_pot_here", "_law_size"] sp_l_row := by
  refine T.F_l_row.ok sc_l_row (fun vs H Q E h => ?_) (fun cdv A outer s H vs Q E hr h => ?_)
  · obtain ⟨p, n, z, rfl, _⟩ := h
    rfl
  · obtain ⟨p, n, z, rfl, hp, hn, z0, z1, k⟩ := h
    refine ⟨_, (pss_cons (ps_set (i := 2) sc_l_row.nd rfl (Or.inl rfl) (pe_op op_add pe_int (pe_call (ok_l_take T) (hr.mono (by decide)) rfl T.g_l_take T.k_l_take T.bn_l_take .nil pass0 (pa_cons (pv 0) (pa_cons (pv 1) pa_nil)))))
      (pss_cons (ps_par (i := 3) (j := 4) (by rfl) sc_l_row.nd rfl rfl (by decide) rfl rfl (pa_cons (pe_call (ok_l_take T) (hr.mono (by decide)) rfl T.g_l_take T.k_l_take T.bn_l_take .nil pass0 (pa_cons (pv 0) (pa_cons (pe_op op_add (pe_op op_sub (pv 1) (pv 2)) pe_int) pa_nil))) (pa_cons (pe_call (ok_l_take T) (hr.mono (by decide)) rfl T.g_l_take T.k_l_take T.bn_l_take .nil pass0 (pa_cons (pv 0) (pa_cons (pe_op op_add (pe_op op_sub (pv 1) (pv 2)) pe_int) pa_nil))) pa_nil)) (by rfl))
      (pss_cons (ps_par3 (i := 5) (j := 6) (l := 7) rfl sc_l_row.nd rfl rfl rfl (by decide) (by decide) (by decide) rfl rfl rfl (pa_cons (pe_call (ok_l_amount T) (hr.mono (by decide)) rfl T.g_l_amount T.k_l_amount T.bn_l_amount .nil pass0 (pa_cons (pv 0) pa_nil)) (pa_cons (pe_cmpR op_eq (pe_call (ok_l_take T) (hr.mono (by decide)) rfl T.g_l_take T.k_l_take T.bn_l_take .nil pass0 (pa_cons (pv 0) (pa_cons pe_int pa_nil))) pe_int (nomark _)) (pa_cons (pe_cmpR op_eq (pe_call (ok_l_take T) (hr.mono (by decide)) rfl T.g_l_take T.k_l_take T.bn_l_take .nil pass0 (pa_cons (pv 0) (pa_cons pe_int pa_nil))) pe_int (nomark _)) pa_nil))) (by rfl))
      (pss_one (ps_ret (pe_tup (pa_cons (pv 3) (pa_cons (pv 4) (pa_cons (pv 2) (pa_cons (pv 5) (pa_cons (pv 6) (pa_cons (pe_and (pv 7) (pe_one (pe_cmpR op_gt (pv 2) pe_int (nomark _)))) pa_nil)))))))))))), ?_⟩
    have big : (1001 : Int) < 10 ^ 60 := by decide
    refine ⟨_, rfl, _, rfl, p, n, _, rfl, hp, by omega, by omega, by omega, fun d1 n1 H1 a0 a1 hn1 hp1 k1 => ?_⟩
    refine ⟨_, _, rfl, rfl, ?_⟩
    refine ⟨_, rfl, _, rfl, _, rfl, _, _, rfl, rfl, _, _, rfl, rfl, p, n1, _, rfl, hp1, by omega, by show 0 < z - (1 + d1) + 1; omega, by show z - (1 + d1) + 1 < 10 ^ 60; omega, fun d2 n2 H2 b0 b1 hn2 hp2 k2 => ?_⟩
    refine ⟨_, rfl, _, rfl, _, rfl, _, _, rfl, rfl, _, _, rfl, rfl, p, n2, _, rfl, hp2, by omega, by show 0 < z - (1 + d1) + 1; omega, by show z - (1 + d1) + 1 < 10 ^ 60; omega, fun d3 n3 H3 c0 c1 hn3 hp3 k3 => ?_⟩
    refine ⟨_, _, rfl, ?_⟩
    refine ⟨_, rfl, p, n3, rfl, hp3, by omega, fun am n4 H4 e0 e1 hn4 hp4 k4 => ?_⟩
    refine ⟨_, rfl, p, n4, _, rfl, hp4, by omega, by decide, by decide, fun d5 n5 H5 _ _ hn5 hp5 k5 => ?_⟩
    refine ⟨rfl, ?_⟩
    refine ⟨_, rfl, p, n5, _, rfl, hp5, by omega, by decide, by decide, fun d6 n6 H6 _ _ hn6 hp6 k6 => ?_⟩
    refine ⟨rfl, ?_⟩
    refine ⟨_, _, _, rfl, ?_⟩
    refine ⟨_, rfl, _, rfl, _, rfl, _, rfl, _, rfl, _, rfl, _, rfl, ?_⟩
    have rok : ∀ bk : Bool, (bk = true → 1 < 1 + d1) → Row.Ok ⟨d2, d3, 1 + d1, am, decide (V.int d5 = V.int 0), bk⟩ := fun bk hb =>
      ⟨b0, c0, by show 1 ≤ 1 + d1; omega, by show d2 + (1 + d1) ≤ 10 ^ 30; omega, by show d3 + (1 + d1) ≤ 10 ^ 30; omega, by show -(10 ^ 60) < am; omega, by show am < 10 ^ 60; omega, hb⟩
    have kp : Keep p H H6 := ((((k1.trans k2).trans k3).trans k4).trans k5).trans k6
    refine ite2 (fun c => ?_) (fun c => ?_)
    · refine ⟨_, rfl, _, _, rfl, rfl, by show 6 ≤ sizeLine; decide, fun q hq => ?_⟩
      have nq : H q = none := free_of kp hp hq hp6
      refine k _ q n6 _ (rok (decide (1 < 1 + d1)) fun h => of_decide_eq_true h) (by show d2 + (1 + d1) ≤ z; omega) (by show d3 + (1 + d1) ≤ z; omega) (by omega) (hp6.new hq) (kp.new hq) upd_same nq
    · refine ⟨by show 6 ≤ sizeLine; decide, fun q hq => ?_⟩
      have nq : H q = none := free_of kp hp hq hp6
      refine k _ q n6 _ (rok false fun h => by cases h) (by show d2 + (1 + d1) ≤ z; omega) (by show d3 + (1 + d1) ≤ z; omega) (by omega) (hp6.new hq) (kp.new hq) upd_same nq
end
end TT

set_option Elab.async false
set_option linter.all false
set_option maxRecDepth 100000
set_option maxHeartbeats 4000000
namespace TT
open PySem PySem.Spec PyProof.Rows L2
/-! ### integers -/
/-- whether a value is an int and no bool -/
def Whole (K : PySem.W.Frag) (H : Hp) (x : V) (b : Bool) : Prop := ∃ (t : Value) (b1 b2 : Bool), TyX K H x t ∧ PySem.W.kitOne K t (.type "int") = some b1 ∧ PySem.W.kitOne K t (.type "bool") = some b2 ∧ (b1 && !b2) = b
theorem whole_int {K : PySem.W.Frag} {H : Hp} (i : Int) : Whole K H (.int i) true := ⟨_, true, false, .base (.int i), kit_ty (by decide +kernel), kit_ty (by decide +kernel), rfl⟩
def sp_is_whole (K : PySem.W.Frag) : Sp := fun vs H Q _ => ∃ (x : V) (b : Bool), vs = [x] ∧ Whole K H x b ∧ Q (.bl b) H
def sp_is_from (K : PySem.W.Frag) : Sp := fun vs H Q _ => (∃ v l : Int, vs = [.int v, .int l] ∧ Q (.bl (decide (l ≤ v))) H) ∨ ∃ x l : V, vs = [x, l] ∧ Whole K H x false ∧ Q (.bl false) H
def sp_is_between (K : PySem.W.Frag) : Sp := fun vs H Q _ => (∃ v l g : Int, vs = [.int v, .int l, .int g] ∧ Q (.bl (decide (l ≤ v) && decide (v ≤ g))) H) ∨ ∃ x l g : V, vs = [x, l, g] ∧ Whole K H x false ∧ Q (.bl false) H
/-- written(n), n below 10 ^ 64 in size: as Python writes it -/
def shownInt (n : Int) : Str := if n < 0 then Str.ofString "-" ++ Str.ofString (toString (-n)) else Str.ofString (toString n)
def sp_written0 : Sp := fun vs H Q _ => ∃ n : Int, vs = [.int n] ∧ 0 ≤ n ∧ n < 10 ^ 64 ∧ ∀ H', Same H H' → Q (.str (Str.ofString (toString n))) H'
def sp_written : Sp := fun vs H Q _ => ∃ n : Int, vs = [.int n] ∧ -(10 ^ 64) < n ∧ n < 10 ^ 64 ∧ ∀ H', Same H H' → Q (.str (shownInt n)) H'
theorem FnOk.or {P : Program} {w : World} {K : PySem.W.Frag} {mg : Str → Option Value} {base : Heap} {CX : CXT} {k : Nat} {f : Addr} {fd : FuncData} {ps : List Str} {sp sp' : Sp} (F : FnOk P w K mg base CX k f fd ps sp) (G : FnOk P w K mg base CX k f fd ps sp') :
    FnOk P w K mg base CX k f fd ps (fun vs H Q E => sp vs H Q E ∨ sp' vs H Q E) :=
  ⟨fun vs H Q E h => h.elim (F.len _ _ _ _) (G.len _ _ _ _), fun A outer s H args us vs Q E r e b v h => h.elim (F.run A outer s H args us vs Q E r e b v) (G.run A outer s H args us vs Q E r e b v)⟩
theorem log_lt {n : Int} (h0 : 0 ≤ n) (h : n < 10 ^ 64) : n.natAbs.log2 < 1920 := PySem.Flt.log2_lt_of (by decide) (by
  have : (10 : Int) ^ 64 < 2 ^ 1920 := by decide +kernel
  omega)
theorem ge_chunk {n : Int} (h : n < 10 ^ 64) : decide ((10000000000000000000000000000000000000000000000000000000000000000 : Int) ≤ n) = false := decide_eq_false (by
  have e : (10 : Int) ^ 64 = 10000000000000000000000000000000000000000000000000000000000000000 := by decide +kernel
  omega)
theorem join1 (x : Str) : Txt.join (Str.ofString "") [x] = x := by
  first | rfl | simp [Txt.join]
section
variable {P : Program} {w : World} {K : PySem.W.Frag} {mg : Str → Option Value} {base : Heap} {Z : Zs}
theorem ok_is_whole (T : Txt K mg Z) : FnOk P w K mg base CX0 1 Z.f_is_whole Z.d_is_whole ["value"] (sp_is_whole K) := by
  refine T.F_is_whole.ok sc_is_whole (fun vs H Q E h => ?_) (fun cdv A outer s H vs Q E hr h => ?_)
  · obtain ⟨x, b, rfl, _⟩ := h
    rfl
  · obtain ⟨x, b, rfl, ⟨t, b1, b2, ty, e1, e2, e3⟩, k⟩ := h
    refine ⟨_, (pss_one (ps_ret (pe_and (pe_callB call_isi (by rfl) T.b_isinstance (by decide +kernel) (pa_cons (pv 0) (pa_cons (pe_bltn (v := .ty "int") rfl T.b_int (by decide +kernel) rfl) pa_nil))) (pe_one (pe_not (pe_callB call_isi (by rfl) T.b_isinstance (by decide +kernel) (pa_cons (pv 0) (pa_cons (pe_bltn (v := .ty "bool") rfl T.b_bool (by decide +kernel) rfl) pa_nil)))))))), ?_⟩
    refine ⟨_, rfl, _, _, t, _, b1, rfl, .ty "int", ty, e1, _, rfl, ?_⟩
    subst e3
    cases b1 with
    | true => exact iteT ⟨_, rfl, _, _, t, _, b2, rfl, .ty "bool", ty, e2, _, rfl, k⟩
    | false => exact iteF k
theorem ok_is_from (T : Txt K mg Z) : FnOk P w K mg base CX0 2 Z.f_is_from Z.d_is_from ["value", "least"] (sp_is_from K) := by
  refine T.F_is_from.ok sc_is_from (fun vs H Q E h => ?_) (fun cdv A outer s H vs Q E hr h => ?_)
  · rcases h with ⟨v, l, rfl, _⟩ | ⟨x, l, rfl, _⟩ <;> rfl
  · rcases h with ⟨v, l, rfl, k⟩ | ⟨x, l, rfl, hw, k⟩
    · refine ⟨_, (pss_one (ps_ret (pe_and (pe_call (ok_is_whole T) (hr.mono (by decide)) rfl T.g_is_whole T.k_is_whole T.bn_is_whole .nil pass0 (pa_cons (pv 0) pa_nil)) (pe_one (pe_cmpR op_ge (pv 0) (pv 1) (nomark _)))))), ?_⟩
      exact ⟨_, rfl, _, true, rfl, whole_int v, true, rfl, iteT ⟨_, rfl, _, rfl, _, _, rfl, rfl, k⟩⟩
    · refine ⟨_, (pss_one (ps_ret (pe_and (pe_call (ok_is_whole T) (hr.mono (by decide)) rfl T.g_is_whole T.k_is_whole T.bn_is_whole .nil pass0 (pa_cons (pv 0) pa_nil)) (pe_one (pe_cmpR op_ge (pv 0) (pv 1) (nomark _)))))), ?_⟩
      exact ⟨_, rfl, _, false, rfl, hw, false, rfl, iteF k⟩
theorem ok_is_between (T : Txt K mg Z) : FnOk P w K mg base CX0 3 Z.f_is_between Z.d_is_between ["value", "least", "greatest"] (sp_is_between K) := by
  refine T.F_is_between.ok sc_is_between (fun vs H Q E h => ?_) (fun cdv A outer s H vs Q E hr h => ?_)
  · rcases h with ⟨v, l, g, rfl, _⟩ | ⟨x, l, g, rfl, _⟩ <;> rfl
  · rcases h with ⟨v, l, g, rfl, k⟩ | ⟨x, l, g, rfl, hw, k⟩
    · refine ⟨_, (pss_one (ps_ret (pe_and (pe_call (ok_is_from T) (hr.mono (by decide)) rfl T.g_is_from T.k_is_from T.bn_is_from .nil pass0 (pa_cons (pv 0) (pa_cons (pv 1) pa_nil))) (pe_one (pe_cmpR op_le (pv 0) (pv 2) (nomark _)))))), ?_⟩
      refine ⟨_, rfl, _, rfl, .inl ⟨v, l, rfl, _, rfl, ?_⟩⟩
      cases e : decide (l ≤ v) with
      | true =>
        rw [e] at k
        exact iteT ⟨_, rfl, _, rfl, _, _, rfl, rfl, k⟩
      | false =>
        rw [e] at k
        exact iteF k
    · refine ⟨_, (pss_one (ps_ret (pe_and (pe_call (ok_is_from T) (hr.mono (by decide)) rfl T.g_is_from T.k_is_from T.bn_is_from .nil pass0 (pa_cons (pv 0) (pa_cons (pv 1) pa_nil))) (pe_one (pe_cmpR op_le (pv 0) (pv 2) (nomark _)))))), ?_⟩
      exact ⟨_, rfl, _, rfl, .inr ⟨x, l, rfl, hw, false, rfl, iteF k⟩⟩
theorem ok_written0 (T : Txt K mg Z) : FnOk P w K mg base CX0 1 Z.f_written Z.d_written ["number"] sp_written0 := by
  refine T.F_written.ok sc_written (fun vs H Q E h => ?_) (fun cdv A outer s H vs Q E hr h => ?_)
  · obtain ⟨n, rfl, _⟩ := h
    rfl
  · obtain ⟨n, rfl, n0, n1, k⟩ := h
    refine ⟨_, (pss_cons (ps_if (pt_cmpR op_lt (pv 0) pe_int (nomark _)) pss_never pss_nil)
      (pss_cons (ps_set (i := 1) sc_written.nd rfl (Or.inl rfl) (pv 0))
      (pss_cons (ps_set (i := 2) sc_written.nd rfl (Or.inl rfl) (pe_lst pa_nil))
      (pss_cons (ps_while PassesOwn.never (pt_cmpR op_ge (pv 1) (pe_glob (v := .int 10000000000000000000000000000000000000000000000000000000000000000) rfl T.c__CHUNK ⟨_, rfl⟩) (nomark _)) pss_never)
      (pss_cons (ps_expr (pe_bm PySem.F.plainAttrs_list PySem.F.slot_list_append PySem.F.type_list_append mt_append (pv 2) (pa_cons (pe_callTy call_str_int (by rfl) T.b_str (by decide +kernel) (pa_cons (pv 1) pa_nil)) pa_nil)))
      (pss_one (ps_ret (pe_join pe_str (pe_revL (pv 2)))))))))), ?_⟩
    refine ⟨_, rfl, _, _, rfl, rfl, _, rfl, ?_⟩
    rw [decide_eq_false (by omega : ¬ n < 0)]
    refine iteF ⟨_, rfl, by show 0 ≤ sizeLine; exact Nat.zero_le _, fun q hq => ?_⟩
    refine while_by (fun σ H2 => σ = [some (.int n), some (.int n), some (.ref q)] ∧ H2 = upd H q (.lst [])) (fun _ _ => 0) ⟨rfl, rfl⟩ ?_ ?_
    · rintro σ H2 ⟨rfl, rfl⟩
      refine ⟨_, rfl, _, _, rfl, rfl, _, rfl, ?_⟩
      rw [ge_chunk n1]
      refine iteF ?_
      refine ⟨_, rfl, .inl ⟨rfl, _, SqL.of upd_same⟩, _, rfl, _, rfl, log_lt n0 n1, q, _, _, rfl, rfl, upd_same, (by show 0 < sizeLine; decide), ?_⟩
      have n640 : (Str.ofString (toString n)).length ≤ 64 := toString_length_le n0 (by decide) n1
      refine ⟨⟨_, rfl⟩, _, rfl, q, _, rfl, SqL.of upd_same, fun p2 hp2 => ⟨_, p2, [Str.ofString (toString n)], rfl, rfl, .inl (SqL.of upd_same), ?_, ?_⟩⟩
      · show (Str.ofString (toString n)).length + 0 + 1 * 0 ≤ 16777216
        omega
      · rw [join1]
        refine k _ (Same.new (fun b o e => ?_) hp2)
        rw [upd_ne (ne_of_none e hq), upd_ne (ne_of_none e hq)]
        exact e
    · rintro σ H2 Q1 Q2 hQ ⟨v, e, i, j, e1, e2, b, e3, q1⟩
      exact ⟨v, e, i, j, e1, e2, b, e3, hQ _ _ q1⟩
theorem ok_written (T : Txt K mg Z) : FnOk P w K mg base CX0 2 Z.f_written Z.d_written ["number"] sp_written := by
  have neg : FnOk P w K mg base CX0 2 Z.f_written Z.d_written ["number"] (fun vs H Q _ => ∃ n : Int, vs = [.int n] ∧ -(10 ^ 64) < n ∧ n < 0 ∧ ∀ H', Same H H' → Q (.str (shownInt n)) H') := by
    refine T.F_written.ok sc_written (fun vs H Q E h => ?_) (fun cdv A outer s H vs Q E hr h => ?_)
    · obtain ⟨n, rfl, _⟩ := h
      rfl
    · obtain ⟨n, rfl, n0, n1, k⟩ := h
      refine ⟨_, (pss_cons (ps_if (pt_cmpR op_lt (pv 0) pe_int (nomark _)) (pss_one (ps_ret (pe_joined (.cons pe_str (.cons (pe_fmt (pe_call (ok_written0 T) (hr.mono (by decide)) rfl T.g_written T.k_written T.bn_written .nil pass0 (pa_cons (pe_un un_neg (pv 0)) pa_nil))) .nil))))) pss_nil) pss_never), ?_⟩
      refine ⟨_, rfl, _, _, rfl, rfl, _, rfl, ?_⟩
      rw [decide_eq_true (by omega : n < 0)]
      have sz : (Str.ofString (toString (-n))).length ≤ 64 := toString_length_le (by omega) (by decide) (by omega)
      have sl : sizeLine = 16777216 := sizeLine_eq
      refine iteT ⟨_, rfl, by decide, _, rfl, _, rfl, -n, rfl, by omega, by omega, fun H' sm => .inl ⟨_, rfl, by omega, _, rfl, ?_, ?_⟩⟩
      · rw [Str.length_append, Str.length_append]
        have : Str.empty.length = 0 := rfl
        have : (Str.ofString "-").length = 1 := by decide
        omega
      · have e : Str.empty ++ Str.ofString "-" ++ Str.ofString (toString (-n)) = shownInt n := by
          unfold shownInt
          rw [if_pos n1]
          rfl
        rw [e]
        exact k H' sm
  have pos : FnOk P w K mg base CX0 2 Z.f_written Z.d_written ["number"] sp_written0 := (ok_written0 T).mono (by decide)
  refine (FnOk.or neg pos).imp fun vs H Q E h => ?_
  obtain ⟨n, rfl, n0, n1, k⟩ := h
  by_cases c : n < 0
  · exact .inl ⟨n, rfl, n0, c, k⟩
  · refine .inr ⟨n, rfl, by omega, n1, fun H' sm => ?_⟩
    have := k H' sm
    rw [shownInt, if_neg c] at this
    exact this
end
end TT

set_option Elab.async false
set_option linter.all false
set_option maxRecDepth 100000
set_option maxHeartbeats 4000000
namespace TT
open PySem PySem.Spec PyProof.Rows L2
/-! ### ties -/
def way (b : Bool) : Str := if b = true then Str.ofString "down" else Str.ofString "up"
def backs (b : Bool) : Str := if b = true then Str.ofString " back" else Str.ofString ""
def tieText (r : Row) : Str := Str.empty ++ Str.ofString (toString r.f) ++ Str.ofString " " ++ Str.ofString (toString r.s) ++ Str.ofString " " ++ Str.ofString (toString r.l) ++ Str.ofString " " ++ way r.d ++ Str.ofString " " ++ shownInt r.a ++ backs r.b
/-- the attributes of a tie, in the sequence in which __init__ stores them -/
def fs1 (r : Row) : List (Str × V) := putF "first" (.int r.f) []
def fs2 (r : Row) : List (Str × V) := putF "second" (.int r.s) (fs1 r)
def fs3 (r : Row) : List (Str × V) := putF "length" (.int r.l) (fs2 r)
def fs4 (r : Row) : List (Str × V) := putF "amount" (.int r.a) (fs3 r)
def fs5 (r : Row) : List (Str × V) := putF "down" (.bl r.d) (fs4 r)
def fs6 (r : Row) : List (Str × V) := putF "backward" (.bl r.b) (fs5 r)
def tfs (r : Row) : List (Str × V) := putF "text" (.str (tieText r)) (fs6 r)
theorem len_putF {f : Str} {v : V} {fs : List (Str × V)} {n : Nat} (h : fs.length ≤ n) : (putF f v fs).length ≤ n + 1 := Nat.le_trans (length_putF f v fs) (Nat.succ_le_succ h)
theorem len1 (r : Row) : (fs1 r).length ≤ 1 := len_putF (Nat.le_refl 0)
theorem len2 (r : Row) : (fs2 r).length ≤ 2 := len_putF (len1 r)
theorem len3 (r : Row) : (fs3 r).length ≤ 3 := len_putF (len2 r)
theorem len4 (r : Row) : (fs4 r).length ≤ 4 := len_putF (len3 r)
theorem len5 (r : Row) : (fs5 r).length ≤ 5 := len_putF (len4 r)
theorem len6 (r : Row) : (fs6 r).length ≤ 6 := len_putF (len5 r)
theorem tfs_lookup (r : Row) (g : Str) : (tfs r).lookup g = if g = "text" then some (.str (tieText r)) else if g = "backward" then some (.bl r.b) else if g = "down" then some (.bl r.d) else if g = "amount" then some (.int r.a) else
    if g = "length" then some (.int r.l) else if g = "second" then some (.int r.s) else if g = "first" then some (.int r.f) else none := by
  unfold tfs fs6 fs5 fs4 fs3 fs2 fs1
  rw [lookup_putF, lookup_putF, lookup_putF, lookup_putF, lookup_putF, lookup_putF, lookup_putF]
  rfl
theorem fs6_backward (r : Row) : (fs6 r).lookup ("backward" : Str) = some (.bl r.b) := by
  unfold fs6
  rw [lookup_putF, if_pos rfl]
theorem tfs_text (r : Row) : (tfs r).lookup ("text" : Str) = some (.str (tieText r)) := by rw [tfs_lookup, if_pos rfl]
theorem tfs_backward (r : Row) : (tfs r).lookup ("backward" : Str) = some (.bl r.b) := by rw [tfs_lookup, if_neg (by decide +kernel), if_pos rfl]
theorem tfs_down (r : Row) : (tfs r).lookup ("down" : Str) = some (.bl r.d) := by rw [tfs_lookup, if_neg (by decide +kernel), if_neg (by decide +kernel), if_pos rfl]
theorem tfs_amount (r : Row) : (tfs r).lookup ("amount" : Str) = some (.int r.a) := by rw [tfs_lookup, if_neg (by decide +kernel), if_neg (by decide +kernel), if_neg (by decide +kernel), if_pos rfl]
theorem tfs_length (r : Row) : (tfs r).lookup ("length" : Str) = some (.int r.l) := by rw [tfs_lookup, if_neg (by decide +kernel), if_neg (by decide +kernel), if_neg (by decide +kernel), if_neg (by decide +kernel), if_pos rfl]
theorem tfs_second (r : Row) : (tfs r).lookup ("second" : Str) = some (.int r.s) := by rw [tfs_lookup, if_neg (by decide +kernel), if_neg (by decide +kernel), if_neg (by decide +kernel), if_neg (by decide +kernel), if_neg (by decide +kernel), if_pos rfl]
theorem tfs_first (r : Row) : (tfs r).lookup ("first" : Str) = some (.int r.f) := by rw [tfs_lookup, if_neg (by decide +kernel), if_neg (by decide +kernel), if_neg (by decide +kernel), if_neg (by decide +kernel), if_neg (by decide +kernel), if_neg (by decide +kernel), if_pos rfl]
/-- a tie of the six values stands at q -/
def TieAt (C : Addr) (H : Hp) (q : Addr) (r : Row) : Prop := ∃ dx, H q = some (.ins C dx (tfs r))
def sp_check_parts : Sp := fun vs H Q _ => ∃ f s l : Int, vs = [.int f, .int s, .int l] ∧ 0 ≤ f ∧ 0 ≤ s ∧ 1 ≤ l ∧ f + l ≤ 10 ^ 30 ∧ s + l ≤ 10 ^ 30 ∧ Q .non H
def sp_check_leading : Sp := fun vs H Q _ => ∃ (a : Int) (d b : Bool), vs = [.int a, .bl d, .bl b] ∧ Q .non H
/-- a tie of these values is made -/
def sp_T_init (C : Addr) : Sp := fun vs H Q _ => ∃ (p dx : Addr) (r : Row) (b : Bool), vs = [.ref p, .int r.f, .int r.s, .int r.l, .int r.a, .bl r.d, .bl b] ∧ r.Ok ∧ r.b = (b && decide (1 < r.l)) ∧ H p = some (.ins C dx []) ∧
  ∀ H', H' p = some (.ins C dx (tfs r)) → Keep p H H' → Q .non H'
theorem share0 {T G : Prop} (h : T → G) (t : T) : G := h t
local macro_rules | `(tactic| walk_at "len") => `(tactic| ((try simp only [Str.length_append]); omega))
theorem shown_len {n : Int} (h0 : -(10 ^ 64) < n) (h1 : n < 10 ^ 64) : (shownInt n).length ≤ 66 := by
  unfold shownInt
  split
  · have := toString_length_le (v := -n) (by omega) (k := 64) (by decide) (by omega)
    have e : (Str.ofString "-").length = 1 := by decide
    rw [Str.length_append]
    omega
  · have := toString_length_le (v := n) (by omega) (k := 64) (by decide) h1
    omega
section
variable {P : Program} {w : World} {K : PySem.W.Frag} {mg : Str → Option Value} {base : Heap} {Z : Zs}
theorem ok_check_parts (T : Txt K mg Z) : FnOk P w K mg base CX0 3 Z.f_check_parts Z.d_check_parts ["first", "second", "length"] sp_check_parts := by
  refine T.F_check_parts.ok sc_check_parts (fun vs H Q E h => ?_) (fun cdv A outer s H vs Q E hr h => ?_)
  · obtain ⟨f, g, l, rfl, _⟩ := h
    rfl
  · obtain ⟨f, g, l, rfl, f0, g0, l0, fe, ge, k⟩ := h
    refine ⟨_, (pss_cons (ps_if (pt_not (pt_val (pe_call (ok_is_from T) (hr.mono (by decide)) rfl T.g_is_from T.k_is_from T.bn_is_from .nil pass0 (pa_cons (pv 0) (pa_cons pe_int pa_nil))))) (pss_one ps_never) pss_nil)
      (pss_cons (ps_if (pt_not (pt_val (pe_call (ok_is_from T) (hr.mono (by decide)) rfl T.g_is_from T.k_is_from T.bn_is_from .nil pass0 (pa_cons (pv 1) (pa_cons pe_int pa_nil))))) (pss_one ps_never) pss_nil)
      (pss_one (ps_if (PW.pt (pw_or (pt_not (pt_val (pe_call (ok_is_from T) (hr.mono (by decide)) rfl T.g_is_from T.k_is_from T.bn_is_from .nil pass0 (pa_cons (pv 2) (pa_cons pe_int pa_nil))))) (pw_or1 (pt_cmpR op_gt (pe_op op_add (pe_callB (call_max2 rfl) (by rfl) T.b_max (by decide +kernel) (pa_cons (pv 0) (pa_cons (pv 1) pa_nil))) (pv 2)) (pe_glob (v := .int 1000000000000000000000000000000) rfl T.c_GREATEST ⟨_, rfl⟩) (nomark _))))) (pss_one ps_never) pss_nil)))), ?_⟩
    refine ⟨_, rfl, .inl ⟨f, 0, rfl, true, by rw [decide_eq_true f0], iteF ?_⟩⟩
    refine ⟨_, rfl, .inl ⟨g, 0, rfl, true, by rw [decide_eq_true g0], iteF ?_⟩⟩
    refine ⟨_, rfl, .inl ⟨l, 1, rfl, true, by rw [decide_eq_true l0], iteF ?_⟩⟩
    refine ⟨_, rfl, _, rfl, _, _, rfl, _, rfl, _, _, rfl, rfl, _, _, rfl, rfl, _, rfl, ?_⟩
    rw [decide_eq_false]
    · exact iteF k
    · have e : (10 : Int) ^ 30 = 1000000000000000000000000000000 := by decide +kernel
      split <;> omega
theorem ok_check_leading (T : Txt K mg Z) : FnOk P w K mg base CX0 2 Z.f_check_leading Z.d_check_leading ["amount", "down", "backward"] sp_check_leading := by
  refine T.F_check_leading.ok sc_check_leading (fun vs H Q E h => ?_) (fun cdv A outer s H vs Q E hr h => ?_)
  · obtain ⟨a, d, b, rfl, _⟩ := h
    rfl
  · obtain ⟨a, d, b, rfl, k⟩ := h
    refine ⟨_, (pss_cons (ps_if (pt_not (pt_val (pe_call (ok_is_whole T) (hr.mono (by decide)) rfl T.g_is_whole T.k_is_whole T.bn_is_whole .nil pass0 (pa_cons (pv 0) pa_nil)))) (pss_one ps_never) pss_nil)
      (pss_cons (ps_if (pt_not (pt_val (pe_callB call_isi (by rfl) T.b_isinstance (by decide +kernel) (pa_cons (pv 1) (pa_cons (pe_bltn (v := .ty "bool") rfl T.b_bool (by decide +kernel) rfl) pa_nil))))) (pss_one ps_never) pss_nil)
      (pss_one (ps_if (pt_not (pt_val (pe_callB call_isi (by rfl) T.b_isinstance (by decide +kernel) (pa_cons (pv 2) (pa_cons (pe_bltn (v := .ty "bool") rfl T.b_bool (by decide +kernel) rfl) pa_nil))))) (pss_one ps_never) pss_nil)))), ?_⟩
    refine ⟨_, rfl, _, true, rfl, whole_int a, true, rfl, iteF ?_⟩
    refine ⟨_, rfl, _, _, _, _, true, rfl, .ty "bool", .base (.bl d), kit_ty (by decide +kernel), true, rfl, iteF ?_⟩
    exact ⟨_, rfl, _, _, _, _, true, rfl, .ty "bool", .base (.bl b), kit_ty (by decide +kernel), true, rfl, iteF k⟩
theorem ok_T_init (T : Txt K mg Z) : FnOk P w K mg base CX0 4 Z.f_T_init Z.d_T_init ["self", "first", "second", "length", "amount", "down", "backward"] (sp_T_init Z.cC) := by
  refine T.F_T_init.ok sc_T_init (fun vs H Q E h => ?_) (fun cdv A outer s H vs Q E hr h => ?_)
  · obtain ⟨p, dx, r, b, rfl, _⟩ := h
    rfl
  · obtain ⟨p, dx, r, b, rfl, ok, hb, hp, k⟩ := h
    refine ⟨_, (pss_cons (ps_expr (pe_call (ok_check_parts T) (hr.mono (by decide)) rfl T.g_check_parts T.k_check_parts T.bn_check_parts .nil pass0 (pa_cons (pv 1) (pa_cons (pv 2) (pa_cons (pv 3) pa_nil)))))
      (pss_cons (ps_expr (pe_call (ok_check_leading T) (hr.mono (by decide)) rfl T.g_check_leading T.k_check_leading T.bn_check_leading .nil pass0 (pa_cons (pv 4) (pa_cons (pv 5) (pa_cons (pv 6) pa_nil)))))
      (pss_cons (ps_fld (pv 0) (pv 1) rfl)
      (pss_cons (ps_fld (pv 0) (pv 2) rfl)
      (pss_cons (ps_fld (pv 0) (pv 3) rfl)
      (pss_cons (ps_fld (pv 0) (pv 4) rfl)
      (pss_cons (ps_fld (pv 0) (pv 5) rfl)
      (pss_cons (ps_fld (pv 0) (pe_and (pv 6) (pe_one (pe_cmpR op_gt (pv 3) pe_int (nomark _)))) rfl)
      (pss_cons (ps_set (i := 7) sc_T_init.nd rfl (Or.inl rfl) (pe_ifExp (pt_val (pv 5)) pe_str pe_str))
      (pss_cons (ps_set (i := 8) sc_T_init.nd rfl (Or.inl rfl) (pe_ifExp (pt_val (pe_fld (pv 0) rfl)) pe_str pe_str))
      (pss_one (ps_fld (pv 0) (pe_joined (.cons (pe_fmt (pv 1)) (.cons pe_str (.cons (pe_fmt (pv 2)) (.cons pe_str (.cons (pe_fmt (pv 3)) (.cons pe_str (.cons (pe_fmt (pv 7)) (.cons pe_str (.cons (pe_fmt (pe_call (ok_written T) (hr.mono (by decide)) rfl T.g_written T.k_written T.bn_written .nil pass0 (pa_cons (pv 4) pa_nil))) (.cons (pe_fmt (pv 8)) .nil))))))))))) rfl)))))))))))), ?_⟩
    refine ⟨_, rfl, _, rfl, _, rfl, _, _, _, rfl, ok.f0, ok.s0, ok.l0, ok.fe, ok.se, ?_⟩
    refine ⟨_, rfl, _, rfl, _, rfl, _, _, _, rfl, ?_⟩
    refine ⟨_, rfl, _, rfl, p, _, dx, _, rfl, hp, T.cl, T.n_first, (by decide : 0 < 1000), ?_⟩
    refine ⟨_, rfl, _, rfl, p, _, dx, _, rfl, upd_same, T.cl, T.n_second, Nat.lt_of_le_of_lt (len1 r) (by decide), ?_⟩
    refine ⟨_, rfl, _, rfl, p, _, dx, _, rfl, upd_same, T.cl, T.n_length, Nat.lt_of_le_of_lt (len2 r) (by decide), ?_⟩
    refine ⟨_, rfl, _, rfl, p, _, dx, _, rfl, upd_same, T.cl, T.n_amount, Nat.lt_of_le_of_lt (len3 r) (by decide), ?_⟩
    refine ⟨_, rfl, _, rfl, p, _, dx, _, rfl, upd_same, T.cl, T.n_down, Nat.lt_of_le_of_lt (len4 r) (by decide), ?_⟩
    refine ⟨_, rfl, b, rfl, ?_⟩
    refine' share0 (fun tail => ite2 (fun c => ?b1) (fun c => ?b2)) ?b3
    case b1 =>
      refine ⟨_, rfl, _, _, rfl, rfl, ?_⟩
      have e : decide (1 < r.l) = r.b := by rw [hb, c] <;> rfl
      dsimp only
      rw [e]
      exact tail
    case b2 =>
      have e : V.bl false = V.bl r.b := by
        cases b with
        | true => exact absurd rfl c
        | false => rw [hb] <;> rfl
      dsimp only
      rw [e]
      exact tail
    case b3 =>
      have sl : sizeLine = 16777216 := sizeLine_eq
      have l30 : (10 : Int) ^ 30 < 10 ^ 31 := by decide +kernel
      have l64 : (10 : Int) ^ 60 < 10 ^ 64 := by decide +kernel
      have hf := ok.f0; have hs := ok.s0; have hl := ok.l0; have hfe := ok.fe; have hse := ok.se
      have ll1 := ok.al; have ll2 := ok.ah
      have zf : (Str.ofString (toString r.f)).length ≤ 31 := toString_length_le hf (by decide) (by omega)
      have zs : (Str.ofString (toString r.s)).length ≤ 31 := toString_length_le hs (by decide) (by omega)
      have zl : (Str.ofString (toString r.l)).length ≤ 31 := toString_length_le (by omega) (by decide) (by omega)
      have za : (shownInt r.a).length ≤ 66 := shown_len (by omega) (by omega)
      have z0 : Str.empty.length = 0 := rfl
      have z1 : (Str.ofString " ").length = 1 := by decide
      have zw : (Str.ofString "down").length = 4 := by decide
      have zu : (Str.ofString "up").length = 2 := by decide
      have zb : (Str.ofString " back").length = 5 := by decide
      have ze : (Str.ofString "").length = 0 := by decide
      have gf : r.f.natAbs.log2 < 1920 := log_lt hf (by omega)
      have gs : r.s.natAbs.log2 < 1920 := log_lt hs (by omega)
      have gl : r.l.natAbs.log2 < 1920 := log_lt (by omega) (by omega)
      refine ⟨_, rfl, p, _, dx, _, rfl, upd_same, T.cl, T.n_backward, Nat.lt_of_le_of_lt (len5 r) (by decide), _, rfl, r.d, rfl, ?_⟩
      refine ite2 (fun c1 => ?_) (fun c1 => ?_)
      all_goals
        refine ⟨_, rfl, p, _, dx, _, _, rfl, upd_same, T.cl, T.n_backward, fs6_backward r, r.b, rfl, ?_⟩
        refine ite2 (fun c2 => ?_) (fun c2 => ?_)
      all_goals
        refine ⟨_, rfl, .inr ⟨r.f, rfl, gf, _, rfl, by walk_at "len", _, rfl, by walk_at "len", ?_⟩⟩
        refine ⟨_, rfl, .inr ⟨r.s, rfl, gs, _, rfl, by walk_at "len", _, rfl, by walk_at "len", ?_⟩⟩
        refine ⟨_, rfl, .inr ⟨r.l, rfl, gl, _, rfl, by walk_at "len", _, rfl, by walk_at "len", ?_⟩⟩
        refine ⟨_, rfl, .inl ⟨_, rfl, by walk_at "len", _, rfl, by walk_at "len", _, rfl, by walk_at "len", ?_⟩⟩
        refine ⟨_, rfl, r.a, rfl, by omega, by omega, fun H' sm => .inl ⟨_, rfl, by walk_at "len", _, rfl, by walk_at "len", ?_⟩⟩
        refine ⟨_, rfl, .inl ⟨_, rfl, by walk_at "len", _, rfl, by walk_at "len", ?_⟩⟩
        refine ⟨_, rfl, p, _, dx, _, rfl, sm _ _ upd_same, T.cl, T.n_text, Nat.lt_of_le_of_lt (len6 r) (by decide), ?_⟩
        refine k _ ?_ ?_
        · have e : tieText r = Str.empty ++ Str.ofString (toString r.f) ++ Str.ofString " " ++ Str.ofString (toString r.s) ++ Str.ofString " " ++ Str.ofString (toString r.l) ++ Str.ofString " " ++ way r.d ++ Str.ofString " " ++ shownInt r.a ++ backs r.b := rfl
          simp only [way, backs, c1, c2, if_true, if_false, Bool.false_eq_true] at e
          unfold tfs
          rw [e]
          exact upd_same
        · intro q o n h
          rw [upd_ne n]
          refine sm _ _ ?_
          rw [upd_ne n, upd_ne n, upd_ne n, upd_ne n, upd_ne n, upd_ne n]
          exact h
end
end TT

set_option Elab.async false
set_option linter.all false
set_option maxRecDepth 100000
set_option maxHeartbeats 4000000
namespace TT
open PySem PySem.Spec PyProof.Rows L2
theorem fnR_of {P : Program} {w : World} {K : PySem.W.Frag} {mg : Str → Option Value} {base : Heap} {CX : CXT} {k : Nat} {f : Addr} {fd : FuncData} {ps : List Str} {sp : Sp} (F : FnOk P w K mg base CX k f fd ps sp) (hb : Binds K fd ps []) : FnR P w K mg base CX k f sp := by
  intro A outer s H us vs Q E hr e0 rv h
  have n : us.length = ps.length := rv.length ▸ F.len _ _ _ _ h
  have b := hb s us (e0.mod.kin.keeps fun b o e => (e0.bs b o e).1) (by rw [List.append_nil]; exact n)
  rw [List.append_nil] at b
  exact F.run A outer s H ⟨us, []⟩ us vs Q E hr e0 b rv h
def partner (r : Row) (p : Int) : Int := if r.b = true then r.s + r.l - 1 - (p - r.f) else r.s + (p - r.f)
def led (r : Row) (n : Int) : Int := if r.d = true then r.a - n else r.a + n
def Row.back (r : Row) : Row := ⟨r.s, r.f, r.l, if r.d = true then r.a else -r.a, r.d, r.b⟩
theorem Row.Ok.back {r : Row} (h : r.Ok) : r.back.Ok := by
  obtain ⟨f0, s0, l0, fe, se, al, ah, bk⟩ := h
  refine ⟨s0, f0, l0, se, fe, ?_, ?_, bk⟩
  · show -(10 ^ 60) < if r.d = true then r.a else -r.a
    split <;> omega
  · show (if r.d = true then r.a else -r.a) < 10 ^ 60
    split <;> omega
theorem Same.tie {C q : Addr} {H H' : Hp} {r : Row} (k : Same H H') (h : TieAt C H q r) : TieAt C H' q r := by
  obtain ⟨dx, e⟩ := h
  exact ⟨dx, k _ _ e⟩
theorem Same.row {q : Addr} {H H' : Hp} {r : Row} (k : Same H H') (h : RowAt H q r) : RowAt H' q r := k _ _ h
/-- behind the making of a tie -/
theorem made {H H' : Hp} {x dx C : Addr} (nx : H x = none) (nd : H dx = none) (k : Keep x (upd (upd H dx (.own x)) x (.ins C dx [])) H') : Same H H' := fun b o e => by
  refine k b o (ne_of_none e nx) ?_
  rw [upd_ne (ne_of_none e nx), upd_ne (ne_of_none e nd)]
  exact e
def sp_T_call (C : Addr) : Sp := fun vs H Q _ => ∃ (q : Addr) (r : Row) (p : Int), vs = [.ref q, .int p] ∧ TieAt C H q r ∧ r.f ≤ p ∧ p < r.f + r.l ∧ Q (.int (partner r p)) H
def sp_T_led (C : Addr) : Sp := fun vs H Q _ => ∃ (q : Addr) (r : Row) (n : Int), vs = [.ref q, .int n] ∧ TieAt C H q r ∧ Q (.int (led r n)) H
def sp_T_invert (C : Addr) : Sp := fun vs H Q _ => ∃ (q : Addr) (r : Row), vs = [.ref q] ∧ TieAt C H q r ∧ r.Ok ∧ ∀ x H', H x = none → Same H H' → TieAt C H' x r.back → Q (.ref x) H'
def sp_l_tie (C : Addr) : Sp := fun vs H Q _ => ∃ (q : Addr) (r : Row), vs = [.ref q] ∧ RowAt H q r ∧ r.Ok ∧ ∀ x H', H x = none → Same H H' → TieAt C H' x r → Q (.ref x) H'
def sp_l_row_of (C : Addr) : Sp := fun vs H Q _ => ∃ (q : Addr) (r : Row), vs = [.ref q] ∧ TieAt C H q r ∧ ∀ x, H x = none → Q (.ref x) (upd H x (.tup r.vs))
def sp_l_back : Sp := fun vs H Q _ => ∃ (q : Addr) (r : Row), vs = [.ref q] ∧ RowAt H q r ∧ ∀ x, H x = none → Q (.ref x) (upd H x (.tup r.back.vs))
def sp_l_far : Sp := fun vs H Q _ => ∃ (q : Addr) (r : Row) (z : Int), vs = [.ref q, .int z] ∧ RowAt H q r ∧ ∀ x H', H x = none → Same H H' → RowAt H' x { r with f := r.f + z, s := r.s + z } → Q (.ref x) H'
/-- two ties of the same values are equal -/
def TieEq (C : Addr) (a b : Addr) (H : Hp) : Prop := ∃ r, TieAt C H a r ∧ TieAt C H b r
section
variable {P : Program} {w : World} {K : PySem.W.Frag} {mg : Str → Option Value} {base : Heap} {Z : Zs}
theorem ok_T_call (T : Txt K mg Z) : FnOk P w K mg base CX0 4 Z.f_T_call Z.d_T_call ["self", "place"] (sp_T_call Z.cC) := by
  refine T.F_T_call.ok sc_T_call (fun vs H Q E h => ?_) (fun cdv A outer s H vs Q E hr h => ?_)
  · obtain ⟨q, r, p, rfl, _⟩ := h
    rfl
  · obtain ⟨q, r, p, rfl, ⟨dx, hq⟩, p0, p1, k⟩ := h
    refine ⟨_, (pss_cons (ps_if (pt_not (pt_val (pe_call (ok_is_between T) (hr.mono (by decide)) rfl T.g_is_between T.k_is_between T.bn_is_between .nil pass0 (pa_cons (pv 1) (pa_cons (pe_fld (pv 0) rfl) (pa_cons (pe_op op_sub (pe_op op_add (pe_fld (pv 0) rfl) (pe_fld (pv 0) rfl)) pe_int) pa_nil)))))) (pss_one ps_never) pss_nil)
      (pss_cons (ps_set (i := 2) sc_T_call.nd rfl (Or.inl rfl) (pe_op op_sub (pv 1) (pe_fld (pv 0) rfl)))
      (pss_cons (ps_if (pt_val (pe_fld (pv 0) rfl)) (pss_one (ps_ret (pe_op op_sub (pe_op op_sub (pe_op op_add (pe_fld (pv 0) rfl) (pe_fld (pv 0) rfl)) pe_int) (pv 2)))) pss_nil)
      (pss_one (ps_ret (pe_op op_add (pe_fld (pv 0) rfl) (pv 2))))))), ?_⟩
    refine ⟨_, rfl, _, rfl, q, _, dx, _, _, rfl, hq, T.cl, T.n_first, tfs_first r, _, rfl, q, _, dx, _, _, rfl, hq, T.cl, T.n_first, tfs_first r, _, rfl, q, _, dx, _, _, rfl, hq, T.cl, T.n_length, tfs_length r, _, _, rfl, rfl, _, _, rfl, rfl, .inl ⟨p, r.f, _, rfl, true, ?_, iteF ?_⟩⟩
    · have e1 : decide (r.f ≤ p) = true := decide_eq_true p0
      have e2 : decide (p ≤ r.f + r.l - 1) = true := decide_eq_true (by omega)
      show V.bl (decide (r.f ≤ p) && decide (p ≤ r.f + r.l - 1)) = V.bl true
      rw [e1, e2] <;> rfl
    refine ⟨_, rfl, _, rfl, q, _, dx, _, _, rfl, hq, T.cl, T.n_first, tfs_first r, _, _, rfl, rfl, ?_⟩
    refine ⟨_, rfl, q, _, dx, _, _, rfl, hq, T.cl, T.n_backward, tfs_backward r, r.b, rfl, ?_⟩
    unfold partner at k
    refine ite2 (fun c => ?_) (fun c => ?_)
    · rw [if_pos c] at k
      exact ⟨_, rfl, q, _, dx, _, _, rfl, hq, T.cl, T.n_second, tfs_second r, _, rfl, q, _, dx, _, _, rfl, hq, T.cl, T.n_length, tfs_length r, _, _, rfl, rfl, _, _, rfl, rfl, _, rfl, _, _, rfl, rfl, k⟩
    · rw [if_neg c] at k
      exact ⟨_, rfl, q, _, dx, _, _, rfl, hq, T.cl, T.n_second, tfs_second r, _, rfl, _, _, rfl, rfl, k⟩
theorem ok_T_led (T : Txt K mg Z) : FnOk P w K mg base CX0 2 Z.f_T_led Z.d_T_led ["self", "note"] (sp_T_led Z.cC) := by
  refine T.F_T_led.ok sc_T_led (fun vs H Q E h => ?_) (fun cdv A outer s H vs Q E hr h => ?_)
  · obtain ⟨q, r, p, rfl, _⟩ := h
    rfl
  · obtain ⟨q, r, n, rfl, ⟨dx, hq⟩, k⟩ := h
    refine ⟨_, (pss_cons (ps_if (pt_not (pt_val (pe_call (ok_is_whole T) (hr.mono (by decide)) rfl T.g_is_whole T.k_is_whole T.bn_is_whole .nil pass0 (pa_cons (pv 1) pa_nil)))) (pss_one ps_never) pss_nil)
      (pss_one (ps_ret (pe_ifExp (pt_val (pe_fld (pv 0) rfl)) (pe_op op_sub (pe_fld (pv 0) rfl) (pv 1)) (pe_op op_add (pe_fld (pv 0) rfl) (pv 1)))))), ?_⟩
    refine ⟨_, rfl, _, true, rfl, whole_int n, true, rfl, iteF ?_⟩
    refine ⟨_, rfl, q, _, dx, _, _, rfl, hq, T.cl, T.n_down, tfs_down r, r.d, rfl, ?_⟩
    unfold led at k
    refine ite2 (fun c => ?_) (fun c => ?_)
    · rw [if_pos c] at k
      exact ⟨_, rfl, q, _, dx, _, _, rfl, hq, T.cl, T.n_amount, tfs_amount r, _, rfl, _, _, rfl, rfl, k⟩
    · rw [if_neg c] at k
      exact ⟨_, rfl, q, _, dx, _, _, rfl, hq, T.cl, T.n_amount, tfs_amount r, _, rfl, _, _, rfl, rfl, k⟩
theorem mkT (T : Txt K mg Z) : Mk K Z.cC Z.f_T_init := ⟨T.mkC, T.a_T_init, T.i_T_init, T.kC⟩
/-- Tie(first, second, length, amount, down=.., backward=..) -/
theorem kb_tie (T : Txt K mg Z) : ∃ its mv : List Value, KBn K Z.d_T_init ["self", "first", "second", "length", "amount", "down", "backward"] 5 ["down", "backward"] (fun us ws => us ++ ws) (fun vs zs => vs ++ zs) := by
  obtain ⟨its, mv, h⟩ := T.F_T_init.kbinds (ps := ["self", "first", "second", "length", "amount", "down", "backward"]) 5 ["down", "backward"] [] (fun us _ _ ws => us ++ ws) (by decide) (by decide) (fun q hq => by cases hq)
    (fun r1 _ _ r4 => r1.append r4) (fun T D doc pm an cdv ct us its mv ws l1 l2 l3 l4 => by
      match us, its, mv, ws, l1, l2, l3, l4 with
      | [_, _, _, _, _], [_], [], [_, _], _, _, _, _ => exact ⟨_, rfl, rfl⟩)
  exact ⟨its, mv, h⟩
theorem ok_l_tie (T : Txt K mg Z) : FnOk P w K mg base CX0 6 Z.f_l_tie Z.d_l_tie ["_law_row_here"] (sp_l_tie Z.cC) := by
  refine T.F_l_tie.ok sc_l_tie (fun vs H Q E h => ?_) (fun cdv A outer s H vs Q E hr h => ?_)
  · obtain ⟨q, r, rfl, _⟩ := h
    rfl
  · obtain ⟨q, r, rfl, hq, ok, k⟩ := h
    obtain ⟨its, mv, kb⟩ := kb_tie T
    refine ⟨_, (pss_one (ps_ret (pe_makeK (mkT T) (ok_T_init T) (hr.mono (by decide)) rfl T.g_C kb pass0 (pa_cons (pe_ix ix_tup (pv 0) pe_int (fun _ _ => rfl)) (pa_cons (pe_ix ix_tup (pv 0) pe_int (fun _ _ => rfl)) (pa_cons (pe_ix ix_tup (pv 0) pe_int (fun _ _ => rfl)) (pa_cons (pe_ix ix_tup (pv 0) pe_int (fun _ _ => rfl)) pa_nil)))) (pk_cons (pe_ix ix_tup (pv 0) pe_int (fun _ _ => rfl)) (pk_cons (pe_ix ix_tup (pv 0) pe_int (fun _ _ => rfl)) pk_nil))))), ?_⟩
    refine ⟨_, rfl, q, _, _, _, rfl, rfl, SqT.of hq, rfl, _, rfl, q, _, _, _, rfl, rfl, SqT.of hq, rfl, _, rfl, q, _, _, _, rfl, rfl, SqT.of hq, rfl, _, rfl, q, _, _, _, rfl, rfl, SqT.of hq, rfl, ?_⟩
    refine ⟨_, rfl, q, _, _, _, rfl, rfl, SqT.of hq, rfl, _, rfl, q, _, _, _, rfl, rfl, SqT.of hq, rfl, rfl, rfl, fun x dx nx nd ne => ?_⟩
    refine ⟨x, dx, r, r.b, rfl, ok, ?_, upd_same, fun H' hx kp => ⟨rfl, k x H' nx (made nx nd kp) ⟨dx, hx⟩⟩⟩
    cases hb : r.b with
    | true => rw [decide_eq_true (ok.bk hb)] <;> rfl
    | false => rfl
theorem ok_T_invert (T : Txt K mg Z) : FnOk P w K mg base CX0 6 Z.f_T_invert Z.d_T_invert ["self"] (sp_T_invert Z.cC) := by
  refine T.F_T_invert.ok sc_T_invert (fun vs H Q E h => ?_) (fun cdv A outer s H vs Q E hr h => ?_)
  · obtain ⟨q, r, rfl, _⟩ := h
    rfl
  · obtain ⟨q, r, rfl, ⟨dx0, hq⟩, ok, k⟩ := h
    obtain ⟨its, mv, kb⟩ := kb_tie T
    refine ⟨_, (pss_cons (ps_set (i := 1) sc_T_invert.nd rfl (Or.inl rfl) (pe_ifExp (pt_val (pe_fld (pv 0) rfl)) (pe_fld (pv 0) rfl) (pe_un un_neg (pe_fld (pv 0) rfl)))) (pss_one (ps_ret (pe_makeK (mkT T) (ok_T_init T) (hr.mono (by decide)) rfl T.g_C kb pass0 (pa_cons (pe_fld (pv 0) rfl) (pa_cons (pe_fld (pv 0) rfl) (pa_cons (pe_fld (pv 0) rfl) (pa_cons (pv 1) pa_nil)))) (pk_cons (pe_fld (pv 0) rfl) (pk_cons (pe_fld (pv 0) rfl) pk_nil)))))), ?_⟩
    have okb := ok.back
    refine ⟨_, rfl, q, _, dx0, _, _, rfl, hq, T.cl, T.n_down, tfs_down r, r.d, rfl, ?_⟩
    refine' share0 (fun tail => ite2 (fun c => ?b1) (fun c => ?b2)) ?b3
    case b1 =>
      refine ⟨_, rfl, q, _, dx0, _, _, rfl, hq, T.cl, T.n_amount, tfs_amount r, ?_⟩
      have e : r.a = r.back.a := (if_pos c).symm
      dsimp only
      rw [e]
      exact tail
    case b2 =>
      refine ⟨_, rfl, q, _, dx0, _, _, rfl, hq, T.cl, T.n_amount, tfs_amount r, _, rfl, ?_⟩
      have e : -r.a = r.back.a := (if_neg c).symm
      dsimp only
      rw [e]
      exact tail
    case b3 =>
      refine ⟨_, rfl, q, _, dx0, _, _, rfl, hq, T.cl, T.n_second, tfs_second r, _, rfl, q, _, dx0, _, _, rfl, hq, T.cl, T.n_first, tfs_first r, _, rfl, q, _, dx0, _, _, rfl, hq, T.cl, T.n_length, tfs_length r, _, rfl, ?_⟩
      refine ⟨_, rfl, q, _, dx0, _, _, rfl, hq, T.cl, T.n_down, tfs_down r, _, rfl, q, _, dx0, _, _, rfl, hq, T.cl, T.n_backward, tfs_backward r, rfl, rfl, fun x dx nx nd ne => ?_⟩
      refine ⟨x, dx, r.back, r.b, rfl, okb, ?_, upd_same, fun H' hx kp => ⟨rfl, k x H' nx (made nx nd kp) ⟨dx, hx⟩⟩⟩
      show r.b = (r.b && decide (1 < r.l))
      cases hb : r.b with
      | true => rw [decide_eq_true (ok.bk hb)] <;> rfl
      | false => rfl
theorem ok_l_row_of (T : Txt K mg Z) : FnOk P w K mg base CX0 1 Z.f_l_row_of Z.d_l_row_of ["_law_tie_here"] (sp_l_row_of Z.cC) := by
  refine T.F_l_row_of.ok sc_l_row_of (fun vs H Q E h => ?_) (fun cdv A outer s H vs Q E hr h => ?_)
  · obtain ⟨q, r, rfl, _⟩ := h
    rfl
  · obtain ⟨q, r, rfl, ⟨dx, hq⟩, k⟩ := h
    refine ⟨_, (pss_one (ps_ret (pe_tup (pa_cons (pe_fld (pv 0) rfl) (pa_cons (pe_fld (pv 0) rfl) (pa_cons (pe_fld (pv 0) rfl) (pa_cons (pe_fld (pv 0) rfl) (pa_cons (pe_fld (pv 0) rfl) (pa_cons (pe_fld (pv 0) rfl) pa_nil))))))))), ?_⟩
    refine ⟨_, rfl, q, _, dx, _, _, rfl, hq, T.cl, T.n_first, tfs_first r, _, rfl, q, _, dx, _, _, rfl, hq, T.cl, T.n_second, tfs_second r, _, rfl, q, _, dx, _, _, rfl, hq, T.cl, T.n_length, tfs_length r, _, rfl, q, _, dx, _, _, rfl, hq, T.cl, T.n_amount, tfs_amount r, _, rfl, q, _, dx, _, _, rfl, hq, T.cl, T.n_down, tfs_down r, _, rfl, q, _, dx, _, _, rfl, hq, T.cl, T.n_backward, tfs_backward r, by show 6 ≤ sizeLine; decide, fun x hx => k x hx⟩
theorem ok_l_back (T : Txt K mg Z) : FnOk P w K mg base CX0 1 Z.f_l_back Z.d_l_back ["_law_row_here"] sp_l_back := by
  refine T.F_l_back.ok sc_l_back (fun vs H Q E h => ?_) (fun cdv A outer s H vs Q E hr h => ?_)
  · obtain ⟨q, r, rfl, _⟩ := h
    rfl
  · obtain ⟨q, r, rfl, hq, k⟩ := h
    refine ⟨_, (pss_one (ps_ret (pe_tup (pa_cons (pe_ix ix_tup (pv 0) pe_int (fun _ _ => rfl)) (pa_cons (pe_ix ix_tup (pv 0) pe_int (fun _ _ => rfl)) (pa_cons (pe_ix ix_tup (pv 0) pe_int (fun _ _ => rfl)) (pa_cons (pe_ifExp (pt_val (pe_ix ix_tup (pv 0) pe_int (fun _ _ => rfl))) (pe_ix ix_tup (pv 0) pe_int (fun _ _ => rfl)) (pe_un un_neg (pe_ix ix_tup (pv 0) pe_int (fun _ _ => rfl)))) (pa_cons (pe_ix ix_tup (pv 0) pe_int (fun _ _ => rfl)) (pa_cons (pe_ix ix_tup (pv 0) pe_int (fun _ _ => rfl)) pa_nil))))))))), ?_⟩
    refine ⟨_, rfl, q, _, _, _, rfl, rfl, SqT.of hq, rfl, _, rfl, q, _, _, _, rfl, rfl, SqT.of hq, rfl, _, rfl, q, _, _, _, rfl, rfl, SqT.of hq, rfl, _, rfl, q, _, _, _, rfl, rfl, SqT.of hq, rfl, r.d, rfl, ?_⟩
    have k' : ∀ a, (if r.d = true then r.a else -r.a) = a → ∀ x, H x = none → Q (.ref x) (upd H x (.tup [.int r.s, .int r.f, .int r.l, .int a, .bl r.d, .bl r.b])) := by
      rintro a rfl x hx
      exact k x hx
    refine ite2 (fun c => ?_) (fun c => ?_)
    · exact ⟨_, rfl, q, _, _, _, rfl, rfl, SqT.of hq, rfl, _, rfl, q, _, _, _, rfl, rfl, SqT.of hq, rfl, _, rfl, q, _, _, _, rfl, rfl, SqT.of hq, rfl, by show 6 ≤ sizeLine; decide, fun x hx => k' _ (if_pos c) x hx⟩
    · exact ⟨_, rfl, q, _, _, _, rfl, rfl, SqT.of hq, rfl, _, rfl, _, rfl, q, _, _, _, rfl, rfl, SqT.of hq, rfl, _, rfl, q, _, _, _, rfl, rfl, SqT.of hq, rfl, by show 6 ≤ sizeLine; decide, fun x hx => k' _ (if_neg c) x hx⟩
theorem ok_l_far (T : Txt K mg Z) : FnOk P w K mg base CX0 1 Z.f_l_far Z.d_l_far ["_law_row_here", "_law_far_here"] sp_l_far := by
  refine T.F_l_far.ok sc_l_far (fun vs H Q E h => ?_) (fun cdv A outer s H vs Q E hr h => ?_)
  · obtain ⟨q, r, z, rfl, _⟩ := h
    rfl
  · obtain ⟨q, r, z, rfl, hq, k⟩ := h
    refine ⟨_, (pss_one (ps_ret (pe_op op_catA (pe_tup (pa_cons (pe_op op_add (pe_ix ix_tup (pv 0) pe_int (fun _ _ => rfl)) (pv 1)) (pa_cons (pe_op op_add (pe_ix ix_tup (pv 0) pe_int (fun _ _ => rfl)) (pv 1)) pa_nil))) (pe_slice sl_tupA (pv 0) (po_some pe_int) po_none)))), ?_⟩
    refine ⟨_, rfl, q, _, _, _, rfl, rfl, SqT.of hq, rfl, _, rfl, _, _, rfl, rfl, _, rfl, q, _, _, _, rfl, rfl, SqT.of hq, rfl, _, rfl, _, _, rfl, rfl, by show 2 ≤ sizeLine; decide, fun t ht => ?_⟩
    have hq1 : upd H t (.tup [.int (r.f + z), .int (r.s + z)]) q = some (.tup r.vs) := by rw [upd_ne (ne_of_none hq ht)]; exact hq
    refine ⟨_, rfl, _, rfl, q, _, rfl, SqT.of hq1, fun c => absurd (show (2 : Nat) = 0 from c.1) (by decide), fun _ u hu => ?_⟩
    have hne : t ≠ u := ne_of_none (H := upd H t (.tup [.int (r.f + z), .int (r.s + z)])) upd_same hu
    refine ⟨t, u, [.int (r.f + z), .int (r.s + z)], [.int r.l, .int r.a, .bl r.d, .bl r.b], rfl, rfl, SqT.of (by rw [upd_ne hne]; exact upd_same), SqT.of upd_same, (by show 2 + 4 ≤ sizeLine; decide), (fun c => by cases c), (fun _ c => by cases c), fun _ _ x hx => ?_⟩
    · have s1 : Same H (upd (upd H t (.tup [.int (r.f + z), .int (r.s + z)])) u (.tup [.int r.l, .int r.a, .bl r.d, .bl r.b])) := Same.new (Same.new (Same.refl H) ht) hu
      exact k x _ (s1.free hx) (Same.new s1 hx) upd_same
end
end TT

set_option Elab.async false
set_option linter.all false
set_option maxRecDepth 100000
set_option maxHeartbeats 4000000
namespace TT
open PySem PySem.Spec PyProof.Rows L2
section
variable {P : Program} {w : World} {K : PySem.W.Frag} {mg : Str → Option Value} {base : Heap} {Z : Zs}
theorem ok_T_eq (T : Txt K mg Z) : FnOk P w K mg base CX0 1 Z.f_T_eq Z.d_T_eq ["self", "other"] (spEq (TieEq Z.cC)) := by
  refine T.F_T_eq.ok sc_T_eq (fun vs H Q E h => ?_) (fun cdv A outer s H vs Q E hr h => ?_)
  · obtain ⟨a, b, rfl, _⟩ := h
    rfl
  · obtain ⟨a, b, rfl, ⟨r, ⟨da, ha⟩, ⟨db, hb⟩⟩, k⟩ := h
    refine ⟨_, (pss_one (ps_ret (pe_and (pe_callB call_isi (by rfl) T.b_isinstance (by decide +kernel) (pa_cons (pv 1) (pa_cons (pe_glob (v := .ref Z.cC) rfl T.g_C rfl) pa_nil))) (pe_and (pe_cmpR op_eq (pe_fld (pv 0) rfl) (pe_fld (pv 1) rfl) (nomark _)) (pe_and (pe_cmpR op_eq (pe_fld (pv 0) rfl) (pe_fld (pv 1) rfl) (nomark _)) (pe_and (pe_cmpR op_eq (pe_fld (pv 0) rfl) (pe_fld (pv 1) rfl) (nomark _)) (pe_and (pe_cmpR op_eq (pe_fld (pv 0) rfl) (pe_fld (pv 1) rfl) (nomark _)) (pe_and (pe_cmpR op_eq (pe_fld (pv 0) rfl) (pe_fld (pv 1) rfl) (nomark _)) (pe_one (pe_cmpR op_eq (pe_fld (pv 0) rfl) (pe_fld (pv 1) rfl) (nomark _))))))))))), ?_⟩
    refine ⟨_, rfl, _, _, _, _, true, rfl, .own Z.cC, .base (.ins hb T.cl T.z_cls T.z_get T.z_tk T.z_mro), T.z_kit, true, rfl, iteT ?_⟩
    refine ⟨_, rfl, a, _, da, _, _, rfl, ha, T.cl, T.n_first, tfs_first r, _, rfl, b, _, db, _, _, rfl, hb, T.cl, T.n_first, tfs_first r, rfl, true, by rw [decide_eq_true rfl], iteT ?_⟩
    refine ⟨_, rfl, a, _, da, _, _, rfl, ha, T.cl, T.n_second, tfs_second r, _, rfl, b, _, db, _, _, rfl, hb, T.cl, T.n_second, tfs_second r, rfl, true, by rw [decide_eq_true rfl], iteT ?_⟩
    refine ⟨_, rfl, a, _, da, _, _, rfl, ha, T.cl, T.n_length, tfs_length r, _, rfl, b, _, db, _, _, rfl, hb, T.cl, T.n_length, tfs_length r, rfl, true, by rw [decide_eq_true rfl], iteT ?_⟩
    refine ⟨_, rfl, a, _, da, _, _, rfl, ha, T.cl, T.n_amount, tfs_amount r, _, rfl, b, _, db, _, _, rfl, hb, T.cl, T.n_amount, tfs_amount r, rfl, true, by rw [decide_eq_true rfl], iteT ?_⟩
    refine ⟨_, rfl, a, _, da, _, _, rfl, ha, T.cl, T.n_down, tfs_down r, _, rfl, b, _, db, _, _, rfl, hb, T.cl, T.n_down, tfs_down r, rfl, true, by rw [decide_eq_true rfl], iteT ?_⟩
    refine ⟨_, rfl, a, _, da, _, _, rfl, ha, T.cl, T.n_backward, tfs_backward r, _, rfl, b, _, db, _, _, rfl, hb, T.cl, T.n_backward, tfs_backward r, rfl, ?_⟩
    rw [decide_eq_true rfl]
    exact k H fun _ _ e => e
end
end TT

set_option Elab.async false
set_option linter.all false
set_option maxRecDepth 100000
set_option maxHeartbeats 4000000
namespace TT
open PySem PySem.Spec PyProof.Rows L2
/-! ### the texts of rows -/
theorem shown_int (i : Int) : (PyData.int i).shown = Str.ofString (toString i) := by simp [PyData.shown]
theorem bool_len (b : Bool) : ((PyData.bool b).shown).length ≤ 5 := by cases b <;> simp [PyData.shown] <;> decide
theorem int_len64 {i : Int} (h0 : -(10 ^ 64) < i) (h1 : i < 10 ^ 64) : (Str.ofString (toString i)).length ≤ 65 := by
  have h := PySem.int_text_length_le10 (a := i) (k := 64) (by decide) (by
    have e : ((10 ^ 64 : Nat) : Int) = 10 ^ 64 := by decide +kernel
    omega)
  rw [PySem.ofString_length]
  omega
theorem int_ok64 {i : Int} (h0 : -(10 ^ 64) < i) (h1 : i < 10 ^ 64) : (PyData.int i).showable = true := by
  have h : i.natAbs.log2 < 1920 := PySem.Flt.log2_lt_of (by decide) (by
    have : (10 : Int) ^ 64 < 2 ^ 1920 := by decide +kernel
    omega)
  simpa [PyData.showable] using h
theorem dat_ok {r : Row} (ok : r.Ok) : r.dat.showable = true ∧ r.dat.hasDict = false ∧ r.dat.depth ≤ 60 ∧ r.dat.shown.length ≤ sizeLine := by
  have e30 : (10 : Int) ^ 30 < 10 ^ 64 := by decide +kernel
  have e60 : (10 : Int) ^ 60 < 10 ^ 64 := by decide +kernel
  have f0 := ok.f0; have s0 := ok.s0; have l0 := ok.l0; have fe := ok.fe; have se := ok.se; have al := ok.al; have ah := ok.ah
  have bf : -(10 ^ 64) < r.f ∧ r.f < 10 ^ 64 := by constructor <;> omega
  have bs : -(10 ^ 64) < r.s ∧ r.s < 10 ^ 64 := by constructor <;> omega
  have bl : -(10 ^ 64) < r.l ∧ r.l < 10 ^ 64 := by constructor <;> omega
  have ba : -(10 ^ 64) < r.a ∧ r.a < 10 ^ 64 := by constructor <;> omega
  refine ⟨?_, ?_, ?_, ?_⟩
  · unfold Row.dat
    rw [PyData.showable]
    simp only [PyData.showableAll, int_ok64 bf.1 bf.2, int_ok64 bs.1 bs.2, int_ok64 bl.1 bl.2, int_ok64 ba.1 ba.2, Bool.true_and, Bool.and_true]
    simp [PyData.showable]
  · simp [Row.dat, PyData.hasDict, PyData.hasDictAll]
  · simp [Row.dat, PyData.depth, PyData.depthAll]
  · unfold Row.dat
    rw [PyData.shown]
    simp only [PyData.shownAll]
    have sl : sizeLine = 16777216 := sizeLine_eq
    have j := join_length_add [(PyData.int r.f).shown, (PyData.int r.s).shown, (PyData.int r.l).shown, (PyData.int r.a).shown, (PyData.bool r.d).shown, (PyData.bool r.b).shown] (by simp)
    have z1 := int_len64 bf.1 bf.2; have z2 := int_len64 bs.1 bs.2; have z3 := int_len64 bl.1 bl.2; have z4 := int_len64 ba.1 ba.2; have z5 := bool_len r.d; have z6 := bool_len r.b
    rw [← shown_int] at z1 z2 z3 z4
    unfold tupleText
    rw [Str.length_append, Str.length_append]
    simp only [piled, List.map_cons, List.map_nil, List.sum_cons, List.sum_nil] at j
    have y1 : (Str.ofString "(").length = 1 := by decide
    have y2 : (Str.ofString ")").length = 1 := by decide
    simp only [List.length_cons, List.length_nil]
    have y3 : (Str.ofString (if (0 + 1 + 1 + 1 + 1 + 1 + 1 == 1) = true then ",)" else ")")).length = 1 := by decide
    omega
theorem Row.dp {K : PySem.W.Frag} {H : Hp} {q : Addr} {r : Row} (h : H q = some (.tup r.vs)) : Dp K H (.ref q) r.dat :=
  .tup (SqT.of h) (.cons (.int _) (.cons (.int _) (.cons (.int _) (.cons (.int _) (.cons (.bl _) (.cons (.bl _) .nil))))))
theorem tfs_none (r : Row) {g : Str} (h1 : ¬ g = "text") (h2 : ¬ g = "backward") (h3 : ¬ g = "down") (h4 : ¬ g = "amount") (h5 : ¬ g = "length") (h6 : ¬ g = "second") (h7 : ¬ g = "first") : (tfs r).lookup g = none := by
  rw [tfs_lookup, if_neg h1, if_neg h2, if_neg h3, if_neg h4, if_neg h5, if_neg h6, if_neg h7]
theorem tfs_led (r : Row) : (tfs r).lookup ("led" : Str) = none := tfs_none r (by decide +kernel) (by decide +kernel) (by decide +kernel) (by decide +kernel) (by decide +kernel) (by decide +kernel) (by decide +kernel)
/-! ### told back -/
theorem Row.back_back (r : Row) : r.back.back = r := by
  obtain ⟨f, s, l, a, d, b⟩ := r
  cases d <;> simp [Row.back]
theorem partner_in {r : Row} (z : Int) (h0 : r.f ≤ z) (h1 : z < r.f + r.l) : r.back.f ≤ partner r z ∧ partner r z < r.back.f + r.back.l := by
  obtain ⟨f, s, l, a, d, b⟩ := r
  simp only [partner, Row.back]
  simp only at h0 h1
  cases b <;> simp <;> omega
theorem partner_back {r : Row} (z : Int) : partner r.back (partner r z) = z := by
  obtain ⟨f, s, l, a, d, b⟩ := r
  simp only [partner, Row.back]
  cases b <;> simp <;> omega
theorem led_back (r : Row) (n : Int) : led r.back (led r n) = n := by
  obtain ⟨f, s, l, a, d, b⟩ := r
  simp only [led, Row.back]
  cases d <;> simp <;> omega
end TT

set_option Elab.async false
set_option linter.all false
set_option maxRecDepth 100000
set_option maxHeartbeats 4000000
namespace TT
open PySem PySem.Spec PyProof.Rows L2
theorem shareT {T : Addr → Hp → Prop} {G : Prop} (C : Addr → Hp → Prop) (h : (∀ q H, C q H → T q H) → G) (t : ∀ q H, C q H → T q H) : G := h t
def sp_l_right : Sp := fun vs H Q _ => ∃ (p : Addr) (n : Nat), vs = [.ref p] ∧ Pot H p n ∧ n + 40 < 1000000 ∧ ∀ (n' : Nat) (H' : Hp), n' ≤ n + 40 → Pot H' p n' → Keep p H H' → Q (.bl true) H'
theorem Pot.ne {H : Hp} {p q : Addr} {n : Nat} (hp : Pot H p n) (hq : H q = none) : p ≠ q := by
  obtain ⟨_, _, e, _⟩ := hp
  exact ne_of_none e hq
theorem Pot.same {H H' : Hp} {p : Addr} {n : Nat} (hp : Pot H p n) (s : Same H H') : Pot H' p n := by
  obtain ⟨a, m, e, r⟩ := hp
  exact ⟨a, m, s _ _ e, r⟩
theorem Keep.same {H H' H2 : Hp} {p : Addr} (k : Keep p H H') (s : Same H' H2) : Keep p H H2 := fun b o n e => s _ _ (k b o n e)
theorem Row.Ok.far {r : Row} (h : r.Ok) {z : Int} (z0 : 0 ≤ z) (hf : r.f + z + r.l ≤ 10 ^ 30) (hs : r.s + z + r.l ≤ 10 ^ 30) : Row.Ok { r with f := r.f + z, s := r.s + z } :=
  ⟨by show 0 ≤ r.f + z; have := h.f0; omega, by show 0 ≤ r.s + z; have := h.s0; omega, h.l0, hf, hs, h.al, h.ah, h.bk⟩
theorem Pot.off {H : Hp} {p q : Addr} {n : Nat} {o : HO} (hp : Pot H p n) (hq : H q = some o) (h : ∀ xs, o ≠ .lst xs) : q ≠ p := by
  rintro rfl
  obtain ⟨a, m, e, _⟩ := hp
  rw [hq] at e
  exact h _ (Option.some.inj e)
section
variable {P : Program} {w : World} {K : PySem.W.Frag} {mg : Str → Option Value} {base : Heap} {Z : Zs}
theorem ok_l_right (T : Txt K mg Z) : GOk P w K mg base CX0 8 Z.f_l_right Z.d_l_right ["_law_pot_here"] sp_l_right := by
  refine okG T.F_l_right sc_l_right (fun vs H Q E h => ?_) (fun cdv A outer s H vs Q E g hr h => ?_)
  · obtain ⟨p, n, rfl, _⟩ := h
    rfl
  · obtain ⟨p, n, rfl, hp, hn, k⟩ := h
    refine ⟨_, (pss_cons (ps_set (i := 1) sc_l_right.nd rfl (Or.inl rfl) (pe_call (ok_l_far T) (hr.mono (by decide)) rfl T.g_l_far T.k_l_far T.bn_l_far .nil pass0 (pa_cons (pe_call (ok_l_row T) (hr.mono (by decide)) rfl T.g_l_row T.k_l_row T.bn_l_row .nil pass0 (pa_cons (pv 0) (pa_cons (pe_call (ok_l_of T) (hr.mono (by decide)) rfl T.g_l_of T.k_l_of T.bn_l_of .nil pass0 (pa_cons (pv 0) (pa_cons (pe_lst (pa_cons pe_int (pa_cons pe_int (pa_cons pe_int pa_nil)))) pa_nil))) pa_nil))) (pa_cons (pe_call (ok_l_of T) (hr.mono (by decide)) rfl T.g_l_of T.k_l_of T.bn_l_of .nil pass0 (pa_cons (pv 0) (pa_cons (pe_lst (pa_cons pe_int (pa_cons pe_int (pa_cons pe_int (pa_cons (pe_op op_powW pe_int pe_int) pa_nil))))) pa_nil))) pa_nil))))
      (pss_cons (ps_if (pt_cmpR op_eq (pe_call (ok_l_take T) (hr.mono (by decide)) rfl T.g_l_take T.k_l_take T.bn_l_take .nil pass0 (pa_cons (pv 0) (pa_cons pe_int pa_nil))) pe_int (nomark _)) (pss_one (ps_set (i := 1) sc_l_right.nd rfl (Or.inl rfl) (pe_op op_catA (pe_op op_catA (pe_slice sl_tupA (pv 1) po_none (po_some pe_int)) (pe_tup (pa_cons (pe_op op_add (pe_ix ix_tup (pv 1) pe_int (fun _ _ => rfl)) (pe_op op_powW pe_int pe_int)) pa_nil))) (pe_slice sl_tupA (pv 1) (po_some pe_int) po_none)))) pss_nil)
      (pss_cons (ps_set (i := 2) sc_l_right.nd rfl (Or.inr rfl) (pe_call (ok_l_tie T) (hr.mono (by decide)) rfl T.g_l_tie T.k_l_tie T.bn_l_tie .nil pass0 (pa_cons (pv 1) pa_nil)))
      (pss_cons (ps_set (i := 3) sc_l_right.nd rfl (Or.inr rfl) (pe_un (un_own (ok_T_invert T) (hr.mono (by decide)) T.bn_T_invert pass0 T.a_T_invert T.i_T_invert) (pv 2)))
      (pss_cons (ps_if (PW.pt (pw_or (pt_cmpR op_ne (pe_callB (r := rRepr K) (id := "repr") (call_repr (by exact g) (by exact hr.units)) (by rfl) T.b_repr (by decide +kernel) (pa_cons (pe_call (ok_l_row_of T) (hr.mono (by decide)) rfl T.g_l_row_of T.k_l_row_of T.bn_l_row_of .nil pass0 (pa_cons (pv 3) pa_nil)) pa_nil)) (pe_callB (r := rRepr K) (id := "repr") (call_repr (by exact g) (by exact hr.units)) (by rfl) T.b_repr (by decide +kernel) (pa_cons (pe_call (ok_l_back T) (hr.mono (by decide)) rfl T.g_l_back T.k_l_back T.bn_l_back .nil pass0 (pa_cons (pv 1) pa_nil)) pa_nil)) (nomark _)) (pw_or1 (pt_not (pt_cmpR (op_eqG (rcG_ins (ok_T_eq T) T.a_T_eq T.i_T_eq T.bn_T_eq pass0) (hr.mono (by decide))) (pe_un (un_own (ok_T_invert T) (hr.mono (by decide)) T.bn_T_invert pass0 T.a_T_invert T.i_T_invert) (pv 3)) (pv 2) (nomark _)))))) (pss_one (ps_ret pe_bl)) pss_nil)
      (pss_cons (ps_for PassesOwn.never rfl (pi_tup (pe_tup (pa_cons (pe_ix ix_tup (pv 1) pe_int (fun _ _ => rfl)) (pa_cons (pe_op op_sub (pe_op op_add (pe_ix ix_tup (pv 1) pe_int (fun _ _ => rfl)) (pe_ix ix_tup (pv 1) pe_int (fun _ _ => rfl))) pe_int) (pa_cons (pe_op op_add (pe_ix ix_tup (pv 1) pe_int (fun _ _ => rfl)) (pe_call (ok_l_take T) (hr.mono (by decide)) rfl T.g_l_take T.k_l_take T.bn_l_take .nil pass0 (pa_cons (pv 0) (pa_cons (pe_ix ix_tup (pv 1) pe_int (fun _ _ => rfl)) pa_nil)))) pa_nil))))) (pg_name (i := 4) sc_l_right.nd rfl (Or.inl rfl)) (pss_one (ps_if (pt_cmpR op_ne (pe_callB (r := rRepr K) (id := "repr") (call_repr (by exact g) (by exact hr.units)) (by rfl) T.b_repr (by decide +kernel) (pa_cons (StX.pe_callO (pv 3) ⟨T.a_T_call, T.i_T_call, T.z_call⟩ (fnR_of (ok_T_call T) T.bn_T_call) (hr.mono (by decide)) pass0 (pa_cons (StX.pe_callO (pv 2) ⟨T.a_T_call, T.i_T_call, T.z_call⟩ (fnR_of (ok_T_call T) T.bn_T_call) (hr.mono (by decide)) pass0 (pa_cons (pv 4) pa_nil)) pa_nil)) pa_nil)) (pe_callB (r := rRepr K) (id := "repr") (call_repr (by exact g) (by exact hr.units)) (by rfl) T.b_repr (by decide +kernel) (pa_cons (pv 4) pa_nil)) (nomark _)) (pss_one (ps_ret pe_bl)) pss_nil)))
      (pss_one (ps_ret (pe_callB (cr_all rfl) (by rfl) T.b_all (by decide +kernel) (pa_cons (pe_lc (own := [("_law_note", 5)]) rfl sc_l_right.nd (pi_tup (pe_tup (pa_cons pe_int (pa_cons pe_int (pa_cons (pe_un un_neg pe_int) (pa_cons (pe_op op_powW pe_int pe_int) (pa_cons (pe_call (ok_l_take T) (hr.mono (by decide)) rfl T.g_l_take T.k_l_take T.bn_l_take .nil pass0 (pa_cons (pv 0) (pa_cons pe_int pa_nil))) pa_nil))))))) (blkOk_by (own := [("_law_note", 5)]) (N := ["_law_pot_here", "_law_row_here", "_law_tie_here", "_law_turned", "_law_place", "_law_note"]) (sc := defScope s_l_right) (by decide +kernel)) (fun _ _ _ _ _ => (pg_name (i := 5) sc_l_right.nd rfl (Or.inl rfl))) (fun _ _ _ _ _ => pts_nil) (fun _ _ _ _ _ => (pe_cmpR op_eq (pe_callB (r := rRepr K) (id := "repr") (call_repr (by exact g) (by exact hr.units)) (by rfl) T.b_repr (by decide +kernel) (pa_cons (pe_meth (pv 3) T.cl ⟨T.a_T_led, T.i_T_led, T.k_T_led⟩ (ok_T_led T) (hr.mono (by decide)) T.bn_T_led .nil pass0 (pa_cons (pe_meth (pv 2) T.cl ⟨T.a_T_led, T.i_T_led, T.k_T_led⟩ (ok_T_led T) (hr.mono (by decide)) T.bn_T_led .nil pass0 (pa_cons (pv 5) pa_nil)) pa_nil)) pa_nil)) (pe_callB (r := rRepr K) (id := "repr") (call_repr (by exact g) (by exact hr.units)) (by rfl) T.b_repr (by decide +kernel) (pa_cons (pv 5) pa_nil)) (nomark _)))) pa_nil)))))))))), ?_⟩
    refine' shareT (fun q' H' => ∃ r' n', RowAt H' q' r' ∧ r'.Ok ∧ Pot H' p n' ∧ n' ≤ n + 9 ∧ Keep p H H') (fun tail => ?main) ?b3
    case main =>
      -- the row
      refine ⟨_, rfl, _, rfl, by show 3 ≤ sizeLine; decide, fun a ha => ?_⟩
      refine ⟨p, a, n, _, rfl, hp.new ha, by omega, upd_same, (hp.ne ha).symm, by decide, by decide, fun v n1 H1 hv hn1 hp1 k1 => ?_⟩
      have kp1 : Keep p H H1 := (Keep.rfl'.new ha).trans k1
      obtain ⟨z, rfl, z0, z1⟩ : ∃ z : Int, v = .int z ∧ 1 ≤ z ∧ z ≤ 20 := by
        simp only [List.mem_cons, List.not_mem_nil, or_false] at hv
        rcases hv with rfl | rfl | rfl <;> exact ⟨_, rfl, by decide, by decide⟩
      refine ⟨p, n1, z, rfl, hp1, by omega, z0, by omega, fun r q n2 H2 ok fz sz hn2 hp2 k2 hq nq => ?_⟩
      have kp2 : Keep p H H2 := kp1.trans k2
      refine ⟨_, rfl, _, _, rfl, rfl, ⟨by decide, by decide +kernel⟩, by show 4 ≤ sizeLine; decide, fun b hb => ?_⟩
      refine ⟨p, b, n2, _, rfl, hp2.new hb, by omega, upd_same, (hp2.ne hb).symm, by decide, by decide, fun v n3 H3 hv hn3 hp3 k3 => ?_⟩
      have kp3 : Keep p H H3 := (kp2.new hb).trans k3
      have hq3 : RowAt H3 q r := ((Keep.rfl'.new hb).trans k3).row hp2 hq
      obtain ⟨y, rfl, y0, y1⟩ : ∃ y : Int, v = .int y ∧ 0 ≤ y ∧ y ≤ 10 ^ 29 := by
        simp only [List.mem_cons, List.not_mem_nil, or_false] at hv
        rcases hv with rfl | rfl | rfl | rfl <;> exact ⟨_, rfl, by decide, by decide⟩
      refine ⟨q, r, y, rfl, hq3, fun x H4 nx s4 hx => ?_⟩
      have e30 : (10 : Int) ^ 30 = 10 * 10 ^ 29 := by decide +kernel
      have e29 : (10 : Int) ^ 29 = 10 * 10 ^ 28 := by decide +kernel
      have e28 : (100 : Int) < 10 ^ 28 := by decide +kernel
      have f0 := ok.f0; have s0 := ok.s0; have l0 := ok.l0
      have ok4 : Row.Ok { r with f := r.f + y, s := r.s + y } := ok.far y0 (by omega) (by omega)
      -- one longer, now and then
      refine ⟨_, rfl, p, n3, _, rfl, hp3.same s4, by omega, by decide, by decide, fun d n5 H5 d0 d1 hn5 hp5 k5 => ?_⟩
      have kp5 : Keep p H H5 := (kp3.same s4).trans k5
      have hx5 : RowAt H5 x { r with f := r.f + y, s := r.s + y } := k5.row (hp3.same s4) hx
      refine ⟨rfl, _, rfl, ?_⟩
      have b1 : (r.f + y) + (r.l + 10 ^ 28) ≤ 10 ^ 30 := by omega
      have b2 : (r.s + y) + (r.l + 10 ^ 28) ≤ 10 ^ 30 := by omega
      generalize hr1 : Row.mk (r.f + y) (r.s + y) r.l r.a r.d r.b = r1 at hx5 ok4
      have b3 : r1.f + (r1.l + 10 ^ 28) ≤ 10 ^ 30 ∧ r1.s + (r1.l + 10 ^ 28) ≤ 10 ^ 30 := by rw [← hr1]; exact ⟨b1, b2⟩
      have l1 := ok4.l0
      refine ite2 (fun c => ?b1) (fun c => ?b2)
      case b2 => exact tail x H5 ⟨r1, n5, hx5, ok4, hp5, by omega, kp5⟩
      case b1 =>
        refine ⟨_, rfl, _, rfl, x, _, rfl, SqT.of hx5, fun c => absurd (show (2 : Nat) = 6 from c.2) (by decide), fun _ u hu => ?_⟩
        have sa := Same.new (o := .tup (cutV r1.vs none (some 2))) (Same.refl H5) hu
        refine ⟨_, rfl, x, _, _, _, rfl, rfl, SqT.of (sa _ _ hx5), rfl, _, _, rfl, rfl, ⟨by decide, by decide +kernel⟩, _, _, rfl, rfl, by show 1 ≤ sizeLine; decide, fun t ht => ?_⟩
        have sb := Same.new (o := .tup [.int (r1.l + 10 ^ 28)]) (Same.refl (upd H5 u (.tup (cutV r1.vs none (some 2))))) ht
        refine ⟨u, t, [.int r1.f, .int r1.s], [.int (r1.l + 10 ^ 28)], rfl, rfl, SqT.of (sb _ _ upd_same), SqT.of upd_same, (by show 2 + 1 ≤ sizeLine; decide), (fun c => by cases c), (fun _ c => by cases c), fun _ _ v hv => ?_⟩
        have sc := Same.new (o := .tup [.int r1.f, .int r1.s, .int (r1.l + 10 ^ 28)]) (sa.trans sb) hv
        refine ⟨_, rfl, _, rfl, x, _, rfl, SqT.of (sc _ _ hx5), fun c => absurd (show (3 : Nat) = 0 from c.1) (by decide), fun _ w' hw => ?_⟩
        have sd := Same.new (o := .tup [.int r1.a, .bl r1.d, .bl r1.b]) (Same.refl (upd (upd (upd H5 u (.tup (cutV r1.vs none (some 2)))) t (.tup [.int (r1.l + 10 ^ 28)])) v (.tup [.int r1.f, .int r1.s, .int (r1.l + 10 ^ 28)]))) hw
        refine ⟨v, w', [.int r1.f, .int r1.s, .int (r1.l + 10 ^ 28)], [.int r1.a, .bl r1.d, .bl r1.b], rfl, rfl, SqT.of (sd _ _ upd_same), SqT.of upd_same, (by show 3 + 3 ≤ sizeLine; decide), (fun c => by cases c), (fun _ c => by cases c), fun _ _ x2 hx2 => ?_⟩
        have se := Same.new (o := .tup (Row.mk r1.f r1.s (r1.l + 10 ^ 28) r1.a r1.d r1.b).vs) (sc.trans sd) hx2
        refine tail x2 _ ⟨Row.mk r1.f r1.s (r1.l + 10 ^ 28) r1.a r1.d r1.b, n5, upd_same, ⟨ok4.f0, ok4.s0, by show 1 ≤ r1.l + 10 ^ 28; omega, b3.1, b3.2, ok4.al, ok4.ah, fun h => by show 1 < r1.l + 10 ^ 28; omega⟩, hp5.same se, by omega, kp5.same se⟩
    case b3 =>
      rintro q H6 ⟨r2, n6, hq6, ok6, hp6, hn6, kp6⟩
      refine ⟨_, rfl, q, r2, rfl, hq6, ok6, fun x1 H7 nx1 s7 ht1 => ?_⟩
      obtain ⟨dx1, e1⟩ := id ht1
      refine ⟨_, rfl, x1, dx1, _, rfl, e1, x1, r2, rfl, ht1, ok6, fun x2 H8 nx2 s8 ht2 => ?_⟩
      obtain ⟨dx2, e2⟩ := id ht2
      have okb := ok6.back
      obtain ⟨w1, w2, w3, w4⟩ := dat_ok okb
      have hq8 : RowAt H8 q r2 := Same.row (s7.trans s8) hq6
      have ht18 : TieAt Z.cC H8 x1 r2 := Same.tie s8 ht1
      -- the two texts
      refine ⟨_, rfl, x2, r2.back, rfl, ht2, fun y1 ny1 => ⟨_, r2.back.dat, rfl, Row.dp upd_same, w1, w2, w3, w4, ?_⟩⟩
      have sy1 := Same.new (o := .tup r2.back.vs) (Same.refl H8) ny1
      refine ⟨_, rfl, q, r2, rfl, Same.row sy1 hq8, fun y2 ny2 => ⟨_, r2.back.dat, rfl, Row.dp upd_same, w1, w2, w3, w4, rfl, ?_⟩⟩
      rw [decide_eq_true rfl]
      refine ⟨_, rfl, iteF ?_⟩
      have sy2 := Same.new (o := .tup r2.back.vs) sy1 ny2
      -- twice told back
      refine ⟨_, rfl, x2, dx2, _, rfl, sy2 _ _ e2, x2, r2.back, rfl, Same.tie sy2 ht2, okb, fun x3 H11 nx3 s11 ht3 => ?_⟩
      rw [Row.back_back] at ht3
      have s811 : Same H8 H11 := sy2.trans s11
      obtain ⟨dx3, e3⟩ := id ht3
      refine ⟨_, rfl, ⟨x3, x1, dx3, dx1, _, _, rfl, rfl, e3, (s8.trans s811) _ _ e1, r2, ht3, Same.tie s811 ht18⟩, fun H12 s12 => ⟨true, rfl, iteF ?_⟩⟩
      have s812 : Same H8 H12 := s811.trans s12
      have e1' : H12 x1 = some (.ins Z.cC dx1 (tfs r2)) := (s8.trans s812) _ _ e1
      have e2' : H12 x2 = some (.ins Z.cC dx2 (tfs r2.back)) := s812 _ _ e2
      have hq12 : RowAt H12 q r2 := Same.row s812 hq8
      have s612 : Same H6 H12 := (s7.trans s8).trans s812
      have hp12 : Pot H12 p n6 := hp6.same s612
      have kp12 : Keep p H H12 := kp6.same s612
      have f0 := ok6.f0; have s0 := ok6.s0; have l0 := ok6.l0; have fe := ok6.fe; have se := ok6.se
      have e30 : (10 : Int) ^ 30 < 10 ^ 60 := by decide +kernel
      -- the places
      refine ⟨_, rfl, q, _, _, _, rfl, rfl, SqT.of hq12, rfl, _, rfl, q, _, _, _, rfl, rfl, SqT.of hq12, rfl, _, rfl, q, _, _, _, rfl, rfl, SqT.of hq12, rfl, _, _, rfl, rfl, _, _, rfl, rfl, ?_⟩
      refine ⟨_, rfl, q, _, _, _, rfl, rfl, SqT.of hq12, rfl, _, rfl, _, rfl, q, _, _, _, rfl, rfl, SqT.of hq12, rfl, p, n6, _, rfl, hp12, by omega, by omega, by omega, fun d n7 H13 d0 d1 hn7 hp13 k13 => ?_⟩
      refine ⟨_, _, rfl, rfl, by show 3 ≤ sizeLine; decide, fun t ht => ?_⟩
      have kp13 : Keep p H H13 := kp12.trans k13
      have c1 : H13 x1 = some (.ins Z.cC dx1 (tfs r2)) := k13 _ _ (hp12.off e1' (fun _ z => by cases z)) e1'
      have c2 : H13 x2 = some (.ins Z.cC dx2 (tfs r2.back)) := k13 _ _ (hp12.off e2' (fun _ z => by cases z)) e2'
      refine ⟨t, rfl, ⟨_, SqT.of upd_same⟩, ?_⟩
      have st := Same.new (o := .tup [.int r2.f, .int (r2.f + r2.l - 1), .int (r2.f + d)]) (Same.refl H13) ht
      have m1 := st _ _ c1
      have m2 := st _ _ c2
      have okt : ∀ z : Int, z = r2.f ∨ z = r2.f + r2.l - 1 ∨ z = r2.f + d → r2.f ≤ z ∧ z < r2.f + r2.l := fun z hz => by omega
      refine for_tup (xs := [.int r2.f, .int (r2.f + r2.l - 1), .int (r2.f + d)]) (fun _ σ H' => ∃ v, σ = [some (.ref p), some (.ref q), some (.ref x1), some (.ref x2), v, none] ∧ H' = upd H13 t (.tup [.int r2.f, .int (r2.f + r2.l - 1), .int (r2.f + d)])) ⟨_, rfl, rfl⟩ (fun i σ H' _ ⟨_, _, e⟩ => by rw [e]; exact SqT.of upd_same) ?_ ?_
      · rintro i x σ H' hi ⟨v, rfl, rfl⟩
        obtain ⟨z, rfl, hz⟩ : ∃ z : Int, x = .int z ∧ (z = r2.f ∨ z = r2.f + r2.l - 1 ∨ z = r2.f + d) := by
          have := List.mem_of_getElem? hi
          simp only [List.mem_cons, List.not_mem_nil, or_false] at this
          rcases this with rfl | rfl | rfl
          · exact ⟨_, rfl, .inl rfl⟩
          · exact ⟨_, rfl, .inr (.inl rfl)⟩
          · exact ⟨_, rfl, .inr (.inr rfl)⟩
        obtain ⟨g0, g1⟩ := okt z hz
        obtain ⟨i0, i1⟩ := partner_in z g0 g1
        have pb := partner_back (r := r2) z
        have zz : -(10 ^ 64) < z ∧ z < 10 ^ 64 := by
          have : (10 : Int) ^ 30 < 10 ^ 64 := by decide +kernel
          constructor <;> omega
        have sh : (PyData.int z).shown.length ≤ sizeLine := by
          rw [shown_int]
          have := int_len64 zz.1 zz.2
          have sl : sizeLine = 16777216 := sizeLine_eq
          omega
        have dp : (PyData.int z).depth ≤ 60 := by simp [PyData.depth]
        have nd : (PyData.int z).hasDict = false := by simp [PyData.hasDict]
        refine ⟨_, rfl, x2, rfl, _, rfl, x1, rfl, _, rfl, .inr ⟨dx1, _, m1⟩, x1, r2, z, rfl, ⟨dx1, m1⟩, g0, g1, .inr ⟨dx2, _, m2⟩, x2, r2.back, partner r2 z, rfl, ⟨dx2, m2⟩, i0, i1, ?_⟩
        rw [pb]
        refine ⟨_, .int z, rfl, .int z, int_ok64 zz.1 zz.2, nd, dp, sh, _, rfl, _, .int z, rfl, .int z, int_ok64 zz.1 zz.2, nd, dp, sh, rfl, ?_⟩
        rw [decide_eq_true rfl]
        exact ⟨_, rfl, iteF ⟨_, rfl, rfl⟩⟩
      · rintro σ H' ⟨v, rfl, rfl⟩
        refine ⟨_, rfl, _, _, rfl, rfl, ⟨by decide, by decide +kernel⟩, _, rfl, p, n7, 99, rfl, hp13.new ht, by omega, by decide, by decide, fun e n8 H14 e0 e1 hn8 hp14 k14 => ⟨by show 5 ≤ sizeLine; decide, fun t2 ht2 => ?_⟩⟩
        have kp14 : Keep p H H14 := (kp13.new ht).trans k14
        have c3 : H14 x1 = some (.ins Z.cC dx1 (tfs r2)) := k14 _ _ ((hp13.new ht).off m1 (fun _ z => by cases z)) m1
        have c4 : H14 x2 = some (.ins Z.cC dx2 (tfs r2.back)) := k14 _ _ ((hp13.new ht).off m2 (fun _ z => by cases z)) m2
        have s2 := Same.new (o := .tup [.int 0, .int 1, .int (-5), .int ((10 : Int) ^ (39 : Int).toNat), .int e]) (Same.refl H14) ht2
        have c5 := s2 _ _ c3
        have c6 := s2 _ _ c4
        have s3 := Same.trans s2 (Same.refl _)
        refine ⟨t2, rfl, ⟨_, SqT.of upd_same⟩, fun D hD => lc_tup (xs := [.int 0, .int 1, .int (-5), .int ((10 : Int) ^ (39 : Int).toNat), .int e]) (fun i H' => H' D = some (.lst (List.replicate i (.bl true))) ∧ Same (upd H14 t2 (.tup [.int 0, .int 1, .int (-5), .int ((10 : Int) ^ (39 : Int).toNat), .int e])) H')
          ⟨upd_same, Same.new (Same.refl _) hD⟩ (fun i H' _ h => SqT.of (h.2 _ _ upd_same)) ?_ ?_⟩
        · rintro i x H' hi ⟨hD', sm⟩
          obtain ⟨z, rfl, z0, z1⟩ : ∃ z : Int, x = .int z ∧ -(10 ^ 64) < z ∧ z < 10 ^ 64 := by
            have := List.mem_of_getElem? hi
            simp only [List.mem_cons, List.not_mem_nil, or_false] at this
            rcases this with rfl | rfl | rfl | rfl | rfl
            · exact ⟨_, rfl, by decide +kernel, by decide +kernel⟩
            · exact ⟨_, rfl, by decide +kernel, by decide +kernel⟩
            · exact ⟨_, rfl, by decide +kernel, by decide +kernel⟩
            · exact ⟨_, rfl, by decide +kernel, by decide +kernel⟩
            · have : (99 : Int) < 10 ^ 64 := by decide +kernel
              exact ⟨_, rfl, by omega, by omega⟩
          have i5 : i < 5 := (List.getElem?_eq_some_iff.mp hi).1
          have sh : (PyData.int z).shown.length ≤ sizeLine := by
            rw [shown_int]
            have := int_len64 z0 z1
            have sl : sizeLine = 16777216 := sizeLine_eq
            omega
          have dp : (PyData.int z).depth ≤ 60 := by simp [PyData.depth]
          have nd : (PyData.int z).hasDict = false := by simp [PyData.hasDict]
          have h1 := sm _ _ c5
          have h2 := sm _ _ c6
          refine ⟨rfl, ?_⟩
          unfold tYes
          refine iteT ?_
          refine ⟨_, rfl, x2, dx2, _, rfl, h2, tfs_led r2.back, _, rfl, x1, dx1, _, rfl, h1, tfs_led r2, _, rfl, x1, r2, z, rfl, ⟨dx1, h1⟩, x2, r2.back, led r2 z, rfl, ⟨dx2, h2⟩, ?_⟩
          rw [led_back]
          refine ⟨_, .int z, rfl, .int z, int_ok64 z0 z1, nd, dp, sh, _, rfl, _, .int z, rfl, .int z, int_ok64 z0 z1, nd, dp, sh, rfl, ?_⟩
          rw [decide_eq_true rfl]
          refine ⟨_, hD', ?_, ?_, fun b o eb => ?_⟩
          · rw [List.length_replicate]
            exact Nat.lt_trans i5 (by decide)
          · rw [← List.replicate_succ']
            exact upd_same
          · rw [upd_ne (ne_of_none eb hD)]
            exact sm b o eb
        · rintro H' ⟨hD', sm⟩
          refine ⟨D, List.replicate 5 true, rfl, SqL.of (by rw [List.map_replicate]; exact hD'), ?_⟩
          exact k n8 H' (by omega) (hp14.same (s2.trans sm)) (kp14.same (s2.trans sm))
end
end TT

set_option Elab.async false
set_option linter.all false
set_option maxRecDepth 100000
set_option maxHeartbeats 4000000
namespace TT
open PySem PySem.Spec PyProof.Rows L2
def sp_law (K : PySem.W.Frag) : Sp := fun vs H Q _ => ∃ (a : Addr) (ns : List Int), vs = [.ref a] ∧ SqL K H a (ns.map V.int) ∧ ns.length ≤ 63 ∧ ∀ H', Q (.bl true) H'
theorem rg_item {m : Int} {i : Nat} {x : V} (h : (rgV 0 m)[i]? = some x) : ∃ z : Int, x = .int z ∧ 0 ≤ z ∧ z < m := by
  have := List.mem_of_getElem? h
  unfold rgV at this
  obtain ⟨j, hj, rfl⟩ := List.mem_map.mp this
  have := List.mem_range.mp hj
  exact ⟨0 + (j : Int), rfl, by omega, by omega⟩
section
variable {P : Program} {w : World} {K : PySem.W.Frag} {mg : Str → Option Value} {base : Heap} {Z : Zs}
theorem ok_law (T : Txt K mg Z) : GOk P w K mg base CX0 10 Z.f_law Z.d_law ["_law_script"] (sp_law K) := by
  refine okG T.F_law sc_law (fun vs H Q E h => ?_) (fun cdv A outer s H vs Q E g hr h => ?_)
  · obtain ⟨a, ns, rfl, _⟩ := h
    rfl
  · obtain ⟨a, ns, rfl, hS, hl, k⟩ := h
    refine ⟨_, (pss_cons (ps_for PassesOwn.never rfl (pi_list (pe_call (ok_l_cells T) (hr.mono (by decide)) rfl T.g_l_cells T.k_l_cells T.bn_l_cells .nil pass0 (pa_cons (pv 0) (pa_cons pe_int pa_nil)))) (pg_name (i := 1) sc_law.nd rfl (Or.inl rfl)) (pss_cons (ps_set (i := 2) sc_law.nd rfl (Or.inr rfl) (pe_call (ok_l_pot T) (hr.mono (by decide)) rfl T.g_l_pot T.k_l_pot T.bn_l_pot .nil pass0 (pa_cons (pv 0) (pa_cons (pv 1) pa_nil))))
      (pss_one (ps_if (pt_not (pt_val (pe_callB (cr_all rfl) (by rfl) T.b_all (by decide +kernel) (pa_cons (pe_lc (own := [("_law_lap", 3)]) rfl sc_law.nd (pi_range1 rfl T.b_range (pa_cons pe_int pa_nil)) (blkOk_by (own := [("_law_lap", 3)]) (N := ["_law_script", "_law_k", "_law_pot_here", "_law_lap"]) (sc := defScope s_law) (by decide +kernel)) (fun _ _ _ _ _ => (pg_name (i := 3) sc_law.nd rfl (Or.inl rfl))) (fun _ _ _ _ _ => pts_nil) (fun _ _ _ _ _ => (pe_callG (ok_l_right T) g (hr.mono (by decide)) rfl T.g_l_right T.k_l_right T.bn_l_right .nil pass0 (pa_cons (pv 2) pa_nil)))) pa_nil)))) (pss_one (ps_ret pe_bl)) pss_nil))))
      (pss_one (ps_ret pe_bl))), ?_⟩
    refine ⟨_, rfl, a, ns, 4, rfl, hS, hl, by decide, by decide, fun q m nq m1 m2 => ?_⟩
    have s0 := Same.new (o := .lst (rgV 0 m)) (Same.refl H) nq
    refine ⟨q, rfl, ⟨_, SqL.of upd_same⟩, for_list (xs := rgV 0 m) (fun _ σ H' => ∃ v1 v2, σ = [some (.ref a), v1, v2, none] ∧ Same (upd H q (.lst (rgV 0 m))) H') ⟨_, _, rfl, Same.refl _⟩ (fun i σ H' _ ⟨_, _, _, e⟩ => e.seq (SqL.of upd_same)) ?_ ?_⟩
    · rintro i x σ H1 hi ⟨v1, v2, rfl, s1⟩
      obtain ⟨z, rfl, z0, z1⟩ := rg_item hi
      refine ⟨_, rfl, _, rfl, a, ns, z, rfl, (s0.trans s1).seq hS, hl, z0, by omega, fun p H2 np s2 hp2 => ?_⟩
      refine ⟨8, rfl, by decide, by decide, fun D hD => ?_⟩
      have npD : p ≠ D := hp2.ne hD
      refine lc_range (n := 8) (fun i H' => ∃ n', n' ≤ 40 * i ∧ Pot H' p n' ∧ H' D = some (.lst (List.replicate i (.bl true))) ∧ Keep p H2 H') ⟨0, Nat.le_refl _, hp2.new hD, upd_same, Keep.rfl'.new hD⟩ ?_ ?_
      · rintro j H' hj ⟨n', hn', hp', hD', kp'⟩
        refine ⟨rfl, ?_⟩
        unfold tYes
        refine iteT ?_
        refine ⟨_, rfl, p, n', rfl, hp', by omega, fun n2 H3 hn2 hp3 k3 => ?_⟩
        have hD3 := k3 _ _ npD.symm hD'
        refine ⟨_, hD3, ?_, n2, by omega, ?_, ?_, fun b o nb e => ?_⟩
        · rw [List.length_replicate]
          exact Nat.lt_trans hj (by decide)
        · obtain ⟨x1, x2, e1, e2⟩ := hp3
          exact ⟨x1, x2, by rw [upd_ne npD]; exact e1, e2⟩
        · rw [← List.replicate_succ']
          exact upd_same
        · rw [upd_ne (ne_of_none e hD)]
          exact k3 _ _ nb (kp' _ _ nb e)
      · rintro H' ⟨n', hn', hp', hD', kp'⟩
        refine ⟨D, List.replicate 8 true, rfl, SqL.of (by rw [List.map_replicate]; exact hD'), _, rfl, ?_⟩
        refine iteF ?_
        refine ⟨_, _, rfl, fun b o e => ?_⟩
        have e1 := s1 _ _ e
        exact kp' _ _ (ne_of_none e1 np) (s2 _ _ e1)
    · rintro σ H' ⟨v1, v2, rfl, s1⟩
      exact k H'
end
end TT

set_option Elab.async false
set_option linter.all false
set_option maxRecDepth 100000
set_option maxHeartbeats 8000000
namespace TT
open PySem PySem.Spec PyProof.Rows L2
theorem kit_self {K : PySem.W.Frag} {a : Addr} : PySem.W.kitOne K (.ref a) (.ref a) = some true := by
  unfold PySem.W.kitOne
  rw [if_pos (beq_iff_eq.mpr rfl)]
theorem all_mk {l : PySem.W.OpenLaw} {w : World} {K : PySem.W.Frag} {h : Heap} {mg : Str → Option Value} {fa C f0 f1 f2 f3 f4 f5 f6 f7 f8 f9 f10 f11 f12 f13 f14 f15 f16 f17 f18 f19 f20 f21 f22 aT4 aD4 : Addr} (X : K.In h) (G : h.Ns mainGlobals mg) (hfa : mg "law" = some (.ref fa))
    {od0 an0 od1 an1 od2 an2 od3 an3 od4 an4 odT4 od5 an5 od6 an6 od7 an7 od8 an8 od9 an9 od10 an10 od11 an11 od12 an12 od13 an13 od14 an14 od15 an15 od16 an16 od17 an17 od18 an18 od19 an19 od20 an20 od21 an21 od22 an22 : Option Addr} {sl0 sl1 sl2 sl3 sl4 slT4 sl5 sl6 sl7 sl8 sl9 sl10 sl11 sl12 sl13 sl14 sl15 sl16 sl17 sl18 sl19 sl20 sl21 sl22 : Array (Option Value)} {oc0 kV0 dc0 pm0 cd0 ct0 oc1 kV1 dc1 pm1 cd1 ct1 oc2 kV2 dc2 pm2 cd2 ct2 oc3 kV3 dc3 pm3 cd3 ct3 oc4 dc4 pm4 cd4 ct4 ocT4 oc5 kV5 dc5 pm5 cd5 ct5 oc6 kV6 dc6 pm6 cd6 ct6 oc7 kV7 dc7 pm7 cd7 ct7 oc8 kV8 dc8 pm8 cd8 ct8 oc9 kV9 dc9 pm9 cd9 ct9 oc10 kV10 dc10 pm10 cd10 ct10 oc11 kV11 dc11 pm11 cd11 ct11 oc12 kV12 dc12 pm12 cd12 ct12 oc13 kV13 dc13 pm13 cd13 ct13 oc14 kV14 dc14 pm14 cd14 ct14 oc15 kV15 dc15 pm15 cd15 ct15 oc16 kV16 dc16 pm16 cd16 ct16 oc17 kV17 dc17 pm17 cd17 ct17 oc18 kV18 dc18 pm18 cd18 ct18 oc19 kV19 dc19 pm19 cd19 ct19 oc20 kV20 dc20 pm20 cd20 ct20 oc21 kV21 dc21 pm21 cd21 ct21 oc22 kV22 dc22 pm22 cd22 ct22 : Value} {nT4 : Nat} {tD4_0 t_GREATEST t__DIGITS t__CHUNK : Tok}
    (aC : PySem.W.nsIn K mainGlobals "Tie" = some (some (.ref C)))
    (a0 : PySem.W.nsIn K mainGlobals "is_whole" = some (some (.ref f0)))
    (l0 : K.lookup f0 = some ⟨oc0, od0, .func (PySem.W.fnOf "is_whole" "is_whole" (defArgs s_is_whole) (defBody s_is_whole) (defScope s_is_whole) .none kV0 dc0 pm0 an0 cd0 ct0), sl0⟩)
    (c0 : PySem.W.codeIn K cd0 "is_whole" = true)
    (k0 : PySem.W.keepIn K (.ref f0) = true)
    (a1 : PySem.W.nsIn K mainGlobals "is_from" = some (some (.ref f1)))
    (l1 : K.lookup f1 = some ⟨oc1, od1, .func (PySem.W.fnOf "is_from" "is_from" (defArgs s_is_from) (defBody s_is_from) (defScope s_is_from) .none kV1 dc1 pm1 an1 cd1 ct1), sl1⟩)
    (c1 : PySem.W.codeIn K cd1 "is_from" = true)
    (k1 : PySem.W.keepIn K (.ref f1) = true)
    (a2 : PySem.W.nsIn K mainGlobals "is_between" = some (some (.ref f2)))
    (l2 : K.lookup f2 = some ⟨oc2, od2, .func (PySem.W.fnOf "is_between" "is_between" (defArgs s_is_between) (defBody s_is_between) (defScope s_is_between) .none kV2 dc2 pm2 an2 cd2 ct2), sl2⟩)
    (c2 : PySem.W.codeIn K cd2 "is_between" = true)
    (k2 : PySem.W.keepIn K (.ref f2) = true)
    (a3 : PySem.W.nsIn K mainGlobals "written" = some (some (.ref f3)))
    (l3 : K.lookup f3 = some ⟨oc3, od3, .func (PySem.W.fnOf "written" "written" (defArgs s_written) (defBody s_written) (defScope s_written) .none kV3 dc3 pm3 an3 cd3 ct3), sl3⟩)
    (c3 : PySem.W.codeIn K cd3 "written" = true)
    (k3 : PySem.W.keepIn K (.ref f3) = true)
    (a4 : PySem.W.findIn K (.ref C) "__init__" = some (some (.ref f4)))
    (i4 : PySem.W.isFn K (.ref f4) = true)
    (l4 : K.lookup f4 = some ⟨oc4, od4, .func (PySem.W.fnOf "__init__" "Tie.__init__" (defArgs s_T_init) (defBody s_T_init) (defScope s_T_init) (.ref aT4) (.ref aD4) dc4 pm4 an4 cd4 ct4), sl4⟩)
    (c4 : PySem.W.codeIn K cd4 "Tie.__init__" = true)
    (k4 : PySem.W.keepIn K (.ref f4) = true)
    (lT4 : K.lookup aT4 = some ⟨ocT4, odT4, .seq ([Value.int 0 tD4_0] : List Value).toArray nT4, slT4⟩)
    (w4_down : PySem.W.nsIn K aD4 "down" = some (some (.bool false)))
    (w4_backward : PySem.W.nsIn K aD4 "backward" = some (some (.bool false)))
    (a5 : PySem.W.findIn K (.ref C) "__call__" = some (some (.ref f5)))
    (i5 : PySem.W.isFn K (.ref f5) = true)
    (l5 : K.lookup f5 = some ⟨oc5, od5, .func (PySem.W.fnOf "__call__" "Tie.__call__" (defArgs s_T_call) (defBody s_T_call) (defScope s_T_call) .none kV5 dc5 pm5 an5 cd5 ct5), sl5⟩)
    (c5 : PySem.W.codeIn K cd5 "Tie.__call__" = true)
    (k5 : PySem.W.keepIn K (.ref f5) = true)
    (a6 : PySem.W.findIn K (.ref C) "led" = some (some (.ref f6)))
    (i6 : PySem.W.isFn K (.ref f6) = true)
    (l6 : K.lookup f6 = some ⟨oc6, od6, .func (PySem.W.fnOf "led" "Tie.led" (defArgs s_T_led) (defBody s_T_led) (defScope s_T_led) .none kV6 dc6 pm6 an6 cd6 ct6), sl6⟩)
    (c6 : PySem.W.codeIn K cd6 "Tie.led" = true)
    (k6 : PySem.W.keepIn K (.ref f6) = true)
    (a7 : PySem.W.findIn K (.ref C) "__invert__" = some (some (.ref f7)))
    (i7 : PySem.W.isFn K (.ref f7) = true)
    (l7 : K.lookup f7 = some ⟨oc7, od7, .func (PySem.W.fnOf "__invert__" "Tie.__invert__" (defArgs s_T_invert) (defBody s_T_invert) (defScope s_T_invert) .none kV7 dc7 pm7 an7 cd7 ct7), sl7⟩)
    (c7 : PySem.W.codeIn K cd7 "Tie.__invert__" = true)
    (k7 : PySem.W.keepIn K (.ref f7) = true)
    (a8 : PySem.W.findIn K (.ref C) "__eq__" = some (some (.ref f8)))
    (i8 : PySem.W.isFn K (.ref f8) = true)
    (l8 : K.lookup f8 = some ⟨oc8, od8, .func (PySem.W.fnOf "__eq__" "Tie.__eq__" (defArgs s_T_eq) (defBody s_T_eq) (defScope s_T_eq) .none kV8 dc8 pm8 an8 cd8 ct8), sl8⟩)
    (c8 : PySem.W.codeIn K cd8 "Tie.__eq__" = true)
    (k8 : PySem.W.keepIn K (.ref f8) = true)
    (a9 : PySem.W.nsIn K mainGlobals "_check_parts" = some (some (.ref f9)))
    (l9 : K.lookup f9 = some ⟨oc9, od9, .func (PySem.W.fnOf "_check_parts" "_check_parts" (defArgs s_check_parts) (defBody s_check_parts) (defScope s_check_parts) .none kV9 dc9 pm9 an9 cd9 ct9), sl9⟩)
    (c9 : PySem.W.codeIn K cd9 "_check_parts" = true)
    (k9 : PySem.W.keepIn K (.ref f9) = true)
    (a10 : PySem.W.nsIn K mainGlobals "_check_leading" = some (some (.ref f10)))
    (l10 : K.lookup f10 = some ⟨oc10, od10, .func (PySem.W.fnOf "_check_leading" "_check_leading" (defArgs s_check_leading) (defBody s_check_leading) (defScope s_check_leading) .none kV10 dc10 pm10 an10 cd10 ct10), sl10⟩)
    (c10 : PySem.W.codeIn K cd10 "_check_leading" = true)
    (k10 : PySem.W.keepIn K (.ref f10) = true)
    (a11 : PySem.W.nsIn K mainGlobals "_law_pot" = some (some (.ref f11)))
    (l11 : K.lookup f11 = some ⟨oc11, od11, .func (PySem.W.fnOf "_law_pot" "_law_pot" (defArgs s_l_pot) (defBody s_l_pot) (defScope s_l_pot) .none kV11 dc11 pm11 an11 cd11 ct11), sl11⟩)
    (c11 : PySem.W.codeIn K cd11 "_law_pot" = true)
    (k11 : PySem.W.keepIn K (.ref f11) = true)
    (a12 : PySem.W.nsIn K mainGlobals "_law_take" = some (some (.ref f12)))
    (l12 : K.lookup f12 = some ⟨oc12, od12, .func (PySem.W.fnOf "_law_take" "_law_take" (defArgs s_l_take) (defBody s_l_take) (defScope s_l_take) .none kV12 dc12 pm12 an12 cd12 ct12), sl12⟩)
    (c12 : PySem.W.codeIn K cd12 "_law_take" = true)
    (k12 : PySem.W.keepIn K (.ref f12) = true)
    (a13 : PySem.W.nsIn K mainGlobals "_law_of" = some (some (.ref f13)))
    (l13 : K.lookup f13 = some ⟨oc13, od13, .func (PySem.W.fnOf "_law_of" "_law_of" (defArgs s_l_of) (defBody s_l_of) (defScope s_l_of) .none kV13 dc13 pm13 an13 cd13 ct13), sl13⟩)
    (c13 : PySem.W.codeIn K cd13 "_law_of" = true)
    (k13 : PySem.W.keepIn K (.ref f13) = true)
    (a14 : PySem.W.nsIn K mainGlobals "_law_cells" = some (some (.ref f14)))
    (l14 : K.lookup f14 = some ⟨oc14, od14, .func (PySem.W.fnOf "_law_cells" "_law_cells" (defArgs s_l_cells) (defBody s_l_cells) (defScope s_l_cells) .none kV14 dc14 pm14 an14 cd14 ct14), sl14⟩)
    (c14 : PySem.W.codeIn K cd14 "_law_cells" = true)
    (k14 : PySem.W.keepIn K (.ref f14) = true)
    (a15 : PySem.W.nsIn K mainGlobals "_law_amount" = some (some (.ref f15)))
    (l15 : K.lookup f15 = some ⟨oc15, od15, .func (PySem.W.fnOf "_law_amount" "_law_amount" (defArgs s_l_amount) (defBody s_l_amount) (defScope s_l_amount) .none kV15 dc15 pm15 an15 cd15 ct15), sl15⟩)
    (c15 : PySem.W.codeIn K cd15 "_law_amount" = true)
    (k15 : PySem.W.keepIn K (.ref f15) = true)
    (a16 : PySem.W.nsIn K mainGlobals "_law_row" = some (some (.ref f16)))
    (l16 : K.lookup f16 = some ⟨oc16, od16, .func (PySem.W.fnOf "_law_row" "_law_row" (defArgs s_l_row) (defBody s_l_row) (defScope s_l_row) .none kV16 dc16 pm16 an16 cd16 ct16), sl16⟩)
    (c16 : PySem.W.codeIn K cd16 "_law_row" = true)
    (k16 : PySem.W.keepIn K (.ref f16) = true)
    (a17 : PySem.W.nsIn K mainGlobals "_law_far" = some (some (.ref f17)))
    (l17 : K.lookup f17 = some ⟨oc17, od17, .func (PySem.W.fnOf "_law_far" "_law_far" (defArgs s_l_far) (defBody s_l_far) (defScope s_l_far) .none kV17 dc17 pm17 an17 cd17 ct17), sl17⟩)
    (c17 : PySem.W.codeIn K cd17 "_law_far" = true)
    (k17 : PySem.W.keepIn K (.ref f17) = true)
    (a18 : PySem.W.nsIn K mainGlobals "_law_tie" = some (some (.ref f18)))
    (l18 : K.lookup f18 = some ⟨oc18, od18, .func (PySem.W.fnOf "_law_tie" "_law_tie" (defArgs s_l_tie) (defBody s_l_tie) (defScope s_l_tie) .none kV18 dc18 pm18 an18 cd18 ct18), sl18⟩)
    (c18 : PySem.W.codeIn K cd18 "_law_tie" = true)
    (k18 : PySem.W.keepIn K (.ref f18) = true)
    (a19 : PySem.W.nsIn K mainGlobals "_law_row_of" = some (some (.ref f19)))
    (l19 : K.lookup f19 = some ⟨oc19, od19, .func (PySem.W.fnOf "_law_row_of" "_law_row_of" (defArgs s_l_row_of) (defBody s_l_row_of) (defScope s_l_row_of) .none kV19 dc19 pm19 an19 cd19 ct19), sl19⟩)
    (c19 : PySem.W.codeIn K cd19 "_law_row_of" = true)
    (k19 : PySem.W.keepIn K (.ref f19) = true)
    (a20 : PySem.W.nsIn K mainGlobals "_law_back" = some (some (.ref f20)))
    (l20 : K.lookup f20 = some ⟨oc20, od20, .func (PySem.W.fnOf "_law_back" "_law_back" (defArgs s_l_back) (defBody s_l_back) (defScope s_l_back) .none kV20 dc20 pm20 an20 cd20 ct20), sl20⟩)
    (c20 : PySem.W.codeIn K cd20 "_law_back" = true)
    (k20 : PySem.W.keepIn K (.ref f20) = true)
    (a21 : PySem.W.nsIn K mainGlobals "_law_right" = some (some (.ref f21)))
    (l21 : K.lookup f21 = some ⟨oc21, od21, .func (PySem.W.fnOf "_law_right" "_law_right" (defArgs s_l_right) (defBody s_l_right) (defScope s_l_right) .none kV21 dc21 pm21 an21 cd21 ct21), sl21⟩)
    (c21 : PySem.W.codeIn K cd21 "_law_right" = true)
    (k21 : PySem.W.keepIn K (.ref f21) = true)
    (a22 : PySem.W.nsIn K mainGlobals "law" = some (some (.ref f22)))
    (l22 : K.lookup f22 = some ⟨oc22, od22, .func (PySem.W.fnOf "law" "law" (defArgs s_law) (defBody s_law) (defScope s_law) .none kV22 dc22 pm22 an22 cd22 ct22), sl22⟩)
    (c22 : PySem.W.codeIn K cd22 "law" = true)
    (k22 : PySem.W.keepIn K (.ref f22) = true)
    (b_isinstance : PySem.W.nsIn K mainGlobals "isinstance" = some none)
    (b_int : PySem.W.nsIn K mainGlobals "int" = some none)
    (b_bool : PySem.W.nsIn K mainGlobals "bool" = some none)
    (b_str : PySem.W.nsIn K mainGlobals "str" = some none)
    (b_max : PySem.W.nsIn K mainGlobals "max" = some none)
    (b_len : PySem.W.nsIn K mainGlobals "len" = some none)
    (b_abs : PySem.W.nsIn K mainGlobals "abs" = some none)
    (b_list : PySem.W.nsIn K mainGlobals "list" = some none)
    (b_range : PySem.W.nsIn K mainGlobals "range" = some none)
    (b_min : PySem.W.nsIn K mainGlobals "min" = some none)
    (b_all : PySem.W.nsIn K mainGlobals "all" = some none)
    (b_repr : PySem.W.nsIn K mainGlobals "repr" = some none)
    (y_GREATEST : PySem.W.nsIn K mainGlobals "GREATEST" = some (some (.int 1000000000000000000000000000000 t_GREATEST)))
    (y__DIGITS : PySem.W.nsIn K mainGlobals "_DIGITS" = some (some (.int 64 t__DIGITS)))
    (y__CHUNK : PySem.W.nsIn K mainGlobals "_CHUNK" = some (some (.int 10000000000000000000000000000000000000000000000000000000000000000 t__CHUNK)))
    (pg : PySem.W.plainGet K C Str.empty = true)
    (hd : PySem.W.hasDictIn K C = true)
    (po : PySem.W.plainOver K C = true)
    (sa : PySem.W.findIn K (.ref C) "__setattr__" = some (some (.builtin "object.__setattr__")))
    (mkc : PySem.W.makesIn K C = true)
    (kcc : PySem.W.keepIn K (.ref C) = true)
    (n_first : PySem.W.findIn K (.ref C) "first" = some none)
    (n_second : PySem.W.findIn K (.ref C) "second" = some none)
    (n_length : PySem.W.findIn K (.ref C) "length" = some none)
    (n_amount : PySem.W.findIn K (.ref C) "amount" = some none)
    (n_down : PySem.W.findIn K (.ref C) "down" = some none)
    (n_backward : PySem.W.findIn K (.ref C) "backward" = some none)
    (n_text : PySem.W.findIn K (.ref C) "text" = some none)
    (z_cls : PySem.W.findIn K (.ref C) "__class__" = some (some (.builtin "object.__class__")))
    (z_get : PySem.W.specialIn K (.builtin "object.__class__") "__get__" = some (some (.builtin "getset_descriptor.__get__")))
    (z_tk : PySem.W.takesIn K (.builtin "object.__class__") = some true)
    (z_mro : PySem.W.mroIn K C (.type "object") = some true)
    (z_call : PySem.W.fnIn K f5 = true) :
    ∃ fd : FuncData, (∀ (s : Shared) (v : Value), BindsTo s fd ⟨[v], []⟩ [("_law_script", v)]) ∧ ∀ base : Heap, K.In base → base.Ns mainGlobals mg → GOk l.prog w K mg base CX0 10 fa fd ["_law_script"] (sp_law K) := by
  have e := hfa.symm.trans (PySem.W.mg_of X G a22)
  cases e
  have F0 := fun_mk (st := s_is_whole) l0 c0 k0
  have F1 := fun_mk (st := s_is_from) l1 c1 k1
  have F2 := fun_mk (st := s_is_between) l2 c2 k2
  have F3 := fun_mk (st := s_written) l3 c3 k3
  have F4 : FunD K "__init__" "Tie.__init__" (defArgs s_T_init) (defBody s_T_init) (defScope s_T_init) [.int 0] [("down", .bl false), ("backward", .bl false)] f4 (PySem.W.fnOf "__init__" "Tie.__init__" (defArgs s_T_init) (defBody s_T_init) (defScope s_T_init) (.ref aT4) (.ref aD4) dc4 pm4 an4 cd4 ct4) := by
    refine ⟨⟨_, _, _, _, _, _, _, _, _, _, rfl, l4, c4, .inr ⟨by decide, aT4, _, _, _, rfl, lT4, rfl, .cons ⟨_, rfl⟩ .nil⟩, .inr ⟨aD4, rfl, fun q hq => ?_⟩⟩, k4⟩
    simp only [List.mem_cons, List.not_mem_nil, or_false] at hq
    rcases hq with rfl | rfl
    · exact ⟨_, w4_down, rfl⟩
    · exact ⟨_, w4_backward, rfl⟩
  have F5 := fun_mk (st := s_T_call) l5 c5 k5
  have F6 := fun_mk (st := s_T_led) l6 c6 k6
  have F7 := fun_mk (st := s_T_invert) l7 c7 k7
  have F8 := fun_mk (st := s_T_eq) l8 c8 k8
  have F9 := fun_mk (st := s_check_parts) l9 c9 k9
  have F10 := fun_mk (st := s_check_leading) l10 c10 k10
  have F11 := fun_mk (st := s_l_pot) l11 c11 k11
  have F12 := fun_mk (st := s_l_take) l12 c12 k12
  have F13 := fun_mk (st := s_l_of) l13 c13 k13
  have F14 := fun_mk (st := s_l_cells) l14 c14 k14
  have F15 := fun_mk (st := s_l_amount) l15 c15 k15
  have F16 := fun_mk (st := s_l_row) l16 c16 k16
  have F17 := fun_mk (st := s_l_far) l17 c17 k17
  have F18 := fun_mk (st := s_l_tie) l18 c18 k18
  have F19 := fun_mk (st := s_l_row_of) l19 c19 k19
  have F20 := fun_mk (st := s_l_back) l20 c20 k20
  have F21 := fun_mk (st := s_l_right) l21 c21 k21
  have F22 := fun_mk (st := s_law) l22 c22 k22
  have T : Txt K mg { f_is_whole := f0, d_is_whole := PySem.W.fnOf "is_whole" "is_whole" (defArgs s_is_whole) (defBody s_is_whole) (defScope s_is_whole) .none kV0 dc0 pm0 an0 cd0 ct0, f_is_from := f1, d_is_from := PySem.W.fnOf "is_from" "is_from" (defArgs s_is_from) (defBody s_is_from) (defScope s_is_from) .none kV1 dc1 pm1 an1 cd1 ct1, f_is_between := f2, d_is_between := PySem.W.fnOf "is_between" "is_between" (defArgs s_is_between) (defBody s_is_between) (defScope s_is_between) .none kV2 dc2 pm2 an2 cd2 ct2, f_written := f3, d_written := PySem.W.fnOf "written" "written" (defArgs s_written) (defBody s_written) (defScope s_written) .none kV3 dc3 pm3 an3 cd3 ct3, f_T_init := f4, d_T_init := PySem.W.fnOf "__init__" "Tie.__init__" (defArgs s_T_init) (defBody s_T_init) (defScope s_T_init) (.ref aT4) (.ref aD4) dc4 pm4 an4 cd4 ct4, f_T_call := f5, d_T_call := PySem.W.fnOf "__call__" "Tie.__call__" (defArgs s_T_call) (defBody s_T_call) (defScope s_T_call) .none kV5 dc5 pm5 an5 cd5 ct5, f_T_led := f6, d_T_led := PySem.W.fnOf "led" "Tie.led" (defArgs s_T_led) (defBody s_T_led) (defScope s_T_led) .none kV6 dc6 pm6 an6 cd6 ct6, f_T_invert := f7, d_T_invert := PySem.W.fnOf "__invert__" "Tie.__invert__" (defArgs s_T_invert) (defBody s_T_invert) (defScope s_T_invert) .none kV7 dc7 pm7 an7 cd7 ct7, f_T_eq := f8, d_T_eq := PySem.W.fnOf "__eq__" "Tie.__eq__" (defArgs s_T_eq) (defBody s_T_eq) (defScope s_T_eq) .none kV8 dc8 pm8 an8 cd8 ct8, f_check_parts := f9, d_check_parts := PySem.W.fnOf "_check_parts" "_check_parts" (defArgs s_check_parts) (defBody s_check_parts) (defScope s_check_parts) .none kV9 dc9 pm9 an9 cd9 ct9, f_check_leading := f10, d_check_leading := PySem.W.fnOf "_check_leading" "_check_leading" (defArgs s_check_leading) (defBody s_check_leading) (defScope s_check_leading) .none kV10 dc10 pm10 an10 cd10 ct10, f_l_pot := f11, d_l_pot := PySem.W.fnOf "_law_pot" "_law_pot" (defArgs s_l_pot) (defBody s_l_pot) (defScope s_l_pot) .none kV11 dc11 pm11 an11 cd11 ct11, f_l_take := f12, d_l_take := PySem.W.fnOf "_law_take" "_law_take" (defArgs s_l_take) (defBody s_l_take) (defScope s_l_take) .none kV12 dc12 pm12 an12 cd12 ct12, f_l_of := f13, d_l_of := PySem.W.fnOf "_law_of" "_law_of" (defArgs s_l_of) (defBody s_l_of) (defScope s_l_of) .none kV13 dc13 pm13 an13 cd13 ct13, f_l_cells := f14, d_l_cells := PySem.W.fnOf "_law_cells" "_law_cells" (defArgs s_l_cells) (defBody s_l_cells) (defScope s_l_cells) .none kV14 dc14 pm14 an14 cd14 ct14, f_l_amount := f15, d_l_amount := PySem.W.fnOf "_law_amount" "_law_amount" (defArgs s_l_amount) (defBody s_l_amount) (defScope s_l_amount) .none kV15 dc15 pm15 an15 cd15 ct15, f_l_row := f16, d_l_row := PySem.W.fnOf "_law_row" "_law_row" (defArgs s_l_row) (defBody s_l_row) (defScope s_l_row) .none kV16 dc16 pm16 an16 cd16 ct16, f_l_far := f17, d_l_far := PySem.W.fnOf "_law_far" "_law_far" (defArgs s_l_far) (defBody s_l_far) (defScope s_l_far) .none kV17 dc17 pm17 an17 cd17 ct17, f_l_tie := f18, d_l_tie := PySem.W.fnOf "_law_tie" "_law_tie" (defArgs s_l_tie) (defBody s_l_tie) (defScope s_l_tie) .none kV18 dc18 pm18 an18 cd18 ct18, f_l_row_of := f19, d_l_row_of := PySem.W.fnOf "_law_row_of" "_law_row_of" (defArgs s_l_row_of) (defBody s_l_row_of) (defScope s_l_row_of) .none kV19 dc19 pm19 an19 cd19 ct19, f_l_back := f20, d_l_back := PySem.W.fnOf "_law_back" "_law_back" (defArgs s_l_back) (defBody s_l_back) (defScope s_l_back) .none kV20 dc20 pm20 an20 cd20 ct20, f_l_right := f21, d_l_right := PySem.W.fnOf "_law_right" "_law_right" (defArgs s_l_right) (defBody s_l_right) (defScope s_l_right) .none kV21 dc21 pm21 an21 cd21 ct21, f_law := fa, d_law := PySem.W.fnOf "law" "law" (defArgs s_law) (defBody s_law) (defScope s_law) .none kV22 dc22 pm22 an22 cd22 ct22, t_GREATEST := t_GREATEST, t__DIGITS := t__DIGITS, t__CHUNK := t__CHUNK, cC := C } := { F_is_whole := F0, bn_is_whole := F0.binds (ps := ["value"]) fun _ _ _ _ _ _ us hl => match us, hl with | [_], _ => rfl, k_is_whole := k0, g_is_whole := PySem.W.mg_of X G a0, F_is_from := F1, bn_is_from := F1.binds (ps := ["value", "least"]) fun _ _ _ _ _ _ us hl => match us, hl with | [_, _], _ => rfl, k_is_from := k1, g_is_from := PySem.W.mg_of X G a1, F_is_between := F2, bn_is_between := F2.binds (ps := ["value", "least", "greatest"]) fun _ _ _ _ _ _ us hl => match us, hl with | [_, _, _], _ => rfl, k_is_between := k2, g_is_between := PySem.W.mg_of X G a2, F_written := F3, bn_written := F3.binds (ps := ["number"]) fun _ _ _ _ _ _ us hl => match us, hl with | [_], _ => rfl, k_written := k3, g_written := PySem.W.mg_of X G a3, F_T_init := F4, k_T_init := k4, i_T_init := i4, a_T_init := a4, F_T_call := F5, bn_T_call := F5.binds (ps := ["self", "place"]) fun _ _ _ _ _ _ us hl => match us, hl with | [_, _], _ => rfl, k_T_call := k5, i_T_call := i5, a_T_call := a5, F_T_led := F6, bn_T_led := F6.binds (ps := ["self", "note"]) fun _ _ _ _ _ _ us hl => match us, hl with | [_, _], _ => rfl, k_T_led := k6, i_T_led := i6, a_T_led := a6, F_T_invert := F7, bn_T_invert := F7.binds (ps := ["self"]) fun _ _ _ _ _ _ us hl => match us, hl with | [_], _ => rfl, k_T_invert := k7, i_T_invert := i7, a_T_invert := a7, F_T_eq := F8, bn_T_eq := F8.binds (ps := ["self", "other"]) fun _ _ _ _ _ _ us hl => match us, hl with | [_, _], _ => rfl, k_T_eq := k8, i_T_eq := i8, a_T_eq := a8, F_check_parts := F9, bn_check_parts := F9.binds (ps := ["first", "second", "length"]) fun _ _ _ _ _ _ us hl => match us, hl with | [_, _, _], _ => rfl, k_check_parts := k9, g_check_parts := PySem.W.mg_of X G a9, F_check_leading := F10, bn_check_leading := F10.binds (ps := ["amount", "down", "backward"]) fun _ _ _ _ _ _ us hl => match us, hl with | [_, _, _], _ => rfl, k_check_leading := k10, g_check_leading := PySem.W.mg_of X G a10, F_l_pot := F11, bn_l_pot := F11.binds (ps := ["_law_script", "_law_k"]) fun _ _ _ _ _ _ us hl => match us, hl with | [_, _], _ => rfl, k_l_pot := k11, g_l_pot := PySem.W.mg_of X G a11, F_l_take := F12, bn_l_take := F12.binds (ps := ["_law_pot_here", "_law_under"]) fun _ _ _ _ _ _ us hl => match us, hl with | [_, _], _ => rfl, k_l_take := k12, g_l_take := PySem.W.mg_of X G a12, F_l_of := F13, bn_l_of := F13.binds (ps := ["_law_pot_here", "_law_some"]) fun _ _ _ _ _ _ us hl => match us, hl with | [_, _], _ => rfl, k_l_of := k13, g_l_of := PySem.W.mg_of X G a13, F_l_cells := F14, bn_l_cells := F14.binds (ps := ["_law_script", "_law_most"]) fun _ _ _ _ _ _ us hl => match us, hl with | [_, _], _ => rfl, k_l_cells := k14, g_l_cells := PySem.W.mg_of X G a14, F_l_amount := F15, bn_l_amount := F15.binds (ps := ["_law_pot_here"]) fun _ _ _ _ _ _ us hl => match us, hl with | [_], _ => rfl, k_l_amount := k15, g_l_amount := PySem.W.mg_of X G a15, F_l_row := F16, bn_l_row := F16.binds (ps := ["_law_pot_here", "_law_size"]) fun _ _ _ _ _ _ us hl => match us, hl with | [_, _], _ => rfl, k_l_row := k16, g_l_row := PySem.W.mg_of X G a16, F_l_far := F17, bn_l_far := F17.binds (ps := ["_law_row_here", "_law_far_here"]) fun _ _ _ _ _ _ us hl => match us, hl with | [_, _], _ => rfl, k_l_far := k17, g_l_far := PySem.W.mg_of X G a17, F_l_tie := F18, bn_l_tie := F18.binds (ps := ["_law_row_here"]) fun _ _ _ _ _ _ us hl => match us, hl with | [_], _ => rfl, k_l_tie := k18, g_l_tie := PySem.W.mg_of X G a18, F_l_row_of := F19, bn_l_row_of := F19.binds (ps := ["_law_tie_here"]) fun _ _ _ _ _ _ us hl => match us, hl with | [_], _ => rfl, k_l_row_of := k19, g_l_row_of := PySem.W.mg_of X G a19, F_l_back := F20, bn_l_back := F20.binds (ps := ["_law_row_here"]) fun _ _ _ _ _ _ us hl => match us, hl with | [_], _ => rfl, k_l_back := k20, g_l_back := PySem.W.mg_of X G a20, F_l_right := F21, bn_l_right := F21.binds (ps := ["_law_pot_here"]) fun _ _ _ _ _ _ us hl => match us, hl with | [_], _ => rfl, k_l_right := k21, g_l_right := PySem.W.mg_of X G a21, F_law := F22, bn_law := F22.binds (ps := ["_law_script"]) fun _ _ _ _ _ _ us hl => match us, hl with | [_], _ => rfl, k_law := k22, g_law := PySem.W.mg_of X G a22, b_isinstance := PySem.W.mg_none_of X G b_isinstance, b_int := PySem.W.mg_none_of X G b_int, b_bool := PySem.W.mg_none_of X G b_bool, b_str := PySem.W.mg_none_of X G b_str, b_max := PySem.W.mg_none_of X G b_max, b_len := PySem.W.mg_none_of X G b_len, b_abs := PySem.W.mg_none_of X G b_abs, b_list := PySem.W.mg_none_of X G b_list, b_range := PySem.W.mg_none_of X G b_range, b_min := PySem.W.mg_none_of X G b_min, b_all := PySem.W.mg_none_of X G b_all, b_repr := PySem.W.mg_none_of X G b_repr, c_GREATEST := PySem.W.mg_of X G y_GREATEST, c__DIGITS := PySem.W.mg_of X G y__DIGITS, c__CHUNK := PySem.W.mg_of X G y__CHUNK, cl := ⟨pg, hd, po, sa⟩, g_C := PySem.W.mg_of X G aC, mkC := mkc, kC := kcc, n_first := n_first, n_second := n_second, n_length := n_length, n_amount := n_amount, n_down := n_down, n_backward := n_backward, n_text := n_text, z_cls := z_cls, z_get := z_get, z_tk := z_tk, z_mro := z_mro, z_call := z_call, z_kit := kit_self }
  exact ⟨_, fun s v => .of_eq rfl, fun base _ _ => ok_law T⟩
end TT
open PySem PySem.W PyProof.Rows
set_option maxRecDepth 100000 in
set_option maxHeartbeats 0 in
theorem PySem.Challenge.cw_turnedtunes_k05_ties_told_back_holds : PySem.Challenge.rw_turnedtunes_k05_ties_told_back.Holds := by
  w_on; o_law; k_head; (case hw => w_witness2)
  k_fill
  refine TT.walk_g (n := 63) (k := 10) (x := "_law_script") (CX := L2.CX0) (sp := TT.sp_law) (l := PySem.Challenge.rw_turnedtunes_k05_ties_told_back) rfl (by decide) rfl ⟨rfl, by decide, by decide⟩ (fun w h Y => PySem.W.kIn_of Y) ?F (fun K H a ns hl hS => ⟨a, ns, rfl, hS, hl, fun _ => rfl⟩) (fun _ _ _ _ z => z)
  case F =>
    intro w mg fa h KX G hmg
    refine' TT.all_mk KX G hmg ?aC ?a0 ?l0 ?c0 ?k0 ?a1 ?l1 ?c1 ?k1 ?a2 ?l2 ?c2 ?k2 ?a3 ?l3 ?c3 ?k3 ?a4 ?i4 ?l4 ?c4 ?k4 ?lT4 ?w4_down ?w4_backward ?a5 ?i5 ?l5 ?c5 ?k5 ?a6 ?i6 ?l6 ?c6 ?k6 ?a7 ?i7 ?l7 ?c7 ?k7 ?a8 ?i8 ?l8 ?c8 ?k8 ?a9 ?l9 ?c9 ?k9 ?a10 ?l10 ?c10 ?k10 ?a11 ?l11 ?c11 ?k11 ?a12 ?l12 ?c12 ?k12 ?a13 ?l13 ?c13 ?k13 ?a14 ?l14 ?c14 ?k14 ?a15 ?l15 ?c15 ?k15 ?a16 ?l16 ?c16 ?k16 ?a17 ?l17 ?c17 ?k17 ?a18 ?l18 ?c18 ?k18 ?a19 ?l19 ?c19 ?k19 ?a20 ?l20 ?c20 ?k20 ?a21 ?l21 ?c21 ?k21 ?a22 ?l22 ?c22 ?k22 ?b_isinstance ?b_int ?b_bool ?b_str ?b_max ?b_len ?b_abs ?b_list ?b_range ?b_min ?b_all ?b_repr ?y_GREATEST ?y__DIGITS ?y__CHUNK ?pg ?hd ?po ?sa ?mkc ?kcc ?n_first ?n_second ?n_length ?n_amount ?n_down ?n_backward ?n_text ?z_cls ?z_get ?z_tk ?z_mro ?z_call
    (case aC => k_is)
    (case a0 => k_is)
    (case l0 => k_is)
    (case c0 => k_is)
    (case k0 => k_is)
    (case a1 => k_is)
    (case l1 => k_is)
    (case c1 => k_is)
    (case k1 => k_is)
    (case a2 => k_is)
    (case l2 => k_is)
    (case c2 => k_is)
    (case k2 => k_is)
    (case a3 => k_is)
    (case l3 => k_is)
    (case c3 => k_is)
    (case k3 => k_is)
    (case a4 => k_is)
    (case i4 => k_is)
    (case l4 => k_is)
    (case c4 => k_is)
    (case k4 => k_is)
    (case lT4 => k_is)
    (case w4_down => k_is)
    (case w4_backward => k_is)
    (case a5 => k_is)
    (case i5 => k_is)
    (case l5 => k_is)
    (case c5 => k_is)
    (case k5 => k_is)
    (case a6 => k_is)
    (case i6 => k_is)
    (case l6 => k_is)
    (case c6 => k_is)
    (case k6 => k_is)
    (case a7 => k_is)
    (case i7 => k_is)
    (case l7 => k_is)
    (case c7 => k_is)
    (case k7 => k_is)
    (case a8 => k_is)
    (case i8 => k_is)
    (case l8 => k_is)
    (case c8 => k_is)
    (case k8 => k_is)
    (case a9 => k_is)
    (case l9 => k_is)
    (case c9 => k_is)
    (case k9 => k_is)
    (case a10 => k_is)
    (case l10 => k_is)
    (case c10 => k_is)
    (case k10 => k_is)
    (case a11 => k_is)
    (case l11 => k_is)
    (case c11 => k_is)
    (case k11 => k_is)
    (case a12 => k_is)
    (case l12 => k_is)
    (case c12 => k_is)
    (case k12 => k_is)
    (case a13 => k_is)
    (case l13 => k_is)
    (case c13 => k_is)
    (case k13 => k_is)
    (case a14 => k_is)
    (case l14 => k_is)
    (case c14 => k_is)
    (case k14 => k_is)
    (case a15 => k_is)
    (case l15 => k_is)
    (case c15 => k_is)
    (case k15 => k_is)
    (case a16 => k_is)
    (case l16 => k_is)
    (case c16 => k_is)
    (case k16 => k_is)
    (case a17 => k_is)
    (case l17 => k_is)
    (case c17 => k_is)
    (case k17 => k_is)
    (case a18 => k_is)
    (case l18 => k_is)
    (case c18 => k_is)
    (case k18 => k_is)
    (case a19 => k_is)
    (case l19 => k_is)
    (case c19 => k_is)
    (case k19 => k_is)
    (case a20 => k_is)
    (case l20 => k_is)
    (case c20 => k_is)
    (case k20 => k_is)
    (case a21 => k_is)
    (case l21 => k_is)
    (case c21 => k_is)
    (case k21 => k_is)
    (case a22 => k_is)
    (case l22 => k_is)
    (case c22 => k_is)
    (case k22 => k_is)
    (case b_isinstance => k_is)
    (case b_int => k_is)
    (case b_bool => k_is)
    (case b_str => k_is)
    (case b_max => k_is)
    (case b_len => k_is)
    (case b_abs => k_is)
    (case b_list => k_is)
    (case b_range => k_is)
    (case b_min => k_is)
    (case b_all => k_is)
    (case b_repr => k_is)
    (case y_GREATEST => k_is)
    (case y__DIGITS => k_is)
    (case y__CHUNK => k_is)
    (case pg => k_is)
    (case hd => k_is)
    (case po => k_is)
    (case sa => k_is)
    (case mkc => k_is)
    (case kcc => k_is)
    (case n_first => k_is)
    (case n_second => k_is)
    (case n_length => k_is)
    (case n_amount => k_is)
    (case n_down => k_is)
    (case n_backward => k_is)
    (case n_text => k_is)
    (case z_cls => k_is)
    (case z_get => k_is)
    (case z_tk => k_is)
    (case z_mro => k_is)
    (case z_call => k_is)
#print axioms PySem.Challenge.cw_turnedtunes_k05_ties_told_back_holds
