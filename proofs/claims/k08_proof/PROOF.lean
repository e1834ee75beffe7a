import PyProof.Rows.All
import Wide.All
import OpenK.AllK
import Wide.FinOn
import HandS.Base
import HandS.Call
import HandS.List
import HandS.Comp
import HandS.Iter
import HandS.Text
import HandS.Ends
import HandS.Words
import HandS.WordsExc
import HandS.Wide
import HandS.FStr
import HandS.IsInst
import HandS.Defaults
import HandS.MakeKwOnly
import HandS.OwnEq
import HandS.TupAny
import HandS.Style
import HandS.Conv
import HandS.Star
import HandS.Dict
import HandS.More
import HandS.Exc
import HandS.ExcInit
import HandS.ExcIs
import HandS.ExcField
import HandS.DeepEq
import HandS.Deep
import HandS.Lambda
import HandS.EndTab
import PyProof.EqAt
import PyProof.EqKinds
import PyProof.TupleCall
import PyProof.ReprRoads
import PyProof.LongRange
import PyProof.ListRange
import PyProof.NeKinds
import KE.DataMinMax
import HandS.StrMore
import HandS.Codes
import KE.IntTextLaws
import HandS.ClsMeth
import HandS.TryOnly
import PySem.Challenge.RW_turnedtunes_k08_whole_algebra_of_ties
set_option Elab.async false
set_option linter.all false
set_option maxRecDepth 100000
set_option maxHeartbeats 4000000
/-! Rules of our own over the hand layer: powers of great ints, repr of data, own unary operators, promises that know that no repr is under way. -/
namespace TT
open PySem PySem.Spec PyProof.Rows L2
section
variable {X : Cx}
/-- a ** b of any size that fits -/
theorem op_powW : OpR X (binaryOp .Pow) (rI (fun i j => 0 ≤ j ∧ (Builtin.Int.intBits i : Int) * j ≤ 2 ^ 27) fun i j => .int (i ^ j.toNat)) :=
  opI fun _ _ _ _ _ _ _ hc q => pow_int hc.1 hc.2 q

/-- repr(x), x data without dicts -/
def rRepr (K : PySem.W.Frag) : List V → Hp → VK → Prop := fun xs H Q => ∃ (x : V) (d : PyData), xs = [x] ∧ Dp K H x d ∧ d.showable = true ∧ d.hasDict = false ∧ d.depth ≤ 60 ∧ d.shown.length ≤ sizeLine ∧ Q (.str d.shown) H
theorem call_repr (hg : X.A.guards = some []) (hu : X.A.units + 64 < cLine) : CallR X (.builtin "repr") (rRepr X.K) := by
  intro pins s σ H xs us Q I r h
  obtain ⟨x, d, rfl, hd, hs, hn, hdep, hz, q⟩ := h
  obtain ⟨u, rfl, rx⟩ : ∃ u, us = [u] ∧ RelV x u := by
    cases r with
    | cons a b => cases b; exact ⟨_, rfl, a⟩
  obtain ⟨as, rd⟩ := Dp.reads I d x u hd rx
  have fin : ∀ h' tk u', (∀ b o, s.heap.get? b = some o → h'.get? b = some o) → EP X pins σ Q (.str d.shown u') { s with heap := h', toks := tk } :=
    fun h' tk u' hk => ⟨.str d.shown, H, I.kept hk, ⟨_, rfl⟩, q⟩
  cases hd with
  | non => obtain rfl := rx; exact PySem.P.repr_of_none (fin s.heap _ _ fun _ _ e => e)
  | bl b => obtain rfl := rx; exact PySem.P.repr_of_bool (fin s.heap _ _ fun _ _ e => e)
  | int i => obtain ⟨t, rfl⟩ := rx; exact PySem.P.repr_of_int (by simpa [PyData.showable] using hs) (fin s.heap _ _ fun _ _ e => e)
  | str y => obtain ⟨t, rfl⟩ := rx; exact PySem.P.repr_of_str (fin s.heap _ _ fun _ _ e => e) hz
  | lst h1 h2 =>
    obtain rfl := rx
    exact repr_of_reads' rd hs (PyData.noDict_hsm hn) hg (by omega) (fun _ _ e => e) (fun h' u tk hk => fin h' tk u hk) hz
  | tup h1 h2 =>
    obtain rfl := rx
    exact repr_of_reads' rd hs (PyData.noDict_hsm hn) hg (by omega) (fun _ _ e => e) (fun h' u tk hk => fin h' tk u hk) hz
end

/-! ### promises that know that no repr is under way -/
/-- the def at f keeps sp wherever it is called while no repr runs -/
structure GOk (P : Program) (w : World) (K : PySem.W.Frag) (mg : Str → Option Value) (base : Heap) (CX : CXT) (k : Nat) (f : Addr) (fd : FuncData) (ps : List Str) (sp : Sp) : Prop where
  size : ∀ vs H Q E, sp vs H Q E → vs.length = ps.length
  go : ∀ (A : Around) (outer : List Env) (s : Shared) (H : Hp) (args : Args) (us : List Value) (vs : List V) (Q : VK) (E : XK), A.guards = some [] → Room k A →
    Env0 P w K mg base A outer s H → BindsTo s fd args (ps.zip us) → Vals vs us → sp vs H Q E → codeAny (model P w) A (.call (.ref f) args) (CR CX outer P w H s Q E) s

section
variable {P : Program} {w : World} {K : PySem.W.Frag} {mg : Str → Option Value} {base : Heap} {CX : CXT} {k : Nat} {f : Addr} {ps : List Str} {sp : Sp}
theorem GOk.mono {j : Nat} {fd : FuncData} (F : GOk P w K mg base CX j f fd ps sp) (h : j ≤ k) : GOk P w K mg base CX k f fd ps sp :=
  { size := F.size, go := fun A outer s H args us vs Q E g r => F.go A outer s H args us vs Q E g (r.mono h) }
theorem GOk.weak {sp' : Sp} {fd : FuncData} (F : GOk P w K mg base CX k f fd ps sp) (h : ∀ vs H Q E, sp' vs H Q E → sp vs H Q E) : GOk P w K mg base CX k f fd ps sp' :=
  { size := fun vs H Q E q => F.size vs H Q E (h vs H Q E q), go := fun A outer s H args us vs Q E g r e b v q => F.go A outer s H args us vs Q E g r e b v (h vs H Q E q) }
/-- any promise of the layer is one -/
theorem GOk.of {fd : FuncData} (F : FnOk P w K mg base CX k f fd ps sp) : GOk P w K mg base CX k f fd ps sp :=
  { size := F.len, go := fun A outer s H args us vs Q E _ => F.run A outer s H args us vs Q E }
/-- such a def by its body -/
theorem g_of {name qual : Str} {params : Arguments} {body : List Stmt} {scope : Scope} {dV kV doc pm cdv ct oc : Value} {an od : Option Addr} {osl : Array (Option Value)} {N : List Str}
    (lk : K.lookup f = some ⟨oc, od, .func (PySem.W.fnOf name qual params body scope dV kV doc pm an cdv ct), osl⟩) (hcd : PySem.W.codeIn K cdv qual = true) (S : FnScope N ps scope)
    (size : ∀ vs H Q E, sp vs H Q E → vs.length = ps.length)
    (hb : ∀ (A : Around) (outer : List Env) (s : Shared) (H : Hp) (vs : List V) (Q : VK) (E : XK), A.guards = some [] → Room k (A.deeper (envOfC qual scope s.heap.objs.size f cdv)) → sp vs H Q E →
      ∃ t, PSs (cxOf CX P w K mg base N qual scope f cdv A outer s H E) body t ∧ t { nx := fun _ H1 => Q .non H1, rt := Q } (start N vs) H) :
    GOk P w K mg base CX (k + 1) f (PySem.W.fnOf name qual params body scope dV kV doc pm an cdv ct) ps sp := by
  refine { size := size, go := fun A outer s H args us vs Q E g hr e0 bnd rv hsp => ?_ }
  have old : ∀ b o, base.get? b = some o → s.heap.get? b = some o := fun b o e => (e0.bs b o e).1
  have kinds : ∀ y ∈ ps.zip us, scope.names.lookup y.1 = some .local ∨ (scope.names.lookup y.1 = some .cell ∧ ((cellsFrom (s.heap.objs.size + 1) scope.names []).lookup y.1).isSome = true) := by
    intro y hy
    obtain ⟨n, v⟩ := y
    refine (S.par n (List.of_mem_zip hy).1).imp id fun q => ⟨q, ?_⟩
    exact PySem.W.cellsFrom_some _ _ _ (.inl q)
  refine codeAny_call_function hr.depth (e0.mod.kin.keeps old _ _ lk) rfl S.co S.gen rfl (PySem.W.codeRec_of (e0.mod.kin.keeps old) hcd) (bnd _ _ _ _ (wpAny_newFunctionEnv_cells S.kind kinds fun env he s1 x => ?_))
  subst he
  refine ⟨(e0.mod.nolimit.keeps old).keeps x.toInCall.keep, codeAny_func ?_⟩
  obtain ⟨t, ht, hq⟩ := hb A outer s H vs Q E g (hr.deeper _) hsp
  have J : Inv (cxOf CX P w K mg base N qual scope f cdv A outer s H E) [] (start N vs) H s1 := inv_start S hr.hd e0 (size _ _ _ _ hsp) rv x
  refine wpAny_mono (ht.run [] s1 (start N vs) H _ J hq) (fun fl s2 hs => ?_) fun _ _ z => z
  cases fl with
  | ret u => obtain ⟨v, σ1, H1, I1, r1, q1⟩ := hs; exact ⟨v, H1, I1.os, I1.bare, I1.base, I1.hok, r1, q1⟩
  | next => obtain ⟨σ1, H1, I1, q1⟩ := hs; exact ⟨V.non, H1, I1.os, I1.bare, I1.base, I1.hok, rfl, q1⟩
  | brk => obtain ⟨_, _, _, z⟩ := hs; exact z.elim
  | cont => obtain ⟨_, _, _, z⟩ := hs; exact z.elim
end

/-- a def of the text that nothing leaves but by return -/
theorem okG {P : Program} {w : World} {K : PySem.W.Frag} {mg : Str → Option Value} {base : Heap} {x qual : Str} {st : Stmt} {f : Addr} {fd : FuncData} {N ps : List Str} {k : Nat} {sp : Sp} (F : Fun K x qual st f fd) (S : FnScope N ps (defScope st))
    (size : ∀ vs H Q E, sp vs H Q E → vs.length = ps.length)
    (hb : ∀ (cdv : Value) (A : Around) (outer : List Env) (s : Shared) (H : Hp) (vs : List V) (Q : VK) (E : XK), A.guards = some [] → Room k (A.deeper (envOfC qual (defScope st) s.heap.objs.size f cdv)) → sp vs H Q E →
      ∃ t, PSs (cxOf CX0 P w K mg base N qual (defScope st) f cdv A outer s H E).nox (defBody st) t ∧ t { nx := fun _ H1 => Q .non H1, rt := Q } (start N vs) H) : GOk P w K mg base CX0 (k + 1) f fd ps sp := by
  obtain ⟨oc, od, kV, doc, pm, an, cdv, ct, osl, rfl, lk, hcd⟩ := F.ex
  refine g_of lk hcd S size fun A outer s H vs Q E g hr hsp => ?_
  obtain ⟨t, h, q⟩ := hb cdv A outer s H vs Q E g hr hsp
  exact ⟨t, h.nox, q⟩
section
variable {X : Cx} {CX : CXT} {k : Nat} {f : Addr} {fd : FuncData} {ps : List Str} {sp : Sp} {dvs : List V} {ds : List Value} {E : XK} {x : Str} {p pos : Pos} {e : Expr} {es : List Expr} {t : TA}
theorem run_g {pins : List (Addr × Obj)} {σ : L2.St} {H : Hp} {s : Shared} {Q : VK} {us : List Value} {vs : List V} (F : GOk X.prog X.w X.K X.mg X.base CX k f fd ps sp) (g : X.A.guards = some []) (hr : Room k X.A)
    (hb : Binds X.K fd ps ds) (hd : Vals dvs ds) (hx : Passes CX X E) (I : Inv X pins σ H s) (r : Vals vs us) (h : sp (vs ++ dvs) H Q E) : wpAny (model X.prog X.w) X.A (call (.ref f) us) (EP X pins σ Q) X.xe s := by
  have r2 := r.append hd
  have n : (us ++ ds).length = ps.length := r2.length ▸ F.size _ _ _ _ h
  refine wpAny_call (codeAny_mono (F.go X.A X.stack s H ⟨us, []⟩ _ _ Q E g hr I.env0 (hb s us I.kIn n) r2 h) fun res s1 z => ?_)
  match res, z with
  | .error e, z => exact hx pins σ H s e s1 I z
  | .ok (.ret u), z => exact I.after z
  | .ok .next, z => exact z.elim
  | .ok .brk, z => exact z.elim
  | .ok .cont, z => exact z.elim
/-- f(e, ..) of such a def -/
theorem pe_callG (F : GOk X.prog X.w X.K X.mg X.base CX k f fd ps sp) (g : X.A.guards = some []) (hr : Room k X.A) (hg : Gl X x) (hm : X.mg x = some (.ref f)) (hk : PySem.W.keepIn X.K (.ref f) = true)
    (hb : Binds X.K fd ps ds) (hd : Vals dvs ds) (hx : Passes CX X E) (ha : PA X (e :: es) t) (hdb : (x == ("__debug__" : Str)) = false := by decide)
    (he : starEach (e :: es) X.env = (false, eval e X.env) :: starEach es X.env := by rfl) (hpl : (backTo pos (starEach es X.env)).any (·.1) = false := by rfl) : PE X (.Call (.Name x p) (e :: es) [] pos) (tCall sp dvs E t) := by
  constructor
  intro pins s σ H Q I h
  exact wpAny_Call_Name_kw (ld_glob I hg hm (PySem.W.callWith_K (h₀ := X.base) I.ok.mod.kin hk (thn (ha.run pos pins s σ H _ I h) fun us s1 ⟨vs, H1, I1, r, q⟩ => ⟨I1.kIn, run_g F g hr hb hd hx I1 r q⟩) he hpl) hdb)

/-- ~x of an instance of an own class -/
theorem un_own {C : Addr} (F : FnOk X.prog X.w X.K X.mg X.base CX k f fd ps sp) (hr : Room k X.A) (hb : Binds X.K fd ps []) (hx : Passes CX X E)
    (hs : PySem.W.findIn X.K (.ref C) "__invert__" = some (some (.ref f))) (hf : PySem.W.isFn X.K (.ref f) = true) :
    UnR X (unaryOp .Invert) (fun x H Q => ∃ a dx fs, x = .ref a ∧ H a = some (.ins C dx fs) ∧ sp [.ref a] H Q E) := by
  intro pins s σ H x v Q I rx h
  obtain ⟨a, dx, fs, rfl, ha, hq⟩ := h
  obtain rfl : v = Value.ref a := rx
  obtain ⟨mA, O, _⟩ := ins_get I.hok ha
  obtain ⟨od, J, _⟩ := O.look
  obtain ⟨m, hF⟩ := I.fr
  exact PySem.W.ksp_inv hF I.ok.mod.kin J hs hf (run_fn (us := [.ref a]) (vs := [.ref a]) (dvs := []) (ds := []) F hr hb .nil hx I (.cons rfl .nil) hq)
end

/-! ### the end of a law's row for such a promise -/
/-- the script alone is tracked: as a known list, or not at all where it is an object of the module -/
def seen (a : Addr) (ob : Obj) (ns : List Int) (own : Bool) : Hp := fun b => if own = false ∧ b = a then some (.frz ob (.lst (ns.map V.int))) else none
theorem seen_own {a : Addr} {ob : Obj} {ns : List Int} (b : Addr) : seen a ob ns true b = none := if_neg fun z => nomatch z.1
theorem seen_at {a : Addr} {ob : Obj} {ns : List Int} : seen a ob ns false a = some (.frz ob (.lst (ns.map V.int))) := if_pos ⟨rfl, rfl⟩
theorem seen_ne {a b : Addr} {ob : Obj} {ns : List Int} {o : Bool} (h : b ≠ a) : seen a ob ns o b = none := if_neg fun z => h z.2
theorem run_law {P : Program} {w : World} {K : PySem.W.Frag} {mg mb : Str → Option Value} {CX : CXT} {k : Nat} {fa a : Addr} {fd : FuncData} {x : Str} {sp : Sp} {s : Shared} {vs : List Value} {ns : List Int}
    (KX : K.In s.heap) (hns : s.heap.Ns mainGlobals mg) (hb : s.heap.Ns builtinsNs mb) (hbb : ∀ x : Str, x ≠ "__name__" → mb x = bootBuiltins x) (lim : s.heap.NoLimit) (hg : s.gens = #[])
    (ha : s.heap.get? a = some { cls := .type "list", data := .seq vs.toArray }) (hi : IntsAre vs ns) (hl : ns.length ≤ sizeLine) (hr : Room k callerA)
    (F : ∀ base : Heap, K.In base → base.Ns mainGlobals mg → GOk P w K mg base CX k fa fd [x] sp) (bnd : ∀ (s : Shared) (u : Value), BindsTo s fd ⟨[u], []⟩ [(x, u)])
    (hsp : ∀ H : Hp, SqL K H a (ns.map V.int) → sp [.ref a] H (fun v _ => v = .bl true) fun _ _ _ => False) (noX : ∀ H e s1, CX [] H s (fun _ _ _ => False) e s1 → False) :
    codeAny (model P w) callerA (.call (.ref fa) ⟨[.ref a], []⟩) (fun r s1 => r = .ok (.ret (.bool true)) ∧ OldK s.heap s1.heap ∧ s1.os = s.os ∧ AllBare s1.gens) s := by
  have rv := vals_ints hi
  obtain ⟨own, hS, hT, hK⟩ : ∃ own, SqL K (seen a { cls := .type "list", data := .seq vs.toArray } ns own) a (ns.map V.int) ∧ HOk P w (seen a { cls := .type "list", data := .seq vs.toArray } ns own) s.heap ∧
      (∀ b o, K.lookup b = some o → seen a { cls := .type "list", data := .seq vs.toArray } ns own b = none) := by
    cases hk : K.lookup a with
    | some o =>
      have e := (KX a o hk).symm.trans ha
      cases e
      refine ⟨true, .inr ⟨_, vs.toArray, _, hk, rfl, rfl, rfl, ?_, by simpa using rv⟩, fun b u z => ?_, fun b _ _ => seen_own b⟩
      · rw [List.size_toArray, hi.length]; exact hl
      · rw [seen_own] at z; cases z
    | none =>
      refine ⟨false, .inl (.inr ⟨_, seen_at⟩), fun b u z => ?_, fun b o hb => seen_ne fun e => ?_⟩
      · by_cases h : b = a
        · subst h
          rw [seen_at] at z; cases z
          exact ⟨ha, by rw [List.length_map]; exact hl, vs, _, rv, ha⟩
        · rw [seen_ne h] at z; cases z
      · subst e; rw [hk] at hb; cases hb
  generalize hH : seen a { cls := .type "list", data := .seq vs.toArray } ns own = H at hS hT hK
  have only : ∀ b u, H b = some u → b = a ∧ u = .frz { cls := .type "list", data := .seq vs.toArray } (.lst (ns.map V.int)) := fun b u z => by
    subst hH
    by_cases h : b = a
    · subst h
      cases own with
      | true => rw [seen_own] at z; cases z
      | false => rw [seen_at] at z; exact ⟨rfl, (Option.some.inj z).symm⟩
    · rw [seen_ne h] at z; cases z
  have free : ∀ {b : Addr} {o : Obj} {es : Array DictEntry} {ep : Nat}, s.heap.get? b = some o → o.data = .dict es ep → H b = none := fun {b o es ep} e d => by
    cases q : H b with
    | none => rfl
    | some u =>
      obtain ⟨rfl, _⟩ := only b u q
      have e' := e.symm.trans ha
      cases e'
      have d' : Data.seq vs.toArray _ = Data.dict es ep := d
      cases d'
  have ns' : ∀ {b : Addr} {m : Str → Option Value}, s.heap.Ns b m → (hidT s.heap H).Ns b m := fun {b m} n => by
    obtain ⟨o, es, ep, e, d, r⟩ := n
    exact ⟨o, es, ep, hidT_get e (free e d), d, r⟩
  have inK : K.In (hidT s.heap H) := fun b o e => hidT_get (KX b o e) (hK b o e)
  obtain ⟨mc, l1, l2⟩ := lim
  have e0 : Env0 P w K mg (hidT s.heap H) callerA [] s H :=
    { frames := rfl, mod := ⟨inK, ns' hns, ⟨mb, ns' hb, hbb⟩, ⟨mc, ns' l1, l2⟩⟩, bs := fun b o e => of_hidT e, bsz := Nat.le_of_eq (hidT_size _ _), funs := trivial, frf := fun b z => absurd (show b ∈ ([] : List Addr) from z) List.not_mem_nil, hok := hT, bare := .of_eq hg }
  refine codeAny_mono ((F _ inK (ns' hns)).go callerA [] s H ⟨[.ref a], []⟩ [.ref a] [.ref a] _ _ rfl hr e0 (bnd s (.ref a)) (.cons rfl .nil) (hsp H hS)) fun r s1 z => ?_
  match r, z with
  | .error e, z => exact (noX H e s1 z).elim
  | .ok .next, z => exact z.elim
  | .ok .brk, z => exact z.elim
  | .ok .cont, z => exact z.elim
  | .ok (.ret u), z =>
    obtain ⟨v, H1, os, bare, un, hok, r1, q⟩ := z
    subst q
    obtain rfl : u = Value.bool true := r1
    refine ⟨rfl, OldK.of_keep fun b o e => ?_, os, bare⟩
    cases q : H b with
    | none => exact un.keep b o e q (fun z => absurd (show b ∈ ([] : List Addr) from z) List.not_mem_nil) List.not_mem_nil
    | some u =>
      obtain ⟨rfl, rfl⟩ := only b u q
      obtain ⟨e1, _⟩ := hT _ _ q
      obtain ⟨e2, _⟩ := hok _ _ (un.frzs _ _ _ q)
      rw [e] at e1; cases e1
      exact e2
theorem walk_g {l : PySem.W.OpenLaw} {n k : Nat} {q : Program} {loose : List Str} {XP : (Str → Option Value) → Heap → Prop} {YP : World → Heap → Prop} {d : DefRec} {K : Params → PySem.W.Frag} {CX : CXT} {sp : PySem.W.Frag → Sp} {x : Str}
    (hn : l.most = some n) (hn2 : n ≤ sizeLine) (hdf : d.params.defaults = []) (hr : Room k callerA) (hY : ∀ (w : World) (h : Heap), YP w h → (K w.params).In h)
    (F : ∀ (w : World) (mg : Str → Option Value) (fa : Addr) (h : Heap), (K w.params).In h → h.Ns mainGlobals mg → mg d.name = some (.ref fa) → ∃ fd : FuncData, (∀ (s : Shared) (u : Value), BindsTo s fd ⟨[u], []⟩ [(x, u)]) ∧
        ∀ base : Heap, (K w.params).In base → base.Ns mainGlobals mg → GOk l.prog w (K w.params) mg base CX k fa fd [x] (sp (K w.params)))
    (hsp : ∀ (K : PySem.W.Frag) (H : Hp) (a : Addr) (ns : List Int), ns.length ≤ n → SqL K H a (ns.map V.int) → sp K [.ref a] H (fun v _ => v = .bl true) fun _ _ _ => False)
    (noX : ∀ (H : Hp) (s : Shared) (e : Value) (s1 : Shared), CX [] H s (fun _ _ _ => False) e s1 → False) : PySem.W.WalkO q loose XP YP l.row.toRowW d [] (fun f vs => PySem.call f vs) :=
  Att.attach_call hn hdf fun w s₀ s₁ mg mb fa o pm cd doc a vs ns G Y ho hd hcd hmg hobj hints hlen hg => by
    obtain ⟨fd, hb, hF⟩ := F w mg fa _ (hY w _ Y) G.T.g hmg
    exact run_law (hY w _ Y) G.T.g G.T.b G.T.builtins G.T.nolimit hg hobj hints (Nat.le_trans hlen hn2) hr hF hb (fun H hS => hsp _ H a ns hlen hS) fun H e s1 => noX H s₁ e s1
end TT

set_option Elab.async false
set_option linter.all false
set_option maxRecDepth 100000
set_option maxHeartbeats 4000000
/-! Errors of own classes as values: made, kept, asked (isinstance, their fields). -/
namespace TT
open PySem PySem.Spec PyProof.Rows L2
/-- at a stands an error of the class at C whose own dict holds fs -/
def Err (H : Hp) (a C : Addr) (fs : List (Str × V)) : Prop := ∃ d, H a = some (exo a C (some d)) ∧ H d = some (exd d fs)
section
variable {X : Cx}
/-- C(e, ..): the error stays with us -/
def tMkX (C : Addr) (sp : Sp) (dvs : List V) (ta : TA) : TE := fun σ H Q => ta σ H fun vs H1 => vs.length ≤ 1000 ∧ ∀ a, H1 a = none → sp (.ref a :: (vs ++ dvs)) (upd H1 a (exo a C none)) (fun v H2 => v = .non ∧ Q (.ref a) H2) fun _ _ _ => False
theorem pe_mkX {CX : CXT} {x : Str} {C fI : Addr} {k : Nat} {fd : FuncData} {ps : List Str} {sp : Sp} {ds : List Value} {dvs : List V} {e : Expr} {es : List Expr} {ta : TA} {p pos : Pos}
    (T : OexC X.K C) (iC : PySem.W.findIn X.K (.ref C) "__init__" = some (some (.ref fI))) (tI : PySem.W.typeIn X.K (.ref fI) = some (.type "function")) (F1 : FnOk X.prog X.w X.K X.mg X.base CX k fI fd ps sp) (hr : Room (k + 1) X.A)
    (hb : Binds X.K fd ps ds) (hd : Vals dvs ds) (hx : Passes CX X fun _ _ _ => False) (hg : Gl X x) (hm : X.mg x = some (.ref C)) (ha : PA X (e :: es) ta) (hdb : (x == ("__debug__" : Str)) = false := by decide)
    (he : starEach (e :: es) X.env = (false, eval e X.env) :: starEach es X.env := by rfl) (hpl : (backTo pos (starEach es X.env)).any (·.1) = false := by rfl) : PE X (.Call (.Name x p) (e :: es) [] pos) (tMkX C sp dvs ta) := by
  constructor
  intro pins s σ H Q I h
  obtain ⟨_, _, _, _, bm, _, _, _, _, _, _, _, _, _, _, hC, hbm⟩ := T.cls
  refine wpAny_Call_Name_kw (ld_glob I hg hm (PySem.W.callWith_K (h₀ := X.base) I.ok.mod.kin T.kC (thn (ha.run pos pins s σ H _ I h) fun us s1 w => ?_) he hpl) hdb)
  obtain ⟨vs, H1, I1, r1, hz, q1⟩ := w
  refine ⟨I1.kIn, ?_⟩
  obtain ⟨hp, g, dr, tk, os⟩ := s1
  have nn : hp.objs.size ≤ hp.objs.size + 1 := Nat.le_succ _
  have fr : H1 (hp.objs.size + 1) = none := I1.hok.fresh nn
  have q2 := q1 _ fr
  have keep : ∀ b o, hp.get? b = some o → ((hp.push (PySem.W.kdv_tup us)).push (PySem.HandSPX.excO C hp.objs.size)).get? b = some o := fun b o z => Heap.get?_push_of_some _ (Heap.get?_push_of_some _ z)
  have here : ((hp.push (PySem.W.kdv_tup us)).push (PySem.HandSPX.excO C hp.objs.size)).get? (hp.objs.size + 1) = some (PySem.HandSPX.excO C hp.objs.size) := by heap_get
  have I2 := I1.laid (t' := tk) (a := hp.objs.size + 1) (o := exo (hp.objs.size + 1) C none) keep nn (exo_ok here)
  have r2 : Vals (V.ref (hp.objs.size + 1) :: (vs ++ dvs)) (Value.ref (hp.objs.size + 1) :: us ++ ds) := .cons rfl (r1.append hd)
  have n1 : (Value.ref (hp.objs.size + 1) :: us ++ ds).length = ps.length := r2.length ▸ F1.len _ _ _ _ q2
  have n2 : us.length ≤ sizeLine := by
    have sl : sizeLine = 16777216 := sizeLine_eq
    have := Paired.length r1
    omega
  have run := F1.run _ X.stack _ _ ⟨Value.ref (hp.objs.size + 1) :: us, []⟩ _ _ _ (fun _ _ _ => False) (hr.make C us []) (I2.env0.make C us []) (hb _ (Value.ref (hp.objs.size + 1) :: us) I2.kIn n1) r2 q2
  refine wpAny_call (PySem.HandSPX.call_own F.excBase_ValueError (fun Y => PySem.HandSPX.refsVE_contains Y bm hbm) (I1.kIn _ _ hC) (PySem.W.looks_findIn I1.kIn iC) (fun self => PySem.W.bind_fn I1.kIn self tI) n2 (codeAny_mono run fun r s' z => ?_))
  match r, z with
  | .error er, z => exact hx pins σ _ _ er s' I2 z
  | .ok .next, z => exact z.elim
  | .ok .brk, z => exact z.elim
  | .ok .cont, z => exact z.elim
  | .ok (.ret u), z =>
    obtain ⟨v, H2, o2, b2, u2, k2, rv, ev, q3⟩ := z
    subst ev
    have un : Un (frs X.stack) [] H1 H2 hp s'.heap := (Un.laid keep nn fr).trans u2
    exact ⟨rv, .ref (hp.objs.size + 1), H2, I1.call' (ch := []) o2 un k2 b2 (fun b z => absurd z (by simp)), rfl, q3⟩
/-- the object of an error and its dict -/
theorem err_at {pins : List (Addr × Obj)} {σ : L2.St} {H : Hp} {s : Shared} {a C : Addr} {fs : List (Str × V)} (I : Inv X pins σ H s) (h : Err H a C fs) :
    ∃ ox od, PySem.W.InstAt s.heap a ox C (some od) ∧ ∃ mA : Str → Option Value, (∀ name, PySem.W.lookIn name od = some (mA name)) ∧ ∀ f, RelO (fs.lookup f) (mA f) := by
  obtain ⟨d, h1, h2⟩ := h
  obtain ⟨t1, e1⟩ := exo_at I.hok h1
  obtain ⟨mA, hn, hr⟩ := exd_at I.hok h2
  obtain ⟨od, ho, hl⟩ := lookIn_ns hn
  exact ⟨_, od, ⟨e1, rfl, rfl, ho⟩, mA, hl, hr⟩
/-- e.n of an error -/
def tXv (K : PySem.W.Frag) (n : Str) (te : TE) : TE := fun σ H Q => te σ H fun x H1 => ∃ a C fs v, x = .ref a ∧ Err H1 a C fs ∧ XfC K C ∧ PySem.W.findIn K (.ref C) n = some none ∧ fs.lookup n = some v ∧ Q v H1
theorem pe_xv {e : Expr} {te : TE} {pos : Pos} {n : Str} (he : PE X e te) (hb : attributeBase e n X.env (eval e X.env) = eval e X.env := by rfl) : PE X (.Attribute e n pos) (tXv X.K n te) := by
  constructor
  intro pins s σ H Q I h
  refine attr_of hb (thn (he.run pins s σ H _ I h) fun u s1 w => ?_)
  obtain ⟨x, H1, I1, rx, a, C, fs, v, rfl, hE, T, hno, l, q⟩ := w
  obtain rfl : u = Value.ref a := rx
  obtain ⟨ox, od, J, mA, hl, hr⟩ := err_at I1 hE
  obtain ⟨u, hu, ru⟩ := RelO.some_of (v := v) (o := mA n) (l ▸ hr n)
  exact HandSPX.exc_get I1.kIn J T.ga T.gg T.exC (PySem.W.findObj_own T.hdC hno rfl (by rw [hl, hu])) (handed_of ru) ⟨v, H1, I1.tok _, ru, q⟩
/-- x.__class__ of an error with a dict of its own, as isinstance asks it -/
theorem x_class {prog : Program} {w : World} {A : Around} {E : Value → Shared → Prop} {s : Shared} {K : PySem.W.Frag} {x D : Addr} {ox od : Obj} {Q : Option Value → Shared → Prop} (T : ExcC K D) (KX : K.In s.heap) (J : PySem.W.InstAt s.heap x ox D (some od))
    (h : Q (some (.ref D)) { s with toks := s.toks + 1 }) : wpAny (model prog w) A (getAttr? (.ref x) "__class__") Q E s := by
  have found : PySem.W.findObj K D (some od) "__class__" = some (.bind (.builtin "getset_descriptor.__get__") (.builtin "object.__class__")) := by
    obtain ⟨cd, e, _⟩ := PySem.W.any_some T.hd
    exact PySem.W.findObj_data (by rw [e] <;> rfl) T.ha T.hn T.ht
  have no2 : (Value.builtin "BaseException.__getattribute__" == Value.builtin "object.__getattribute__") = false := by decide +kernel
  have no1 : (onTheHeap (.ref D) && Value.builtin "BaseException.__getattribute__" == Value.builtin "object.__getattribute__") = false := by rw [no2] <;> rfl
  obtain ⟨hp, g, d, t, os⟩ := s
  have isB : PySem.W.Looks (model prog w) hp (isInstance (.ref x) (.type "BaseException")) true := (J.type (M := model prog w)).andThen (PySem.W.looks_subIn KX T.hs)
  have tail : ∀ R : Fin → Shared → Prop, ∀ E' : Value → Shared → Prop, R (.done (.ret (.ref D))) ⟨hp, g, d, t + 1, os⟩ → wpAny (model prog w) (Around.in1 A) (Builtin.«object.__getattribute__» ⟨[.ref x, .str "__class__" t], []⟩) R E' ⟨hp, g, d, t + 1, os⟩ := fun R E' hR => by
    unfold Builtin.«object.__getattribute__»
    refine wpAny_bind (wpAny_of_eq (a := (Value.ref x, [Value.str "__class__" t])) (by first | rfl | (simp only [slotArgs]; rfl)) (wpAny_bind (wpAny_pure (wpAny_bind (J.type.at (wpAny_bind ((PySem.W.looks_find KX J found).at ?_)))))))
    refine wpAny_bind (wpAny_holding (wpAny_call (PySem.W.class_get (s := ⟨hp, g, d, t + 1, os⟩) KX J T.hm ?_)))
    exact wpAny_pure hR
  unfold getAttr? getAttrBy? getAttrBy
  refine wpAny_bind (wpAny_mkText (wpAny_bind (wpAny_attempt (wpAny_holding (wpAny_bind (J.type.at (wpAny_bind ((PySem.W.looks_findIn KX T.hg).at ?_))))))))
  dsimp only
  rw [no1, if_neg Bool.false_ne_true]
  unfold getAttrByItsOwn hookBefore callGetattribute boundAndCalled
  refine wpAny_bind ?_
  have oh : onTheHeap (Value.ref D) = true := rfl
  rw [if_pos oh]
  refine (PySem.W.looks_findIn KX T.hk).at (wpAny_bind (wpAny_attempt (wpAny_holding ?_)))
  have nh : (false && onTheHeap (Value.builtin "BaseException.__getattribute__")) = false := rfl
  rw [nh, if_neg Bool.false_ne_true, PySem.F.excAttr_ValueError.ga.bind (.ref x)]
  refine wpAny_bind (wpAny_pure ?_)
  dsimp only
  refine wpAny_call (codeAny_call_builtin PySem.F.excAttr_ValueError.ga.plain PySem.F.entry_bexc_ga ?_)
  refine @PySem.W.check_slot (model prog w) _ _ ⟨hp, g, d, t + 1, os⟩ "BaseException.__getattribute__" "BaseException" "__getattribute__" (.ref x) [.str "__class__" t] [] _ (by decide +kernel) (by decide +kernel) isB (PySem.F.args_bexc_ga (.ref x) (.str "__class__" t)) ?_
  refine tail _ _ ?_
  refine (show wpAny (model prog w) A (handedOut (Value.ref D)) (fun a s' => wpAny (model prog w) A (pure (some a)) Q E s') _ ⟨hp, g, d, t + 1, os⟩ from ?_)
  rw [PySem.W.handedOut_of (v := Value.ref D) rfl]
  exact wpAny_pure (wpAny_pure h)
theorem kit_err {K : PySem.W.Frag} {x D : Addr} {b : Bool} (T : ExcC K D) (self : PySem.W.kitCls K (.ref D) (.ref D) = some b) : PySem.W.KitX K (.ref x) (.ref D) (fun h => ∃ ox od, PySem.W.InstAt h x ox D (some od)) where
  ty := fun _ _ _ ⟨_, _, J⟩ => J.type
  it := fun _ _ KX _ => (PySem.W.kit_cls KX self).2.1
  ne := fun h tp dd its n sl KX e => by
    obtain ⟨cd, hc, _⟩ := PySem.W.any_some T.hd
    cases q : (Value.ref D == Value.ref tp) with
    | false => rfl
    | true =>
      obtain rfl : D = tp := Value.ref.inj (beq_iff_eq.mp q)
      unfold PySem.W.clsIn at hc
      cases k : K.lookup D with
      | none => rw [k] at hc; cases hc
      | some o =>
        have z := (KX _ _ k).symm.trans e
        cases z
        rw [k] at hc
        cases hc
  ca := fun KX ⟨_, _, J⟩ q => x_class T KX J q
/-- isinstance(x, c) of an error -/
def rIsX (K : PySem.W.Frag) : List V → Hp → VK → Prop := fun xs H Q => ∃ (a C : Addr) (fs : List (Str × V)) (c : V) (cv : Value) (b b' : Bool), xs = [.ref a, c] ∧ Err H a C fs ∧ ExcC K C ∧ PySem.W.kitCls K (.ref C) (.ref C) = some b' ∧ ClsV c cv ∧ PySem.W.kitOne K (.ref C) cv = some b ∧ Q (.bl b) H
theorem call_isX {X : Cx} : CallR X (.builtin "isinstance") (rIsX X.K) := by
  intro pins s σ H xs us Q I r h
  obtain ⟨a, C, fs, c, cv, b, b', rfl, hE, T, self, hc, e, q⟩ := h
  obtain ⟨u1, u2, rfl, r1, r2⟩ : ∃ u1 u2, us = [u1, u2] ∧ RelV (.ref a) u1 ∧ RelV c u2 := by
    cases r with
    | cons x1 y1 =>
      cases y1 with
      | cons x2 y2 => cases y2; exact ⟨_, _, rfl, x1, x2⟩
  obtain rfl : u1 = Value.ref a := r1
  obtain rfl : u2 = cv := hc.eq r2
  obtain ⟨ox, od, J, _⟩ := err_at I hE
  exact PySem.W.kia_one (kit_err T self) I.kIn ⟨ox, od, J⟩ e (fun z => nomatch z) fun tk => ⟨.bl b, H, I.tok tk, rfl, q⟩
end
end TT

set_option Elab.async false
set_option linter.all false
set_option maxRecDepth 100000
set_option maxHeartbeats 4000000
/-! == of a thing with itself, repr of what holds small dicts. -/
namespace TT
open PySem PySem.Spec PyProof.Rows L2
section
variable {X : Cx}
/-- the same thing, or the same plain value -/
def D0 : Eqv := fun x y _ => y = x ∧ (flatB x = true ∨ ∃ a, x = .ref a)
theorem D0.mon : Mon D0 := fun _ _ _ _ _ h => h
theorem D0.eqV {K : PySem.W.Frag} {H : Hp} {x : V} (h : flatB x = true ∨ ∃ a, x = .ref a) : EqV K H 1 x x := by
  unfold EqV
  exact h.elim (fun f => .inl ⟨rfl, f⟩) fun ⟨a, e⟩ => .inr (.inl ⟨a, e, e⟩)
theorem D0.eqG : EqG X 1 D0 := by
  intro A pins s σ H x y u v S I rx ry h
  obtain ⟨rfl, h⟩ := h
  have un : A.units + 1 < cLine := by have := S.room.un; omega
  refine eqV_run I 1 A un y y u v (D0.eqV h) rx ry _ _ ⟨rfl, H, I, Ext.rfl'⟩
/-- x is equal to itself, whatever it holds -/
def SelfEq (K : PySem.W.Frag) (H : Hp) (x : V) : Prop := scal x x = true ∨ (∃ n, n ≤ 60 ∧ EqR K H (EqV K H n) x x) ∨ DTup K D0 x x H
def rSame (K : PySem.W.Frag) : R2 := fun x y H Q => y = x ∧ SelfEq K H x ∧ ∀ H', Ext H H' → Q (.bl true) H'
theorem op_same (hu : X.A.units + 64 < cLine) (hr : Room 2 X.A) : OpR X (compareOp .Eq) (rSame X.K) := by
  intro pins s σ H x y v u Q I rx ry h
  obtain ⟨rfl, h, q⟩ := h
  rcases h with h | ⟨n, hn, h⟩ | h
  · exact op_eq pins s σ H y y v u Q I rx ry ⟨h, by rw [decide_eq_true rfl]; exact q H Ext.rfl'⟩
  · exact op_eqV hu pins s σ H y y v u Q I rx ry ⟨n, hn, h, q H Ext.rfl'⟩
  · exact op_eqG (rcG_tup D0.mon D0.eqG) hr pins s σ H y y v u Q I rx ry ⟨h, q⟩
/-! ### repr -/
inductive DpD (K : PySem.W.Frag) (H : Hp) : V → PyData → Prop
  | dp {v : V} {d : PyData} (h : Dp K H v d) (n : d.hasDict = false) : DpD K H v d
  | tt {a b : Addr} (h : H a = some (.tup [.ref b])) (h2 : H b = some (.tup [])) : DpD K H (.ref a) (.tuple [.tuple []])
  | d0 {a : Addr} (h : H a = some (.dK [])) : DpD K H (.ref a) (.dict [])
  | d1 {a : Addr} {k : Str} {i : Int} (h : H a = some (.dK [(.inr k, .int i)])) : DpD K H (.ref a) (.dict [(.str k, .int i)])
theorem dp_tt {K : PySem.W.Frag} {H : Hp} {a b : Addr} (h : H a = some (.tup [.ref b])) (h2 : H b = some (.tup [])) : Dp K H (.ref a) (.tuple [.tuple []]) :=
  .tup (SqT.of h) (.cons (.tup (SqT.of h2) .nil) .nil)
/-- no tracked thing is sys.modules -/
theorem not_sys {pins : List (Addr × Obj)} {σ : L2.St} {H : Hp} {s : Shared} (I : Inv X pins σ H s) {o : Obj} (hs : X.K.lookup sysModules = some o) {l : Addr} {x : HO} (h : H l = some x) : l ≠ sysModules := by
  rintro rfl
  have hb : X.base.get? sysModules = some o := I.ok.mod.kin _ _ hs
  obtain ⟨h0, h1⟩ := I.ok.bs _ _ hb
  have := I.base.free _ _ h0 h1 (I.ok.noex _ _ hb)
  rw [this] at h
  cases h
theorem DpD.reads {pins : List (Addr × Obj)} {σ : L2.St} {H : Hp} {s : Shared} (I : Inv X pins σ H s) {v : V} {d : PyData} {u : Value} (h : DpD X.K H v d) (r : RelV v u) : ∃ as, Reads s.heap u d as ∧ (d.hasDict = true → ¬ sysModules ∈ as) := by
  cases h with
  | dp h n => exact (Dp.reads I d v u h r).imp fun as z => ⟨z, PyData.noDict_hsm n⟩
  | tt h h2 => exact (Dp.reads I _ _ u (dp_tt h h2) r).imp fun as z => ⟨z, PyData.noDict_hsm rfl⟩
  | @d0 a h =>
    obtain rfl : u = Value.ref a := r
    have z := I.hok _ _ h
    unfold ObjOk at z
    obtain ⟨_, ns, vs, kv, o, es, ep, g, ex, da, _, pr, _⟩ := z
    cases kv
    generalize e : es.toList = L at pr
    cases pr
    refine ⟨_, Reads.dict g ex.1 da (as := []) (bs := []) (by rw [e]; exact .nil) (by rw [e]; exact .nil), fun _ m => ?_⟩
    have : sysModules = a := by simpa using m
    rw [← this] at ns
    cases ns
  | @d1 a k i h =>
    obtain rfl : u = Value.ref a := r
    have z := I.hok _ _ h
    unfold ObjOk at z
    obtain ⟨_, ns, vs, kv, o, es, ep, g, ex, da, _, pr, nd⟩ := z
    clear nd
    cases kv with
    | @cons _ q _ _ p1 p2 =>
      cases p2
      obtain ⟨e0, t, e1⟩ : Sum.inr k = q.1 ∧ ∃ t, q.2 = Value.int i t := p1
      generalize hl : es.toList = L at pr
      cases pr with
      | cons c1 c2 c3 =>
        cases c3
        rename_i e
        have c4 : Value.isStrOf k e.key = true := by
          have c5 : keyIs q.1 e.key = true := c1
          rw [← e0] at c5
          exact c5
        obtain ⟨tk, ek⟩ : ∃ tk, e.key = .str k tk := by
          cases hk : e.key <;> rw [hk] at c4 <;> simp [Value.isStrOf] at c4
          exact ⟨_, by rw [c4]⟩
        have ev : e.val = .int i t := c2.trans e1
        refine ⟨_, Reads.dict g ex.1 da (kvs := [(.str k, .int i)]) (as := [] ++ []) (bs := [] ++ []) (by rw [hl]; exact .cons (by show Reads _ e.key (.str k) []; rw [ek]; exact .str _ _) .nil) (by rw [hl]; exact .cons (by show Reads _ e.val (.int i) []; rw [ev]; exact .int _ _) .nil), fun _ m => ?_⟩
        have : sysModules = a := by simpa using m
        rw [← this] at ns
        cases ns
theorem readsAll_rep {h : Heap} {d : PyData} {v : V} (one : ∀ u, RelV v u → ∃ as, Reads h u d as ∧ (d.hasDict = true → ¬ sysModules ∈ as)) :
    ∀ (n : Nat) (its : List Value), Vals (List.replicate n v) its → ∃ as, ReadsAll h its (List.replicate n d) as ∧ (d.hasDict = true → ¬ sysModules ∈ as)
  | 0, its, r => by
    cases r
    exact ⟨[], .nil, fun _ m => by cases m⟩
  | n + 1, its, r => by
    rw [List.replicate_succ] at r
    cases r with
    | cons r1 r2 =>
      obtain ⟨as, h1, h2⟩ := one _ r1
      obtain ⟨bs, h3, h4⟩ := readsAll_rep one n _ r2
      exact ⟨as ++ bs, .cons h1 h3, fun e m => (List.mem_append.mp m).elim (h2 e) (h4 e)⟩
theorem hasDictAll_rep {d : PyData} : ∀ n, PyData.hasDictAll (List.replicate n d) = true → d.hasDict = true
  | 0, h => by simp [PyData.hasDictAll] at h
  | n + 1, h => by
    rw [List.replicate_succ] at h
    simp only [PyData.hasDictAll, Bool.or_eq_true] at h
    exact h.elim id (hasDictAll_rep n)
/-- what repr is asked of here: such a thing, or a list of it many times -/
inductive RpD (K : PySem.W.Frag) (H : Hp) : V → PyData → Prop
  | one {v : V} {d : PyData} (h : DpD K H v d) : RpD K H v d
  | rep {l : Addr} {n : Nat} {v : V} {d : PyData} (hl : H l = some (.lst (List.replicate n v))) (h : DpD K H v d) : RpD K H (.ref l) (.list (List.replicate n d))
theorem RpD.reads {pins : List (Addr × Obj)} {σ : L2.St} {H : Hp} {s : Shared} (I : Inv X pins σ H s) {o : Obj} (hs : X.K.lookup sysModules = some o) {v : V} {d : PyData} {u : Value} (h : RpD X.K H v d) (r : RelV v u) : ∃ as, Reads s.heap u d as ∧ (d.hasDict = true → ¬ sysModules ∈ as) := by
  cases h with
  | one h => exact DpD.reads I h r
  | @rep l n v d hl h =>
    obtain rfl : u = Value.ref l := r
    have z := I.hok _ _ hl
    unfold ObjOk at z
    obtain ⟨_, its, k, vs, g⟩ := z
    obtain ⟨as, h1, h2⟩ := readsAll_rep (fun u r => DpD.reads I h r) n its vs
    refine ⟨l :: as, Reads.list g rfl rfl (by rw [List.toList_toArray]; exact h1), fun e m => ?_⟩
    have e2 : d.hasDict = true := by
      simp only [PyData.hasDict] at e
      exact hasDictAll_rep n e
    rcases List.mem_cons.mp m with m | m
    · exact not_sys I hs hl m.symm
    · exact h2 e2 m
def rReprD (K : PySem.W.Frag) : List V → Hp → VK → Prop := fun xs H Q => ∃ (x : V) (d : PyData), xs = [x] ∧ RpD K H x d ∧ d.showable = true ∧ d.depth ≤ 60 ∧ d.shown.length ≤ sizeLine ∧ Q (.str d.shown) H
theorem call_reprD {o : Obj} (hs : X.K.lookup sysModules = some o) (hg : X.A.guards = some []) (hu : X.A.units + 64 < cLine) : CallR X (.builtin "repr") (rReprD X.K) := by
  intro pins s σ H xs us Q I r h
  obtain ⟨x, d, rfl, hd, sh, hdep, hz, q⟩ := h
  obtain ⟨u, rfl, rx⟩ : ∃ u, us = [u] ∧ RelV x u := by
    cases r with
    | cons a b => cases b; exact ⟨_, rfl, a⟩
  by_cases c : ∃ a, x = .ref a
  · obtain ⟨a, rfl⟩ := c
    obtain rfl : u = Value.ref a := rx
    obtain ⟨as, rd, ns⟩ := RpD.reads (u := Value.ref a) I hs hd rfl
    exact repr_of_reads' rd sh ns hg (by omega) (fun _ _ e => e) (fun h' u tk hk => ⟨.str d.shown, H, I.kept hk, ⟨_, rfl⟩, q⟩) hz
  · cases hd with
    | rep => exact absurd ⟨_, rfl⟩ c
    | one h =>
      cases h with
      | dp h n => exact call_repr hg hu pins s σ H _ _ Q I (.cons rx .nil) ⟨x, d, rfl, h, sh, n, hdep, hz, q⟩
      | tt => exact absurd ⟨_, rfl⟩ c
      | d0 => exact absurd ⟨_, rfl⟩ c
      | d1 => exact absurd ⟨_, rfl⟩ c
end
end TT

set_option Elab.async false
set_option linter.all false
set_option maxRecDepth 100000
set_option maxHeartbeats 4000000
/-! repr of a list whose own address may be any (only what it holds must not be sys.modules) -/
namespace TT
open PySem PySem.Spec PyProof.Rows L2
theorem repr_lst {prog : Program} {w : World} {h₀ : Heap} {a : Addr} {o : Obj} {vs : Array Value} {n : Nat} {xs : List PyData} {as : List Addr} {A : Around} {E : Value → Shared → Prop} {s : Shared} {Q : Value → Shared → Prop}
    (at_a : h₀.get? a = some o) (is_l : o.cls = .type "list") (dat : o.data = .seq vs n) (its : ReadsAll h₀ vs.toList xs as)
    (sh : PyData.showableAll xs = true) (out : PyData.hasDictAll xs = true → ¬ sysModules ∈ as) (gd : A.guards = some []) (un : A.units + ((PyData.list xs).depth + 1) < cLine)
    (low : ∀ b u, h₀.get? b = some u → s.heap.get? b = some u)
    (k : ∀ h' u tk, (∀ b o, s.heap.get? b = some o → h'.get? b = some o) → Q (.str (PyData.list xs).shown u) { s with heap := h', toks := tk })
    (len : (PyData.list xs).shown.length ≤ sizeLine) : wpAny (model prog w) A (call (.builtin "repr") [.ref a]) Q E s := by
  have short : (listText (PyData.shownAll xs)).length ≤ sizeLine := by
    have := len
    rwa [PyData.shown] at this
  obtain ⟨bs, below, each⟩ := ReprAllK.of_readsAll (prog := prog) (w := w) its sh out fun t ht => Nat.le_trans (listText_mem_le ht) short
  have apart : a ∉ bs := by
    refine not_mem_of_deeper (Reads.list at_a is_l dat its) ?_ below
    rw [PyData.depth]
    omega
  have dep : A.in1.units + (PyData.list xs).depth < cLine := by
    show A.units + 1 + _ < cLine
    omega
  refine call_repr_slot (by omega) (show s.TypeIs (.ref a) "list" from ⟨o, low _ _ at_a, is_l⟩) F.slot_list_repr.toG ?_
  rw [PyData.depth] at dep
  have k' := k
  simp only [PyData.shown] at k'
  obtain ⟨l⟩ := vs
  cases l with
  | nil =>
    have none' : ReadsAll h₀ [] xs as := its
    cases none'
    simp only [PyData.shownAll, listText_nil] at k'
    exact call_list_repr_empty ⟨o, low _ _ at_a, is_l⟩ (low _ _ at_a) dat ⟨_, _, rfl, k' s.heap _ _ fun _ _ e => e⟩
  | cons x l =>
    have el := each.length_eq
    exact call_list_reprK at_a is_l dat apart (by simpa using el) (fun i y e => each.item i y (by simpa using e)) gd (fun b _ => Clear.nil b) dep low (fun h' u tk hk => ⟨_, _, rfl, k' h' u tk hk⟩) short
section
variable {X : Cx}
theorem call_reprS (hg : X.A.guards = some []) (hu : X.A.units + 64 < cLine) : CallR X (.builtin "repr") (rReprD X.K) := by
  intro pins s σ H xs us Q I r h
  obtain ⟨x, d, rfl, hd, sh, hdep, hz, q⟩ := h
  obtain ⟨u, rfl, rx⟩ : ∃ u, us = [u] ∧ RelV x u := by
    cases r with
    | cons a b => cases b; exact ⟨_, rfl, a⟩
  have fin : ∀ h' u tk, (∀ b o, s.heap.get? b = some o → h'.get? b = some o) → EP X pins σ Q (.str d.shown u) { s with heap := h', toks := tk } := fun h' u tk hk => ⟨.str d.shown, H, I.kept hk, ⟨_, rfl⟩, q⟩
  cases hd with
  | @rep l n v d hl h =>
    obtain rfl : u = Value.ref l := rx
    have z := I.hok _ _ hl
    unfold ObjOk at z
    obtain ⟨_, its, k, vs, g⟩ := z
    obtain ⟨as, h1, h2⟩ := readsAll_rep (fun u r => DpD.reads I h r) n its vs
    have sh' : PyData.showableAll (List.replicate n d) = true := by
      rwa [PyData.showable] at sh
    exact repr_lst g rfl rfl (by rw [List.toList_toArray]; exact h1) sh' (fun e => h2 (hasDictAll_rep n e)) hg (by omega) (fun _ _ e => e) fin hz
  | one h =>
    by_cases c : ∃ a, x = .ref a
    · obtain ⟨a, rfl⟩ := c
      obtain rfl : u = Value.ref a := rx
      obtain ⟨as, rd, ns⟩ := DpD.reads (u := Value.ref a) I h rfl
      exact repr_of_reads' rd sh ns hg (by omega) (fun _ _ e => e) fin hz
    · cases h with
      | dp h n => exact call_repr hg hu pins s σ H _ _ Q I (.cons rx .nil) ⟨x, d, rfl, h, sh, n, hdep, hz, q⟩
      | tt => exact absurd ⟨_, rfl⟩ c
      | d0 => exact absurd ⟨_, rfl⟩ c
      | d1 => exact absurd ⟨_, rfl⟩ c
end
end TT

set_option Elab.async false
set_option linter.all false
set_option maxRecDepth 100000
set_option maxHeartbeats 4000000
/-! A lambda handed to a def; an error that was caught, kept behind its suite. -/
namespace TT
open PySem PySem.Spec PyProof.Rows L2
/-- at e: an error that was caught, of the class cls, its dict d -/
def exk (e : Addr) (cls : Value) (d : Option Addr) : HO := .ext fun h => ∃ (o : Obj) (vs : Array Value), h.get? e = some o ∧ Zc cls d o ∧ o.data = .fields vs
theorem exk_ok {P : Program} {w : World} {H : Hp} {h : Heap} {e : Addr} {cls : Value} {d : Option Addr} {o : Obj} {vs : Array Value} (he : h.get? e = some o) (hz : Zc cls d o) (hd : o.data = .fields vs) : ObjOk P w H h e (exk e cls d) :=
  ⟨⟨o, vs, he, hz, hd⟩, ⟨_, he⟩, fun h1 h2 ⟨o1, vs1, a, b, c⟩ k => ⟨o1, vs1, k _ a, b, c⟩⟩
theorem exk_at {P : Program} {w : World} {H : Hp} {h : Heap} {e : Addr} {cls : Value} {d : Option Addr} (hok : HOk P w H h) (he : H e = some (exk e cls d)) : ∃ (o : Obj) (vs : Array Value), h.get? e = some o ∧ Zc cls d o ∧ o.data = .fields vs := by
  have x : ObjOk P w H h e (.ext fun h => ∃ (o : Obj) (vs : Array Value), h.get? e = some o ∧ Zc cls d o ∧ o.data = .fields vs) := hok e _ he
  exact x.1
section
variable {X : Cx} {pins : List (Addr × Obj)} {σ : L2.St} {H : Hp} {s : Shared} {a : Addr} {cls : Value} {d : Option Addr} {oe : Obj} {vs : Array Value}
/-- a caught error is tracked -/
theorem Inv.track (I : Inv X pins σ H s) (ha : s.heap.get? a = some oe) (hz : Zc cls d oe) (hd : oe.data = .fields vs) (na : H a = none) (nL : a ≠ X.env.locals) (n0 : X.s_0.heap.get? a = none) (np : ∀ p ∈ X.pn ++ pins, p.1 ≠ a) :
    Inv X pins σ (L2.upd H a (exk a cls d)) s := by
  have sm : ∀ {b : Addr} {u : HO}, H b = some u → b ≠ a := fun {b u} e => ne_of_none e na
  refine ⟨I.ok, I.os, I.bare, ⟨I.base.keep, I.base.slot, fun b o e n hx => ?_, I.base.there, fun b xs e => ?_, fun b o u e => ?_, fun b ps e => ?_⟩, I.loc, I.cell, ?_, fun x c e => ?_, fun p hp => ?_, fun b u e => ?_, I.len⟩
  · have nb : b ≠ a := fun z => by rw [z, n0] at e; cases e
    rw [upd_ne nb]
    exact I.base.free b o e n hx
  · have q := I.base.tups b xs e
    rw [upd_ne (sm q)]
    exact q
  · have q := I.base.frzs b o u e
    rw [upd_ne (sm q)]
    exact q
  · obtain ⟨more, q⟩ := I.base.tbls b ps e
    exact ⟨more, by rw [upd_ne (sm q)]; exact q⟩
  · rw [upd_ne nL.symm]
    exact I.free
  · have nc : c ≠ a := fun z => by
      obtain ⟨v, o, ho, hc⟩ := I.cell x c e
      rw [z, ha] at ho
      cases ho
      rw [hd] at hc
      cases hc
    rw [upd_ne nc]
    exact I.freeC x c e
  · obtain ⟨e, n, r⟩ := I.pin p hp
    exact ⟨e, by rw [upd_ne (np p hp)]; exact n, r⟩
  · by_cases hb : b = a
    · subst hb
      rw [upd_same] at e
      cases e
      exact exk_ok ha hz hd
    · rw [upd_ne hb] at e
      exact (I.hok b u e).stay (fun _ _ _ q => q) (fun c q => by rw [upd_ne (sm q)]; exact q) fun c xs q => by rw [upd_ne (sm q)]; exact q
end
/-- what 'except x as n' wishes of the body's errors, each caught and kept behind the suite -/
def wKept (K : PySem.W.Frag) (c : Value) (i : Nat) (ts : Addr → Value → Option Addr → TS) (nx : L2.St → Hp → Prop) : WX := fun cls d σ H =>
  PySem.W.exmOne K cls c = some true ∧ ∀ a, H a = none → ts a cls d ⟨fun σ' H' => H' a = none → nx (σ'.set i none) (L2.upd H' a (exk a cls d)), fun _ _ => False, fun _ _ => False, fun _ _ => False⟩ (σ.set i (some (.ref a))) H
section
variable {X : Cx} {x n : Str} {c : Value} {i : Nat} {body suite : List Stmt} {b₀ : Stmt} {np pos pos' : Pos} {tb : WX → TS} {ts : Addr → Value → Option Addr → TS}
/-- try: body / except x as n: suite, where each error that the body lets out is an x -/
theorem ps_try_kept (hs : X.stack = X.env :: X.outer) (hf : X.env.frame = some X.env.locals) (hex : X.ex = []) (hN : X.N.Nodup) (hi : X.N[i]? = some n) (hln : X.env.kindOf n = some .local) (hc : Names X x c)
    (hb : ∀ (W : WX) (pn : List (Addr × Obj)) (xe : Value → Shared → Prop), Takes (X.tr pn xe) W → PassesOwn (model X.prog X.w) X.A X.env xe → PSs (X.tr pn xe) body (tb W))
    (hsu : ∀ (a : Addr) (oe : Obj) (cls : Value) (d : Option Addr) (pn : List (Addr × Obj)), Zc cls d oe → (∃ vs, oe.data = .fields vs) → PSs (X.suite a ((a, oe) :: pn)) (b₀ :: suite) (ts a cls d)) :
    PS X (.Try body [.ExceptHandler (some (.Name x np)) (some n) (b₀ :: suite) pos'] [] [] pos) (fun D σ H => tb (wKept X.K c i ts D.nx) ⟨D.nx, fun _ _ => False, fun _ _ => False, fun _ _ => False⟩ σ H) := by
  constructor
  intro pins s σ H D I h
  have ok := I.ok
  -- what is done with an error of the body
  let R : Value → Shared → Prop := fun e s₁ => wpAny (model X.prog X.w) X.A (noteFrame e X.env) (fun _ s₂ => wpAny (model X.prog X.w) X.A (setFlight e none) (fun _ s₃ =>
    wpAny (model X.prog X.w) X.A (handleBy e X.env [.ExceptHandler (some (.Name x np)) (some n) (b₀ :: suite) pos']) (SP X pins D) X.xe s₃) X.xe s₂) X.xe s₁
  have caught : Takes (X.tr (X.pn ++ pins) R) (wKept X.K c i ts D.nx) := by
    rintro u s' ⟨a, B, t0, pins', σ1, H1, cls, d, rfl, J0, ground, up, sky, na, os, ag, ex, told⟩
    have J : Inv X pins σ1 H1 t0 := J0.ofTry ok
    have frames : X.A.frames = some (X.env :: X.outer) := ok.frames.trans (congrArg some hs)
    have sky2 : Sky B (X.env :: X.outer) a (Zc cls d) X.env.locals s'.heap := hs ▸ sky
    have none_of : ∀ {h1 : Heap}, HandSPX.FlyingZ B (X.env :: X.outer) a (Zc cls d) h1 → a ∉ frs (X.env :: X.outer) := fun fl hm => by
      obtain ⟨o, vs, e1, _, e2⟩ := fl.there
      obtain ⟨_, o2, e3, e4⟩ := fl.2.2.1.mem hm
      cases e1.symm.trans e3
      exact e4 _ e2
    refine Sky.land Zc.steady frames hf sky2 fun g1 fl1 up1 => ?_
    have off := none_of fl1
    have nL : a ≠ X.env.locals := fun z => off (List.mem_filterMap.mpr ⟨_, List.mem_cons_self, hf.trans (congrArg some z.symm)⟩)
    have nF : a ∉ X.fs := fun hm => off (List.mem_filterMap.mpr ((List.mem_filterMap.mp hm).imp fun _ z => ⟨List.mem_cons_of_mem _ z.1, z.2⟩))
    have gone : t0.heap.get? a = none := by
      cases q : t0.heap.get? a with
      | none => rfl
      | some o => cases fl1.2.1.symm.trans (ground a o q (hs ▸ off))
    have older : X.s_0.heap.get? a = none := by
      cases q : X.s_0.heap.get? a with
      | none => rfl
      | some o =>
        obtain ⟨o2, z⟩ := J.base.there a o q (hex ▸ List.not_mem_nil)
        cases gone.symm.trans z
    have npin : ∀ p ∈ X.pn ++ pins, p.1 ≠ a := fun p hp z => by cases gone.symm.trans (z ▸ (J.pin p hp).1)
    obtain ⟨o1, vs1, e1, z1, f1⟩ := fl1.there
    have J1 : Inv X pins σ1 H1 { s' with heap := g1 } := J.landed ground fl1.1 (up.trans up1) os ag
    refine wpAny_handleBy_cons (codeAny_handlers_test ?_) (fun q => nomatch q)
    have matches_ := PySem.W.exm_one (M := model X.prog X.w) J1.kIn (fun A Q E s k q => wpAny_typeOf_ref (k _ _ e1) (z1.1 ▸ q)) ex
    have S1 := J1.suite e1 f1 na nL nF
    have named : ∀ {Q : Value → Shared → Prop} {E : Value → Shared → Prop}, Q c { s' with heap := g1 } → wpAny (model X.prog X.w) (X.A.mark (some (.ref a))) (eval (.Name x np) X.env) Q E { s' with heap := g1 } := fun {Q E} q => by
      obtain ⟨h1, h2, h3 | ⟨h3, h4, h5⟩⟩ := hc
      · exact ld_glob (X := X.suite a ((a, o1) :: (X.pn ++ pins))) S1 h1 h3 q h2
      · exact ld_blt (X := X.suite a ((a, o1) :: (X.pn ++ pins))) S1 h1 h3 h4 q h5 h2
    refine named (matches_.here (codeAny_handlers_suite_as (HandSPX.lands_againZ fl1 fun g2 fl2 up2 => ?_)))
    obtain ⟨o2, vs2, e2, z2, f2⟩ := fl2.there
    have J2 : Inv X pins σ1 H1 { s' with heap := g2 } := J.landed ground fl2.1 ((up.trans up1).trans up2) os ag
    refine store_ok (X := X.suite a ((a, o2) :: (X.pn ++ pins))) (v := .ref a) (J2.suite e2 f2 na nL nF) hN hi (.inl hln) rfl (fun s5 S5 => ?_) (.inr hln)
    refine wpAny_mono ((hsu a o2 cls d (X.pn ++ pins) z2 ⟨_, f2⟩).run [] s5 _ H1 _ S5 (told a na)) (fun f s6 hsp => ?_) (fun _ _ z => z.elim)
    match f, hsp with
    | .next, ⟨σ6, H6, S6, q6⟩ =>
      obtain ⟨e6, n6, _⟩ := S6.pin (a, o2) (List.mem_append_left _ List.mem_cons_self)
      exact gone_ok (Inv.track (S6.unsuite ok) e6 z2 f2 n6 nL older npin) hN hi hln fun s7 J7 => ⟨_, _, J7, q6 n6⟩
    | .brk, ⟨_, _, _, z⟩ => exact z.elim
    | .cont, ⟨_, _, _, z⟩ => exact z.elim
    | .ret u, ⟨_, _, _, _, _, z⟩ => exact z.elim
  refine wpAny_Try_except (wpAny_mono ((hb _ (X.pn ++ pins) R caught PassesOwn.looking).run [] s σ H _ (I.toTry _) h) (fun f s1 hsp => ?_) fun _ _ z => z)
  match f, hsp with
  | .next, ⟨σ2, H2, J2, q2⟩ => exact wpAny_execs_nil ⟨σ2, H2, J2.ofTry ok, q2⟩
  | .brk, ⟨_, _, _, z⟩ => exact z.elim
  | .cont, ⟨_, _, _, z⟩ => exact z.elim
  | .ret u, ⟨_, _, _, _, _, z⟩ => exact z.elim
end
/-! ### a callable without parameters, as a value -/
theorem Un.then {fs fs' : List Addr} {H H1 H2 : Hp} {h h1 h2 : Heap} (a : Un fs [] H H1 h h1) (b : Un fs' [] H1 H2 h1 h2) (h1' : ∀ c ∈ fs', c ∈ fs ∨ h.get? c = none) (h2' : ∀ c ∈ fs, c ∈ fs') : Un fs [] H H2 h h2 where
  keep := fun c ob q n hc hx => b.keep c ob (a.keep c ob q n hc hx) (a.free c ob q n hx) (fun z => (h1' c z).elim hc fun z => by rw [q] at z; cases z) hx
  slot := fun c ob q n hc hx => by
    obtain ⟨sl, e1⟩ := a.slot c ob q n hc hx
    obtain ⟨sl', e2⟩ := b.slot c _ e1 (a.free c ob q n hx) (h2' c hc) hx
    exact ⟨sl', e2⟩
  free := fun c ob q n hx => by
    obtain ⟨o', e1⟩ := a.there c ob q hx
    exact b.free c o' e1 (a.free c ob q n hx) hx
  there := fun c ob q hx => by
    obtain ⟨o', e1⟩ := a.there c ob q hx
    exact b.there c o' e1 hx
  tups := fun c xs q => b.tups c xs (a.tups c xs q)
  frzs := fun c ob xs q => b.frzs c ob xs (a.frzs c ob xs q)
  tbls := fun c ps q => by
    obtain ⟨m1, e1⟩ := a.tbls c ps q
    obtain ⟨m2, e2⟩ := b.tbls c _ e1
    exact ⟨m1 ++ m2, by rw [e2, Array.append_assoc]⟩
end TT

set_option Elab.async false
set_option linter.all false
set_option maxRecDepth 100000
set_option maxHeartbeats 4000000
/-! A callable without parameters as a value: what it does while it is handed on, lambdas that are such, defs that take one. -/
namespace TT
open PySem PySem.Spec PyProof.Rows L2 LamX
theorem un_then {fs fs' : List Addr} {H H1 H2 : Hp} {h h1 h2 : Heap} (a : Un fs [] H H1 h h1) (b : Un fs' [] H1 H2 h1 h2) (new : ∀ c ∈ fs', c ∈ fs ∨ h.get? c = none) (sub : ∀ c ∈ fs, c ∈ fs') : Un fs [] H H2 h h2 := by
  have up : Un fs' [] H H1 h h1 := a.mono sub fun _ z => z
  have all := up.trans b
  refine ⟨fun c o e n hc hx => ?_, fun c o e n hc hx => all.any e n hx, all.free, all.there, all.tups, all.frzs, all.tbls⟩
  refine b.keep c o (a.keep c o e n hc hx) (a.free c o e n hx) (fun z => ?_) hx
  rcases new c z with q | q
  · exact hc q
  · rw [q] at e; cases e
/-- f() runs so, as long as what stands in (s, H) but the frames fs stays -/
structure Runs (P : Program) (w : World) (K : PySem.W.Frag) (mg : Str → Option Value) (base : Heap) (fs : List Addr) (k : Nat) (f : Addr) (tl : XK → Hp → VK → Prop) (s : Shared) (H : Hp) : Prop where
  obj : ∃ (oc : Value) (od : Option Addr) (fd : FuncData) (sl : Array (Option Value)), s.heap.get? f = some ⟨oc, od, .func fd, sl⟩
  fn : H f = none
  fr : f ∉ fs
  run : ∀ (A : Around) (outer : List Env) (s1 : Shared) (HZ : Hp) (Q : VK) (E : XK), Room (k + 1) A → Env0 P w K mg base A outer s1 HZ → Un fs [] H HZ s.heap s1.heap → tl E HZ Q →
    codeAny (model P w) A (.call (.ref f) ⟨[], []⟩) (CR (L2.CX P w) outer P w HZ s1 Q E) s1
section
variable {P : Program} {w : World} {K : PySem.W.Frag} {mg : Str → Option Value} {base : Heap} {k j : Nat} {f : Addr} {tl : XK → Hp → VK → Prop}
theorem Runs.step {fs fs' : List Addr} {s s1 : Shared} {H H1 : Hp} (R : Runs P w K mg base fs k f tl s H) (u : Un fs [] H H1 s.heap s1.heap) (new : ∀ c ∈ fs', c ∈ fs ∨ s.heap.get? c = none) (sub : ∀ c ∈ fs, c ∈ fs') : Runs P w K mg base fs' k f tl s1 H1 := by
  obtain ⟨oc, od, fd, sl, e⟩ := R.obj
  refine ⟨⟨oc, od, fd, sl, u.keep f _ e R.fn R.fr List.not_mem_nil⟩, u.free f _ e R.fn List.not_mem_nil, fun z => ?_, fun A outer s2 HZ Q E hr e0 u2 t => R.run A outer s2 HZ Q E hr e0 (un_then u u2 new sub) t⟩
  rcases new f z with q | q
  · exact R.fr q
  · rw [q] at e; cases e
/-- within a def that got it: at any state of the def -/
theorem Runs.now {X : Cx} {pins : List (Addr × Obj)} {σ : L2.St} {H : Hp} {s : Shared} (R : Runs X.prog X.w X.K X.mg X.base X.fs k f tl X.s_0 X.H_0) (hex : X.ex = []) (I : Inv X pins σ H s) : Runs X.prog X.w X.K X.mg X.base (frs X.stack) k f tl s H := by
  have u : Un X.fs [] X.H_0 H X.s_0.heap s.heap := hex ▸ I.base
  refine R.step u (fun c hc => ?_) fun c hc => ?_
  · rcases List.mem_cons.mp (I.stkSub c hc) with z | z
    · exact .inr (Heap.get?_none_of_le (z ▸ I.ok.above))
    · exact .inl z
  · rcases I.ok.stk with z | ⟨z, hf⟩
    · rw [z]; exact hc
    · rw [z]
      unfold frs
      rw [List.filterMap_cons, hf]
      exact List.mem_cons_of_mem _ hc
end
/-- a def whose first argument is such a callable -/
structure LOk (P : Program) (w : World) (K : PySem.W.Frag) (mg : Str → Option Value) (base : Heap) (k j : Nat) (g : Addr) (fd : FuncData) (ps : List Str) (sp : (XK → Hp → VK → Prop) → List V → Hp → VK → Prop) : Prop where
  len : ∀ tl vs H Q, sp tl vs H Q → vs.length + 1 = ps.length
  run : ∀ (A : Around) (outer : List Env) (s : Shared) (H : Hp) (args : Args) (us : List Value) (vs : List V) (Q : VK) (f : Addr) (tl : XK → Hp → VK → Prop), A.guards = some [] → Room k A → Env0 P w K mg base A outer s H →
    BindsTo s fd args (ps.zip (.ref f :: us)) → Vals vs us → Runs P w K mg base (frs outer) j f tl s H → sp tl vs H Q → codeAny (model P w) A (.call (.ref g) args) (CR CX0 outer P w H s Q fun _ _ _ => False) s
section
variable {X : Cx} {k j i : Nat} {f g : Addr} {fd : FuncData} {ps : List Str} {sp : (XK → Hp → VK → Prop) → List V → Hp → VK → Prop} {tl : XK → Hp → VK → Prop} {x a : Str} {p p1 p2 pos : Pos} {e : Expr} {es : List Expr} {ta : TA}
theorem run_L {pins : List (Addr × Obj)} {σ : L2.St} {H : Hp} {s : Shared} {Q : VK} {us : List Value} {vs : List V} (L : LOk X.prog X.w X.K X.mg X.base k j g fd ps sp) (gd : X.A.guards = some []) (hr : Room k X.A) (hb : Binds X.K fd ps [])
    (I : Inv X pins σ H s) (R : Runs X.prog X.w X.K X.mg X.base (frs X.stack) j f tl s H) (r : Vals vs us) (h : sp tl vs H Q) : wpAny (model X.prog X.w) X.A (call (.ref g) (.ref f :: us)) (EP X pins σ Q) X.xe s := by
  have n : (.ref f :: us : List Value).length = ps.length := by
    rw [List.length_cons, ← r.length]
    exact L.len _ _ _ _ h
  have b := hb s (.ref f :: us) I.kIn (by rw [List.append_nil]; exact n)
  rw [List.append_nil] at b
  refine wpAny_call (codeAny_mono (L.run X.A X.stack s H ⟨.ref f :: us, []⟩ us vs Q f tl gd hr I.env0 b r R h) fun res s1 z => ?_)
  match res, z with
  | .error _, z => exact z.elim
  | .ok (.ret u), z => exact I.after z
  | .ok .next, z => exact z.elim
  | .ok .brk, z => exact z.elim
  | .ok .cont, z => exact z.elim
/-- g(x, ..) in a def that got x -/
theorem pe_handon (R : Runs X.prog X.w X.K X.mg X.base X.fs j f tl X.s_0 X.H_0) (hex : X.ex = []) (L : LOk X.prog X.w X.K X.mg X.base k j g fd ps sp) (gd : X.A.guards = some []) (hr : Room k X.A) (hb : Binds X.K fd ps [])
    (hg : Gl X x) (hm : X.mg x = some (.ref g)) (hk : PySem.W.keepIn X.K (.ref g) = true) (ha : PA X (e :: es) ta) (hdb : (x == ("__debug__" : Str)) = false := by decide)
    (he : starEach (e :: es) X.env = (false, eval e X.env) :: starEach es X.env := by rfl) (hpl : (backTo pos (starEach es X.env)).any (·.1) = false := by rfl) :
    PE X (.Call (.Name x p) (e :: es) [] pos) (fun σ H Q => ta σ H fun vs H1 => ∃ ws, vs = .ref f :: ws ∧ sp tl ws H1 Q) := by
  constructor
  intro pins s σ H Q I h
  refine wpAny_Call_Name_kw (ld_glob I hg hm (PySem.W.callWith_K (h₀ := X.base) I.ok.mod.kin hk (thn (ha.run pos pins s σ H _ I h) fun us s1 ⟨vs, H1, I1, r, ws, ev, q⟩ => ⟨I1.kIn, ?_⟩) he hpl) hdb)
  subst ev
  cases r with
  | @cons _ u _ ur r1 r2 =>
    obtain rfl : u = Value.ref f := r1
    exact run_L L gd hr hb I1 (R.now hex I1) r2 q
/-- x() in a def that got x -/
theorem pe_look {E : XK} (R : Runs X.prog X.w X.K X.mg X.base X.fs k f tl X.s_0 X.H_0) (hex : X.ex = []) (hx : Passes (L2.CX X.prog X.w) X E) (hr : Room (k + 1) X.A) (hN : X.N[i]? = some a) (hv : Vis X.env.scope a)
    (hd : (a == ("__debug__" : Str)) = false := by decide) (hcd : (a == ("__classdict__" : Str)) = false := by decide) :
    PE X (.Call (.Name a p1) [] [] p2) (fun σ H Q => σ[i]? = some (some (.ref f)) ∧ tl E H Q) := by
  constructor
  intro pins s σ H Q I ⟨hs, t⟩
  refine wpAny_Call_Name_kw (thn ((pe_var (pos := p1) (i := i) hN hv hd hcd).run pins s σ H (fun v H1 => v = .ref f ∧ H1 = H) I ⟨_, hs, rfl, rfl⟩) fun u s1 ⟨v, H1, I1, r1, ev, eH⟩ => ?_)
  subst ev eH
  obtain rfl : u = Value.ref f := r1
  have R1 := R.now hex I1
  obtain ⟨oc, od, fd, sl, ob⟩ := R1.obj
  refine PySem.W.callWith_F0 (first := []) ⟨oc, od, fd, sl, ob⟩ (wpAny_call (codeAny_mono (R1.run X.A X.stack s1 _ Q E hr I1.env0 Un.refl t) fun res s2 z => ?_))
  match res, z with
  | .error e, z => exact hx pins σ _ s1 e s2 I1 z
  | .ok (.ret u), z => exact I1.after z
  | .ok .next, z => exact z.elim
  | .ok .brk, z => exact z.elim
  | .ok .cont, z => exact z.elim
/-- g(lambda: body, ..): T the tables of code objects -/
theorem pe_lam {T : List (Addr × Str)} {c PT : Addr} {params : Arguments} {body : Expr} {scope : Scope} {t : XK → TE} {lpos : Pos} (L : LOk X.prog X.w X.K X.mg X.base j k g fd ps sp) (gd : X.A.guards = some []) (hr : Room j X.A) (hb : Binds X.K fd ps [])
    (hg : Gl X x) (hm : X.mg x = some (.ref g)) (hk : PySem.W.keepIn X.K (.ref g) = true) (ha : PA X es ta)
    (TB : TabB X.base X.mg c PT) (hcode : X.env.code = .ref c) (hmT : (PT, X.env.qual ++ "<lambda>") ∈ T) (hu : ∀ p ∈ T, p.1 = PT → p.2 = X.env.qual ++ "<lambda>") (S : LamS X.env.scope scope) (hdef : defaultsOf params X.env = ([], []))
    (hbind : ∀ (q : Str) (cl : List (Str × Addr)) (pm cv ctv : Value), bindArgs (PySem.W.kla_fn "<lambda>" q params body scope cl pm cv ctv) ⟨[], []⟩ = pure [])
    (hbody : ∀ (A : Around) (outer : List Env) (s : Shared) (H : Hp) (E : XK) (f c' : Addr), Room k (A.deeper (lamEnv X scope s.heap.objs.size f c')) → PE (lamCx X A outer s H E scope f c') body (t E))
    (hdb : (x == ("__debug__" : Str)) = false := by decide)
    (he : starEach (.Lambda params body scope lpos :: es) X.env = (false, eval (.Lambda params body scope lpos) X.env) :: starEach es X.env := by rfl) (hpl : (backTo pos (starEach es X.env)).any (·.1) = false := by rfl) :
    PE X (.Call (.Name x p) (.Lambda params body scope lpos :: es) [] pos)
      (fun σ H Q => Tabs T H ∧ ∀ H1 c', ExtN H H1 → Tabs T H1 → H1 c' = some (CodeO c' (X.env.qual ++ "<lambda>")) → ta σ H1 fun ws H2 => sp (fun E H' Q' => H' c' = some (CodeO c' (X.env.qual ++ "<lambda>")) ∧ t E σ H' Q') ws H2 Q) := by
  constructor
  intro pins s σ H Q I ⟨hT, h⟩
  refine wpAny_Call_Name_kw (ld_glob I hg hm ?_ hdb)
  refine PySem.W.callWith_K (h₀ := X.base) I.ok.mod.kin hk ?_ he hpl
  rw [he]
  refine Calls.spliced_cons (lam_make2 I TB hcode hmT hu hT hdef (S.has I.ok) fun f c' pm ctv H1 s1 I1 eN T1 hf hfn hfr hco => ?_)
  have fL : f ≠ X.env.locals := fun z => by
    obtain ⟨m, ⟨o, es, ep, e1, e2, _⟩, _⟩ := I1.loc
    rw [← z, hf] at e1
    cases e1
    cases e2
  have fF : f ∉ X.fs := fun z => hfr (by
    rcases I1.ok.stk with q | ⟨q, hf2⟩
    · rw [q]; exact z
    · rw [q]; unfold frs; rw [List.filterMap_cons, hf2]; exact List.mem_cons_of_mem _ z)
  generalize hob : PySem.W.kla_obj "<lambda>" (X.env.qual ++ "<lambda>") params body scope (cloFrom X.env.cells scope.names []) pm c' ctv = ob at hf
  have I1p : Inv X ((f, ob) :: pins) σ H1 s1 := I1.pins_of fun q hq => by
    rcases List.mem_cons.mp hq with z | z
    · subst z
      exact ⟨hf, hfn, fL, fF, fun v z => by rw [← hob] at z; cases z⟩
    · exact I1.pin q (List.mem_append_right _ z)
  refine thn (ha.run pos ((f, ob) :: pins) s1 σ H1 _ I1p (h H1 c' eN T1 hco)) fun us s2 ⟨ws, H2, I2p, r, q⟩ => ⟨I2p.kIn, ?_⟩
  have I2 : Inv X pins σ H2 s2 := I2p.pins_of fun q hq => I2p.pin q (List.mem_append_right _ (List.mem_cons_of_mem _ hq))
  obtain ⟨e2, n2, _⟩ := I2p.pin (f, ob) (List.mem_append_right _ List.mem_cons_self)
  refine run_L (f := f) (tl := fun E H' Q' => H' c' = some (CodeO c' (X.env.qual ++ "<lambda>")) ∧ t E σ H' Q') L gd hr hb I2 ⟨⟨_, _, _, _, by rw [← hob] at e2; exact e2⟩, n2, hfr, fun A outer s3 HZ Q' E hrA e0 un ⟨hc', ht⟩ => ?_⟩ r q
  have e3 := un.keep f _ e2 n2 hfr List.not_mem_nil
  rw [← hob] at e3
  obtain ⟨⟨oc, vs, tk, hoc, hdc, hvc⟩, _, _⟩ := e0.hok c' _ hc'
  refine PySem.W.kla_callFunE hrA.depth e3 rfl S.co S.gen rfl ⟨c', oc, vs, tk, rfl, hoc, hdc, hvc⟩ ?_
  rw [hbind]
  have lim : s3.heap.NoLimit := e0.mod.nolimit.keeps fun b o z => (e0.bs b o z).1
  refine wpAny_pure (wpAny_newFunctionEnv (fun y hy => (S.own y hy).2) (fun y hy => absurd hy List.not_mem_nil) (fun h₁ hns hsb => ⟨lim.fresh _ hsb, ?_⟩) S.kind)
  show codeAny _ _ (.expr body (lamEnv X scope s3.heap.objs.size f c')) _ _
  have kp : ∀ b o, s3.heap.get? b = some o → h₁.get? b = some o := fun b o z => hsb.extBut b o (Nat.ne_of_lt (Heap.lt_size z)) (Heap.get?_push_of_some _ z)
  have J := lam_start2 (f := f) (c' := c') (E := E) (tk := s3.toks + ([] : List (Str × Value)).length) I2 S e0 hrA.hd un hns kp
  refine PySem.W.kla_codeExpr (wpAny_mono ((hbody A outer s3 HZ E f c' (hrA.deeper _)).run [] _ σ HZ Q' J ht) (fun v s' ⟨w', H', J', rv, q'⟩ => ⟨w', H', J'.os, J'.bare, J'.base, J'.hok, rv, q'⟩) fun _ _ z => z)
end
/-- a def of the text whose first argument is such a callable -/
theorem okL {P : Program} {w : World} {K : PySem.W.Frag} {mg : Str → Option Value} {base : Heap} {x qual : Str} {st : Stmt} {g : Addr} {fd : FuncData} {N ps : List Str} {k j : Nat} {sp : (XK → Hp → VK → Prop) → List V → Hp → VK → Prop} (F : Fun K x qual st g fd) (S : FnScope N ps (defScope st))
    (len : ∀ tl vs H Q, sp tl vs H Q → vs.length + 1 = ps.length)
    (hb : ∀ (cdv : Value) (A : Around) (outer : List Env) (s : Shared) (H : Hp) (vs : List V) (Q : VK) (f : Addr) (tl : XK → Hp → VK → Prop), A.guards = some [] → Room k (A.deeper (envOfC qual (defScope st) s.heap.objs.size g cdv)) → Runs P w K mg base (frs outer) j f tl s H → sp tl vs H Q →
      ∃ t, PSs (cxOf CX0 P w K mg base N qual (defScope st) g cdv A outer s H fun _ _ _ => False).nox (defBody st) t ∧ t { nx := fun _ H1 => Q .non H1, rt := Q } (start N (.ref f :: vs)) H) : LOk P w K mg base (k + 1) j g fd ps sp := by
  obtain ⟨oc, od, kV, doc, pm, an, cdv, ct, osl, rfl, lk, hcd⟩ := F.ex
  refine ⟨len, fun A outer s H args us vs Q f tl gd hr e0 bnd r R h => ?_⟩
  refine run_ofS (vs := .ref f :: vs) lk hcd S hr e0 bnd (.cons rfl r) (len _ _ _ _ h) fun hr' => ?_
  obtain ⟨t, ht, hq⟩ := hb cdv A outer s H vs Q f tl gd hr' R h
  exact ⟨t, ht.nox, hq⟩
/-- x() in a try's body: what it lets out is told at the slots as they stand -/
def tLook (f : Addr) (i : Nat) (tl : XK → Hp → VK → Prop) (W : WX) : TE := fun σ H Q => ∃ (E : XK) (Q0 : VK), (∀ cls d H', E cls d H' → W cls d σ H') ∧ (∀ v H', Q0 v H' → Q v H') ∧ σ[i]? = some (some (.ref f)) ∧ tl E H Q0
theorem pe_lookS {X : Cx} {k i : Nat} {f : Addr} {tl : XK → Hp → VK → Prop} {a : Str} {p1 p2 : Pos} {W : WX} (tk : Takes X W) (R : Runs X.prog X.w X.K X.mg X.base X.fs k f tl X.s_0 X.H_0) (hex : X.ex = []) (hr : Room (k + 1) X.A) (hN : X.N[i]? = some a) (hv : Vis X.env.scope a)
    (hd : (a == ("__debug__" : Str)) = false := by decide) (hcd : (a == ("__classdict__" : Str)) = false := by decide) : PE X (.Call (.Name a p1) [] [] p2) (tLook f i tl W) := by
  constructor
  intro pins s σ H Q I ⟨E, Q0, hW, hQ, hs, t⟩
  refine wpAny_Call_Name_kw (thn ((pe_var (pos := p1) (i := i) hN hv hd hcd).run pins s σ H (fun v H1 => v = .ref f ∧ H1 = H) I ⟨_, hs, rfl, rfl⟩) fun u s1 ⟨v, H1, I1, r1, ev, eH⟩ => ?_)
  subst ev eH
  obtain rfl : u = Value.ref f := r1
  have R1 := R.now hex I1
  obtain ⟨oc, od, fd, sl, ob⟩ := R1.obj
  refine PySem.W.callWith_F0 (first := []) ⟨oc, od, fd, sl, ob⟩ (wpAny_call (codeAny_mono (R1.run X.A X.stack s1 _ Q0 E hr I1.env0 Un.refl t) fun res s2 z => ?_))
  match res, z with
  | .error e, z => exact tk e s2 (XE.of_call I1 hW z)
  | .ok (.ret u), z =>
    obtain ⟨v, H2, I2, rv, q⟩ := I1.after z
    exact ⟨v, H2, I2, rv, hQ _ _ q⟩
  | .ok .next, z => exact z.elim
  | .ok .brk, z => exact z.elim
  | .ok .cont, z => exact z.elim
/-! ### errors that were caught -/
/-- at a stands a caught error of the class at C whose own dict holds fs -/
def Met (H : Hp) (a C : Addr) (fs : List (Str × V)) : Prop := ∃ d, H a = some (exk a (.ref C) (some d)) ∧ H d = some (.xd fs)
theorem Met.same {H H' : Hp} {a C : Addr} {fs : List (Str × V)} (s : Same H H') (h : Met H a C fs) : Met H' a C fs := h.imp fun _ z => ⟨s _ _ z.1, s _ _ z.2⟩
section
variable {X : Cx} {pins : List (Addr × Obj)} {σ : L2.St} {H : Hp} {s : Shared} {a C : Addr} {fs : List (Str × V)}
theorem met_at (I : Inv X pins σ H s) (h : Met H a C fs) : ∃ ox od, PySem.W.InstAt s.heap a ox C (some od) ∧ ∃ mA : Str → Option Value, (∀ name, PySem.W.lookIn name od = some (mA name)) ∧ ∀ f, RelO (fs.lookup f) (mA f) := by
  obtain ⟨d, h1, h2⟩ := h
  obtain ⟨o, vs, e1, z1, f1⟩ := exk_at I.hok h1
  obtain ⟨mA, hn, hr⟩ : ∃ mA, s.heap.Ns1 d mA ∧ ∀ f, RelO (fs.lookup f) (mA f) := I.hok d _ h2
  obtain ⟨od, ho, hl⟩ := lookIn_ns hn
  exact ⟨o, od, ⟨e1, z1.1, by unfold PySem.W.notCls; rw [f1] <;> rfl, by rw [z1.2]; exact ho⟩, mA, hl, hr⟩
/-- e.n of a caught error -/
def tMv (K : PySem.W.Frag) (n : Str) (te : TE) : TE := fun σ H Q => te σ H fun x H1 => ∃ a C fs v, x = .ref a ∧ Met H1 a C fs ∧ XfC K C ∧ PySem.W.findIn K (.ref C) n = some none ∧ fs.lookup n = some v ∧ Q v H1
theorem pe_mv {e : Expr} {te : TE} {pos : Pos} {n : Str} (he : PE X e te) (hb : attributeBase e n X.env (eval e X.env) = eval e X.env := by rfl) : PE X (.Attribute e n pos) (tMv X.K n te) := by
  constructor
  intro pins s σ H Q I h
  refine attr_of hb (thn (he.run pins s σ H _ I h) fun u s1 ⟨x, H1, I1, rx, a, C, fs, v, ex, hE, T, hno, l, q⟩ => ?_)
  subst ex
  obtain rfl : u = Value.ref a := rx
  obtain ⟨ox, od, J, mA, hl, hr⟩ := met_at I1 hE
  obtain ⟨u, hu, ru⟩ := RelO.some_of (v := v) (o := mA n) (l ▸ hr n)
  exact HandSPX.exc_get I1.kIn J T.ga T.gg T.exC (PySem.W.findObj_own T.hdC hno rfl (by rw [hl, hu])) (handed_of ru) ⟨v, H1, I1.tok _, ru, q⟩
/-- isinstance(x, c) of a caught error -/
def rIsM (K : PySem.W.Frag) : List V → Hp → VK → Prop := fun xs H Q => ∃ (a C : Addr) (fs : List (Str × V)) (c : V) (cv : Value) (b b' : Bool), xs = [.ref a, c] ∧ Met H a C fs ∧ ExcC K C ∧ PySem.W.kitCls K (.ref C) (.ref C) = some b' ∧ ClsV c cv ∧ PySem.W.kitOne K (.ref C) cv = some b ∧ Q (.bl b) H
theorem call_isM {X : Cx} : CallR X (.builtin "isinstance") (rIsM X.K) := by
  intro pins s σ H xs us Q I r h
  obtain ⟨a, C, fs, c, cv, b, b', rfl, hE, T, self, hc, e, q⟩ := h
  match us, r with
  | [u1, u2], .cons r1 (.cons r2 .nil) =>
    obtain rfl : u1 = Value.ref a := r1
    obtain rfl : u2 = cv := hc.eq r2
    obtain ⟨ox, od, J, _⟩ := met_at I hE
    exact PySem.W.kia_one (kit_err T self) I.kIn ⟨ox, od, J⟩ e (fun z => nomatch z) fun tk => ⟨.bl b, H, I.tok tk, rfl, q⟩
end
end TT

set_option Elab.async false
set_option linter.all false
set_option maxRecDepth 100000
set_option maxHeartbeats 4000000
/-! What the laws of our program share: defs that make lambdas, the errors' classes, the end of a law whose defs make lambdas. -/
namespace TT
open PySem PySem.Spec PyProof.Rows L2 LamX
/-! ### defs that make lambdas: their code object is known -/
structure FunC (K : PySem.W.Frag) (x qual : Str) (st : Stmt) (f : Addr) (fd : FuncData) (c : Addr) : Prop where
  ex : ∃ (oc : Value) (od : Option Addr) (kV doc pm : Value) (an : Option Addr) (ct : Value) (osl : Array (Option Value)),
    fd = PySem.W.fnOf x qual (defArgs st) (defBody st) (defScope st) .none kV doc pm an (.ref c) ct ∧ K.lookup f = some ⟨oc, od, .func fd, osl⟩ ∧ PySem.W.codeIn K (.ref c) qual = true
  kp : PySem.W.keepIn K (.ref f) = true
section
variable {P : Program} {w : World} {K : PySem.W.Frag} {mg : Str → Option Value} {base : Heap} {x qual : Str} {st : Stmt} {f c : Addr} {fd : FuncData} {N ps : List Str} {k : Nat} {sp : Sp}
theorem FunC.fn (F : FunC K x qual st f fd c) : Fun K x qual st f fd := by
  obtain ⟨oc, od, kV, doc, pm, an, ct, osl, e, l, h⟩ := F.ex
  exact ⟨⟨oc, od, kV, doc, pm, an, .ref c, ct, osl, e, l, h⟩, F.kp⟩
theorem okGC (F : FunC K x qual st f fd c) (S : FnScope N ps (defScope st)) (size : ∀ vs H Q E, sp vs H Q E → vs.length = ps.length)
    (hb : ∀ (A : Around) (outer : List Env) (s : Shared) (H : Hp) (vs : List V) (Q : VK) (E : XK), A.guards = some [] → Room k (A.deeper (envOfC qual (defScope st) s.heap.objs.size f (.ref c))) → sp vs H Q E →
      ∃ t, PSs (cxOf CX0 P w K mg base N qual (defScope st) f (.ref c) A outer s H E).nox (defBody st) t ∧ t { nx := fun _ H1 => Q .non H1, rt := Q } (start N vs) H) : GOk P w K mg base CX0 (k + 1) f fd ps sp := by
  obtain ⟨oc, od, kV, doc, pm, an, ct, osl, rfl, lk, hcd⟩ := F.ex
  refine g_of lk hcd S size fun A outer s H vs Q E g hr hsp => ?_
  obtain ⟨t, h, q⟩ := hb A outer s H vs Q E g hr hsp
  exact ⟨t, h.nox, q⟩
end
/-- a def that lets errors out, called where it lets none out -/
theorem passF {P : Program} {w : World} {X : Cx} : Passes (L2.CX P w) X E0 := fun _ _ _ _ _ _ _ h => by
  obtain ⟨_, _, _, _, _, _, _, _, _, _, _, _, z⟩ := h
  exact z.elim
/-- o(..), o an instance of the class at C -/
def tCallI (C : Addr) (sp : Sp) (E : XK) (tf : TE) (t : TA) : TE := fun σ H Q => tf σ H fun y H1 => ∃ a, y = V.ref a ∧ t σ H1 fun vs H2 => (∃ dx fs, H2 a = some (.ins C dx fs)) ∧ sp (V.ref a :: vs) H2 Q E
theorem pe_callI {X : Cx} {CX : CXT} {k : Nat} {g C : Addr} {sp : Sp} {E : XK} {fe e : Expr} {es : List Expr} {tf : TE} {t : TA} {pos : Pos} (hf : PE X fe tf) (c : StX.CallO X.K C g) (F : FnR X.prog X.w X.K X.mg X.base CX k g sp) (hr : Room k X.A) (hx : Passes CX X E) (ha : PA X (e :: es) t)
    (ht : eval (.Call fe (e :: es) [] pos) X.env = (do callWith pos (← eval fe X.env) [] (backTo pos (starEach (e :: es) X.env)) (backToKw pos (keywordEach [] X.env))) := by rfl)
    (he : starEach (e :: es) X.env = (false, eval e X.env) :: starEach es X.env := by rfl) (hpl : (backTo pos (starEach es X.env)).any (·.1) = false := by rfl) : PE X (.Call fe (e :: es) [] pos) (tCallI C sp E tf t) := by
  constructor
  intro pins s σ H Q I h
  refine Call_ (thn (hf.run pins s σ H _ I h) fun u s1 z => ?_) ht
  obtain ⟨_, H1, I1, ru, a, rfl, q⟩ := z
  obtain rfl : u = .ref a := ru
  refine StX.callO_with (thn (ha.run pos pins s1 σ H1 _ I1 q) fun us s2 z => ?_) he hpl
  obtain ⟨vs, H2, I2, rv, inst, q2⟩ := z
  have at2 : StX.InsC X H2 a C := .inr inst
  obtain ⟨ox, od, J, plain⟩ := StX.insC_at I2 at2
  exact ⟨⟨C, ox, od, J, plain⟩, StX.run_callO c F hr hx I2 at2 rv q2⟩
/-- what a lambda in the def q is called -/
def lamN (q : Str) : Str := (q ++ ".<locals>.") ++ "<lambda>"
/-! ### the errors' classes -/
/-- the chain of each error's class behind itself -/
def chain (cE C : Addr) : List Value := (if C = cE then [] else [.ref cE]) ++ [.type "ValueError", .type "Exception", .type "BaseException", .type "object"]
structure ExcT (K : PySem.W.Frag) (cE fI C : Addr) : Prop where
  ox : OexC K C
  xf : XfC K C
  ec : ExcC K C
  ini : PySem.W.findIn K (.ref C) "__init__" = some (some (.ref fI))
  nv : PySem.W.findIn K (.ref C) "value" = some none
  sub : ∀ b, PySem.W.subIn K (.ref C) b = some ((Value.ref C :: chain cE C).contains b)
  is : ((PySem.W.clsIn K C).isSome && PySem.W.typeIn K (.ref C) == some (.type "type")) = true
section
variable {K : PySem.W.Frag} {cE fI C D : Addr}
theorem ExcT.kit (a : ExcT K cE fI C) (b : ExcT K cE fI D) (h : C ≠ D) : PySem.W.kitOne K (.ref C) (.ref D) = some (decide (D = cE)) := by
  have n1 : (Value.ref C == Value.ref D) = false := by simpa using h
  unfold PySem.W.kitOne
  rw [n1, if_neg Bool.false_ne_true]
  unfold PySem.W.kitCls
  dsimp only
  rw [if_pos b.is, a.sub]
  congr 1
  unfold chain
  have n2 : ¬ D = C := fun e => h e.symm
  by_cases c : C = cE
  · subst c
    rw [if_pos rfl, decide_eq_false n2]
    simp [n2]
  · rw [if_neg c]
    by_cases e : D = cE
    · subst e
      simp
    · rw [decide_eq_false e]
      simp [e, n2]
theorem ExcT.self (a : ExcT K cE fI C) : PySem.W.kitOne K (.ref C) (.ref C) = some true := by
  unfold PySem.W.kitOne
  rw [if_pos (beq_iff_eq.mpr rfl)]
theorem ExcT.selfC (a : ExcT K cE fI C) : PySem.W.kitCls K (.ref C) (.ref C) = some true := by
  unfold PySem.W.kitCls
  dsimp only
  rw [if_pos a.is, a.sub]
  congr 1
  simp
/-- it is caught as a TuneError -/
theorem ExcT.exm (a : ExcT K cE fI C) (b : ExcT K cE fI cE) : PySem.W.exmOne K (.ref C) (.ref cE) = some true := by
  refine PySem.W.exm_ref b.ox.exC b.xf.hdC b.ox.tyC ?_
  rw [a.sub]
  congr 1
  unfold chain
  by_cases c : C = cE
  · subst c; simp
  · rw [if_neg c]; simp
structure ExcF (K : PySem.W.Frag) (cE fI C : Addr) : Prop where
  cls : ∃ nm q N bs sn sub ab col dd k0 k1 k2 k3 k5, K.lookup C = some (excClassObj nm q C N bs (chain cE C) true sn sub ab col dd k0 k1 k2 k3 k5 "ValueError.__new__")
  sa : PySem.W.findIn K (.ref C) "__setattr__" = some (some (.builtin "object.__setattr__"))
  tyC : PySem.W.typeIn K (.ref C) = some (.type "type")
  kC : PySem.W.keepIn K (.ref C) = true
  ga : PySem.W.findIn K (.ref C) "__getattribute__" = some (some (.builtin "BaseException.__getattribute__"))
  gg : PySem.W.findIn K (.ref C) "__getattr__" = some none
  ha : PySem.W.findIn K (.ref C) "__class__" = some (some (.builtin "object.__class__"))
  ini : PySem.W.findIn K (.ref C) "__init__" = some (some (.ref fI))
  nv : PySem.W.findIn K (.ref C) "value" = some none
theorem excF_mk {nm q : Str} {N : Addr} {bs bm : List Value} {sn : List Str} {sub : List Value} {ab : Bool} {col : Option Bool} {dd : Option Addr} {k0 k1 k2 k3 k5 : Option Value}
    (xL : K.lookup C = some (excClassObj nm q C N bs bm true sn sub ab col dd k0 k1 k2 k3 k5 "ValueError.__new__")) (hb : bm = chain cE C)
    (sa : PySem.W.findIn K (.ref C) "__setattr__" = some (some (.builtin "object.__setattr__"))) (tyC : PySem.W.typeIn K (.ref C) = some (.type "type")) (kC : PySem.W.keepIn K (.ref C) = true)
    (ga : PySem.W.findIn K (.ref C) "__getattribute__" = some (some (.builtin "BaseException.__getattribute__"))) (gg : PySem.W.findIn K (.ref C) "__getattr__" = some none)
    (ha : PySem.W.findIn K (.ref C) "__class__" = some (some (.builtin "object.__class__"))) (ini : PySem.W.findIn K (.ref C) "__init__" = some (some (.ref fI))) (nv : PySem.W.findIn K (.ref C) "value" = some none) : ExcF K cE fI C :=
  ⟨⟨nm, q, N, bs, sn, sub, ab, col, dd, k0, k1, k2, k3, k5, hb ▸ xL⟩, sa, tyC, kC, ga, gg, ha, ini, nv⟩
theorem chain_has (cE C : Addr) (b : Value) (h : b ∈ ([.type "ValueError", .type "Exception", .type "BaseException", .type "object"] : List Value)) : (Value.ref C :: chain cE C).contains b = true := by
  rw [List.contains_iff_mem]
  exact List.mem_cons_of_mem _ (List.mem_append_right _ h)
theorem ExcF.all (a : ExcF K cE fI C) (zget : PySem.W.specialIn K (.builtin "object.__class__") "__get__" = some (some (.builtin "getset_descriptor.__get__"))) (ztk : PySem.W.takesIn K (.builtin "object.__class__") = some true) : ExcT K cE fI C := by
  obtain ⟨nm, q, N, bs, sn, sb, ab, col, dd, k0, k1, k2, k3, k5, xL⟩ := a.cls
  have cl : PySem.W.clsIn K C = some { name := nm, bases := bs, mro := Value.ref C :: chain cE C, ns := N, qualname := q, hasDict := true, slotNames := sn, subclasses := sb, abstract := ab, collection := col } := by
    unfold PySem.W.clsIn
    rw [xL]
  have sub : ∀ b, PySem.W.subIn K (.ref C) b = some ((Value.ref C :: chain cE C).contains b) := fun b => by
    unfold PySem.W.subIn
    dsimp only
    unfold PySem.W.mroIn
    rw [cl]
    rfl
  have hd : PySem.W.hasDictIn K C = true := by
    unfold PySem.W.hasDictIn
    rw [cl]
    rfl
  have be : PySem.W.subIn K (.ref C) (.type "BaseException") = some true := by rw [sub, chain_has cE C _ (by simp)]
  have ob : PySem.W.subIn K (.ref C) (.type "object") = some true := by rw [sub, chain_has cE C _ (by simp)]
  exact {
    ox := ⟨⟨nm, q, N, bs, _, sn, sb, ab, col, dd, k0, k1, k2, k3, k5, xL, by
      unfold chain
      by_cases c : C = cE
      · rw [if_pos c]
        decide +kernel
      · rw [if_neg c]
        rfl⟩, a.sa, be, a.tyC, a.kC⟩
    xf := ⟨a.ga, a.gg, be, hd⟩
    ec := ⟨a.ga, a.gg, be, hd, a.ha, zget, ztk, ob⟩
    ini := a.ini
    nv := a.nv
    sub := sub
    is := by rw [cl, a.tyC] <;> rfl }
end
theorem nd_at {l : List Addr} (h : l.Nodup) {i j : Nat} (hi : i < l.length) (hj : j < l.length) (e : l.getD i 0 = l.getD j 0) : i = j := by
  rw [List.getD_eq_getElem?_getD, List.getD_eq_getElem?_getD, List.getElem?_eq_getElem hi, List.getElem?_eq_getElem hj] at e
  have pw := List.pairwise_iff_getElem.mp h
  have e' : l[i] = l[j] := e
  rcases Nat.lt_trichotomy i j with c | c | c
  · exact absurd e' (pw i j hi hj c)
  · exact c
  · exact absurd e'.symm (pw j i hj hi c)
/-! ### heaps in which tables may have grown -/
theorem ExtN.same {H H' : Hp} (s : Same H H') : ExtN H H' := fun b o e _ => s b o e
theorem ExtN.seq {K : PySem.W.Frag} {H H' : Hp} {a : Addr} {xs : List V} (e : ExtN H H') (h : SqL K H a xs) : SqL K H' a xs := by
  rcases h with (h | ⟨o, h⟩) | h
  · exact .inl (.inl (e _ _ h fun ps z => by cases z))
  · exact .inl (.inr ⟨o, e _ _ h fun ps z => by cases z⟩)
  · exact .inr h
/-! ### the end of a law's row whose defs make lambdas -/
/-- the script and the empty tables are tracked -/
def seenT (a : Addr) (ob : Obj) (ns : List Int) (own : Bool) (ts : List Addr) : Hp := fun b => if own = false ∧ b = a then some (.frz ob (.lst (ns.map V.int))) else if b ∈ ts then some (.tbl #[]) else none
/-- .. or: each tracked thing is the script or a table -/
theorem seenT_is {a b : Addr} {ob : Obj} {ns : List Int} {own : Bool} {ts : List Addr} {u : HO} (h : seenT a ob ns own ts b = some u) : (own = false ∧ b = a ∧ u = .frz ob (.lst (ns.map V.int))) ∨ (b ∈ ts ∧ u = .tbl #[]) := by
  unfold seenT at h
  split at h
  · rename_i c
    cases h
    exact .inl ⟨c.1, c.2, rfl⟩
  · split at h
    · rename_i c
      cases h
      exact .inr ⟨c, rfl⟩
    · cases h
abbrev tab0 : Obj := { cls := .none, data := .fields #[] }
theorem run_lawT {P : Program} {w : World} {K : PySem.W.Frag} {mg mb : Str → Option Value} {k : Nat} {fa a : Addr} {fd : FuncData} {x : Str} {sp : Sp} {s : Shared} {vs : List Value} {ns : List Int} {cs : List (Addr × Addr)}
    (KX : K.In s.heap) (hns : s.heap.Ns mainGlobals mg) (hb : s.heap.Ns builtinsNs mb) (hbb : ∀ x : Str, x ≠ "__name__" → mb x = bootBuiltins x) (lim : s.heap.NoLimit) (hg : s.gens = #[])
    (bmain : ∃ (bm : Addr) (ob : Obj), mg "__builtins__" = some (.ref bm) ∧ bm ≠ builtinsNs ∧ s.heap.get? bm = some ob ∧ ob.cls = .type "module" ∧ ob.dict = some builtinsNs ∧ ob.data = .plain)
    (tabs : ∀ p ∈ cs, s.heap.get? p.2 = some tab0) (codes : ∀ p ∈ cs, PySem.W.CodeHd s.heap p.1 p.2) (noT : PySem.W.noTabs K = true)
    (ha : s.heap.get? a = some { cls := .type "list", data := .seq vs.toArray }) (hi : IntsAre vs ns) (hl : ns.length ≤ sizeLine) (hr : Room k callerA)
    (F : ∀ base : Heap, K.In base → base.Ns mainGlobals mg → (∀ p ∈ cs, TabB base mg p.1 p.2) → GOk P w K mg base CX0 k fa fd [x] sp) (bnd : ∀ (s : Shared) (u : Value), BindsTo s fd ⟨[u], []⟩ [(x, u)])
    (hsp : ∀ H : Hp, (∀ p ∈ cs, H p.2 = some (.tbl #[])) → SqL K H a (ns.map V.int) → sp [.ref a] H (fun v _ => v = .bl true) fun _ _ _ => False) :
    codeAny (model P w) callerA (.call (.ref fa) ⟨[.ref a], []⟩) (fun r s1 => r = .ok (.ret (.bool true)) ∧ OldK s.heap s1.heap ∧ s1.os = s.os ∧ AllBare s1.gens) s := by
  have rv := vals_ints hi
  let ob : Obj := { cls := .type "list", data := .seq vs.toArray }
  have aT : a ∉ cs.map (·.2) := fun z => by
    obtain ⟨p, hp, e⟩ := List.mem_map.mp z
    have := (tabs p hp).symm.trans (e ▸ ha)
    cases this
  have ofT : ∀ b ∈ cs.map (·.2), s.heap.get? b = some tab0 := fun b hb => by
    obtain ⟨p, hp, rfl⟩ := List.mem_map.mp hb
    exact tabs p hp
  have KT : ∀ b ∈ cs.map (·.2), K.lookup b = none := fun b hb => by
    cases q : K.lookup b with
    | none => rfl
    | some o =>
      have e := (KX b o q).symm.trans (ofT b hb)
      cases e
      exact absurd (List.all_eq_true.mp noT _ (PySem.W.mem_of_lookupK q)) Bool.false_ne_true
  obtain ⟨own, hown⟩ : ∃ own : Bool, own = (K.lookup a).isSome := ⟨_, rfl⟩
  generalize hH : seenT a ob ns own (cs.map (·.2)) = H
  have is : ∀ b u, H b = some u → (own = false ∧ b = a ∧ u = .frz ob (.lst (ns.map V.int))) ∨ (b ∈ cs.map (·.2) ∧ u = .tbl #[]) := fun b u e => seenT_is (hH ▸ e)
  have atT : ∀ b ∈ cs.map (·.2), H b = some (.tbl #[]) := fun b m => by
    rw [← hH]
    unfold seenT
    rw [if_neg (fun z : own = false ∧ b = a => aT (z.2 ▸ m)), if_pos m]
  have hS : SqL K H a (ns.map V.int) := by
    cases q : K.lookup a with
    | some o =>
      have e := (KX a o q).symm.trans ha
      cases e
      exact .inr ⟨_, vs.toArray, _, q, rfl, rfl, rfl, by rw [List.size_toArray, hi.length]; exact hl, by simpa using rv⟩
    | none =>
      rw [q] at hown
      refine .inl (.inr ⟨ob, ?_⟩)
      rw [← hH]
      unfold seenT
      rw [if_pos ⟨hown, rfl⟩]
  have hok : HOk P w H s.heap := fun b u e => by
    rcases is b u e with ⟨_, rfl, rfl⟩ | ⟨m, rfl⟩
    · exact ⟨ha, by rw [List.length_map]; exact hl, vs, _, rv, ha⟩
    · exact ofT b m
  -- what is neither a list nor an empty record is not tracked
  have free : ∀ {b : Addr} {o : Obj}, s.heap.get? b = some o → (∀ xs n, o.data ≠ .seq xs n) → o.data ≠ .fields #[] → H b = none := fun {b o} e d1 d2 => by
    cases q : H b with
    | none => rfl
    | some u =>
      rcases is b u q with ⟨_, rfl, _⟩ | ⟨m, _⟩
      · cases e.symm.trans ha
        exact absurd rfl (d1 _ _)
      · cases e.symm.trans (ofT b m)
        exact absurd rfl d2
  have nsB : ∀ {b : Addr} {m : Str → Option Value}, s.heap.Ns b m → (hidT s.heap H).Ns b m := fun {b m} ⟨o, es, ep, e, d, r⟩ =>
    ⟨o, es, ep, hidT_get e (free e (fun _ _ z => by rw [d] at z; cases z) fun z => by rw [d] at z; cases z), d, r⟩
  have inK : K.In (hidT s.heap H) := fun b o e => hidT_get (KX b o e) (by
    cases q : H b with
    | none => rfl
    | some u =>
      rcases is b u q with ⟨z, rfl, _⟩ | ⟨m, _⟩
      · rw [e] at hown
        rw [hown] at z
        cases z
      · rw [KT b m] at e
        cases e)
  have TB : ∀ p ∈ cs, TabB (hidT s.heap H) mg p.1 p.2 := fun p hp => by
    obtain ⟨o, us, file, tf, flags, tg, inF, text, tt, e1, c1, c2, c3, rest⟩ := codes p hp
    obtain ⟨bm, om, b1, b2, b3, b4, b5, b6⟩ := bmain
    obtain ⟨og, eg, pg, g1, g2, _⟩ := id hns
    have pm : bm ≠ p.2 := fun z => by
      have := b3.symm.trans (z ▸ tabs p hp)
      cases this
      cases b6
    have gm : bm ≠ mainGlobals := fun z => by
      rw [z] at b3
      cases b3.symm.trans g1
      cases b6.symm.trans g2
    refine ⟨⟨o, us, file, tf, flags, tg, inF, text, tt, hidT_get e1 (free e1 (fun _ _ z => by rw [c2] at z; cases z) fun z => ?_), c1, c2, c3, rest⟩, ⟨bm, om, b1, b2, gm, pm, hidT_get b3 (free b3 (fun _ _ z => by rw [b6] at z; cases z) fun z => by rw [b6] at z; cases z), b4, b5, b6⟩, fun z => ?_⟩
    · rw [c2] at z
      cases z
      simp at c3
    · have := g1.symm.trans (z ▸ tabs p hp)
      cases this
      cases g2
  obtain ⟨mc, l1, l2⟩ := lim
  have e0 : Env0 P w K mg (hidT s.heap H) callerA [] s H :=
    { frames := rfl, mod := ⟨inK, nsB hns, ⟨mb, nsB hb, hbb⟩, ⟨mc, nsB l1, l2⟩⟩, bs := fun b o e => of_hidT e, bsz := Nat.le_of_eq (hidT_size _ _), funs := trivial, frf := fun b z => absurd (show b ∈ ([] : List Addr) from z) List.not_mem_nil, hok := hok, bare := .of_eq hg }
  refine codeAny_mono ((F _ inK (nsB hns) TB).go callerA [] s H ⟨[.ref a], []⟩ [.ref a] [.ref a] _ _ rfl hr e0 (bnd s (.ref a)) (.cons rfl .nil) (hsp H (fun p hp => atT _ (List.mem_map.mpr ⟨p, hp, rfl⟩)) hS)) fun r s1 z => ?_
  match r, z with
  | .error e, z => exact z.elim
  | .ok .next, z => exact z.elim
  | .ok .brk, z => exact z.elim
  | .ok .cont, z => exact z.elim
  | .ok (.ret u), z =>
    obtain ⟨v, H1, os, bare, un, hok1, r1, q⟩ := z
    subst q
    obtain rfl : u = Value.bool true := r1
    have stay : ∀ b o, b ∉ cs.map (·.2) → s.heap.get? b = some o → s1.heap.get? b = some o := fun b o nb e => by
      cases q : H b with
      | none => exact un.keep b o e q (fun z => absurd (show b ∈ ([] : List Addr) from z) List.not_mem_nil) List.not_mem_nil
      | some u =>
        rcases is b u q with ⟨_, rfl, rfl⟩ | ⟨m, _⟩
        · obtain ⟨e1, _⟩ := hok _ _ q
          obtain ⟨e2, _⟩ := hok1 _ _ (un.frzs _ _ _ q)
          cases e.symm.trans e1
          exact e2
        · exact absurd m nb
    have grown : ∀ p ∈ cs, ∃ more : Array Value, s1.heap.get? p.2 = some { cls := .none, data := .fields more } := fun p hp => by
      obtain ⟨more, q⟩ := un.tbls p.2 #[] (atT _ (List.mem_map.mpr ⟨p, hp, rfl⟩))
      exact ⟨_, hok1 p.2 _ q⟩
    refine ⟨rfl, ⟨fun b o e => ?_, fun b o e => ?_⟩, os, bare⟩
    · by_cases m : b ∈ cs.map (·.2)
      · obtain ⟨p, hp, rfl⟩ := List.mem_map.mp m
        obtain ⟨more, q⟩ := grown p hp
        cases e.symm.trans (tabs p hp)
        exact .inr (.inl ⟨((codes p hp).tab (tabs p hp)).isCodeTable, rfl, #[], more, rfl, by rw [Array.empty_append]; exact q⟩)
      · exact .inl (stay b o m e)
    · by_cases m : b ∈ cs.map (·.2)
      · obtain ⟨p, hp, rfl⟩ := List.mem_map.mp m
        obtain ⟨more, q⟩ := grown p hp
        exact ⟨_, q⟩
      · exact ⟨o, stay b o m e⟩
/-- the def's code object and its table, by the top -/
theorem tab_at {p : Program} {h : Heap} {K : PySem.W.Frag} {mg : Str → Option Value} {x : Str} {f : Addr} {oc : Value} {od : Option Addr} {fd : FuncData} {sl : Array (Option Value)}
    (tab : ∀ d ∈ recsOf p, ∃ a o fd c P, mg d.name = some (.ref a) ∧ h.get? a = some o ∧ o.data = .func fd ∧ fd.code = .ref c ∧ h.IsCode c P #[] ∧ h.TableAt c P #[]) (X : K.In h) (hx : ((recsOf p).any fun d => d.name == x) = true) (hm : mg x = some (.ref f))
    (lk : K.lookup f = some ⟨oc, od, .func fd, sl⟩) : ∃ c P, fd.code = .ref c ∧ PySem.W.CodeHd h c P ∧ h.get? P = some tab0 := by
  obtain ⟨d, hd, e⟩ := List.any_eq_true.mp hx
  obtain rfl : d.name = x := beq_iff_eq.mp e
  obtain ⟨a, o, fd2, c, P, h1, h2, h3, h4, h5, h6⟩ := tab d hd
  cases hm.symm.trans h1
  cases h2.symm.trans (X _ _ lk)
  cases h3
  exact ⟨c, P, h4, PySem.W.CodeHd.of h5 h6, h6.2⟩
theorem walk_gT {l : PySem.W.OpenLaw} {n k : Nat} {q : Program} {loose : List Str} {XP : (Str → Option Value) → Heap → Prop} {YP : World → Heap → Prop} {d : DefRec} {K : Params → PySem.W.Frag} {x : Str}
    (hn : l.most = some n) (hn2 : n ≤ sizeLine) (hdf : d.params.defaults = []) (hr : Room k callerA) (hY : ∀ (w : World) (h : Heap), YP w h → (K w.params).In h) (noT : ∀ w : World, PySem.W.noTabs (K w.params) = true)
    (F : ∀ (w : World) (mg : Str → Option Value) (fa : Addr) (h : Heap), (K w.params).In h → h.Ns mainGlobals mg → mg d.name = some (.ref fa) →
      (∀ d ∈ recsOf q, ∃ a o fd c P, mg d.name = some (.ref a) ∧ h.get? a = some o ∧ o.data = .func fd ∧ fd.code = .ref c ∧ h.IsCode c P #[] ∧ h.TableAt c P #[]) →
      ∃ (fd : FuncData) (cs : List (Addr × Addr)) (sp : Sp), (∀ p ∈ cs, PySem.W.CodeHd h p.1 p.2 ∧ h.get? p.2 = some tab0) ∧ (∀ (s : Shared) (u : Value), BindsTo s fd ⟨[u], []⟩ [(x, u)]) ∧
        (∀ (H : Hp) (a : Addr) (ns : List Int), ns.length ≤ n → (∀ p ∈ cs, H p.2 = some (.tbl #[])) → SqL (K w.params) H a (ns.map V.int) → sp [.ref a] H (fun v _ => v = .bl true) fun _ _ _ => False) ∧
        ∀ base : Heap, (K w.params).In base → base.Ns mainGlobals mg → (∀ p ∈ cs, TabB base mg p.1 p.2) → GOk l.prog w (K w.params) mg base CX0 k fa fd [x] sp) :
    PySem.W.WalkO q loose XP YP l.row.toRowW d [] (fun f vs => PySem.call f vs) :=
  Att.attach_call hn hdf fun w s₀ s₁ mg mb fa o pm cd doc a vs ns G Y ho hd hcd hmg hobj hints hlen hg => by
    obtain ⟨fd, cs, sp, ht, hb, hsp, hF⟩ := F w mg fa _ (hY w _ Y) G.T.g hmg G.T.tab
    exact run_lawT (hY w _ Y) G.T.g G.T.b G.T.builtins G.T.nolimit hg G.T.bmain (fun p hp => (ht p hp).2) (fun p hp => (ht p hp).1) (noT w) hobj hints (Nat.le_trans hlen hn2) hr hF hb fun H hT hS => hsp H a ns hlen hT hS
end TT

set_option Elab.async false
set_option linter.all false
set_option maxRecDepth 100000
set_option maxHeartbeats 4000000
/-! list(range(a, b)) with ends of any size. -/
namespace TT
open PySem PySem.Spec PyProof.Rows L2
section
variable {prog : Program} {w : World} {A : Around} {E : Value → Shared → Prop} {s : Shared}
/-- the list at S takes what the range at r yields, by the iterator for great ends -/
theorem take_long {R : Result → Shared → Prop} {r S : Addr} {a b c : Int} {t u v : Tok} {n k0 : Nat} {res : Value} (hh : A.handled = none) (hr : IsRange s.heap r a b c t u v) (big : Builtin.Range.small a b c = false) (hn : Builtin.Range.rangeSize a b c = n) (hl : n ≤ 2 ^ 24)
    (hS : s.heap.get? S = some { cls := .type "list", data := .seq #[] k0 })
    (done : ∀ h' tk its k, (∀ x o, x ≠ S → s.heap.get? x = some o → h'.get? x = some o) → h'.get? S = some { cls := .type "list", dict := none, data := .seq its k, slots := #[] } → ItemsOf (fun i y => ∃ t, y = .int (a + i * c) t) its n → R (.ok (.ret res)) { s with heap := h', toks := tk }) :
    wpAny (model prog w) A.in1 (Builtin.List.listExtendWith (.ref S) (.ref r) res)
      (fun fin s1 => match fin with | .done f => R (.ok f) s1 | .again c1 => c1.quiet = true ∧ codeAny (model prog w) A c1 R s1) (fun e s1 => R (.error e) s1) s := by
  have apart : S ≠ r := by
    rintro rfl
    have z := congrArg (fun o => o.map Obj.cls) (hr.symm.trans hS)
    simp at z
  have below : S < s.heap.objs.size := Heap.lt_size hS
  have notI : S ≠ s.heap.objs.size := Nat.ne_of_lt below
  have walk := (Walks.longrange (prog := prog) (w := w) (A := A.in1) hh s.heap.objs.size a c n).toS
  have loop : ∀ (h : Heap) (k tk : Nat), IsLongIter h s.heap.objs.size (a + ((0 : Nat) : Int) * c) ((n : Int) - ((0 : Nat) : Int)) c → (∀ x o, x ≠ S → s.heap.get? x = some o → h.get? x = some o) →
      h.get? S = some { cls := .type "list", data := .seq #[] k } → codeAny (model prog w) A (.builtin "list.extend.loop" ⟨[.ref S, .ref s.heap.objs.size, res], []⟩) R { s with heap := h, toks := tk } := fun h k tk it old atS => by
    refine codeAny_extend_loopS walk (by rw [sizeLine_eq]; omega) S (fun m => notI (List.mem_singleton.mp m)) res n 0 _ #[] k rfl (Nat.zero_le _) it atS (ItemsOf.nil _) fun s1 its k1 mv at1 all => ?_
    rw [Moved.eq_with mv]
    refine done s1.heap s1.toks its k1 (fun x o nx e => mv.heap x o (fun m => ?_) (old x o nx e)) at1 all
    rcases List.mem_cons.mp m with z | z
    · exact nx z
    · have lt := Heap.lt_size e
      rw [List.mem_singleton.mp z] at lt
      exact Nat.lt_irrefl _ lt
  have n1 : Builtin.List.listSameRef (.ref S) (.ref r) = false := by simp [Builtin.List.listSameRef, apart]
  have n2 : (Value.type "range" == Value.type "list") = false := by decide
  have n3 : (Value.type "range" == Value.type "tuple") = false := by decide
  unfold Builtin.List.listExtendWith
  refine wpAny_bind (wpAny_typeOf (T := "range") ⟨_, hr, rfl⟩ ?_)
  simp only [n1, n2, n3, Bool.or_false, Bool.false_eq_true, if_false]
  refine wpAny_bind (wpAny_pyIter_longrange hr big (wpAny_bind (wpAny_holding (wpAny_hint_range (n := n) (Heap.get?_push_of_some _ hr) hn hl ?_))))
  have it1 : IsLongIter (s.heap.push { cls := .type "longrange_iterator", data := .fields #[rawInt a, rawInt (Builtin.Range.rangeSize a b c), rawInt c] }) s.heap.objs.size (a + ((0 : Nat) : Int) * c) ((n : Int) - ((0 : Nat) : Int)) c := by
    rw [hn]
    simpa using Heap.get?_push_size _ rfl
  have S1 := Heap.get?_push_of_some { cls := .type "longrange_iterator", data := .fields #[rawInt a, rawInt (Builtin.Range.rangeSize a b c), rawInt c] } hS
  refine wpAny_ite_split (fun _ => ?_) (fun _ => wpAny_pure ⟨plainId_quiet F.plain_extend_loop _, loop _ k0 _ it1 (fun _ _ _ e => Heap.get?_push_of_some _ e) S1⟩)
  refine wpAny_bind (wpAny_rule (wpAny_bind ?_))
  show wpAny _ _ (updateSeq S (·.push .none) >>= fun _ => updateSeq S (·.pop)) _ _ _
  have S2 := Heap.get?_update_self (Obj.mapSeq (·.push Value.none)) S1 rfl
  refine wpAny_bind (wpAny_updateSeq S1 rfl (wpAny_updateSeq (hz := by seq_fits) S2 rfl ?_))
  have S3 := Heap.get?_update_self (Obj.mapSeq (·.pop)) S2 rfl
  refine wpAny_pure ⟨plainId_quiet F.plain_extend_loop _, loop _ _ _ ?_ (fun x o nx e => ?_) S3⟩
  · exact (Heap.get?_update_other _ _ notI).trans ((Heap.get?_update_other _ _ notI).trans it1)
  · exact (Heap.get?_update_other _ _ (Ne.symm nx)).trans ((Heap.get?_update_other _ _ (Ne.symm nx)).trans (Heap.get?_push_of_some _ e))
theorem list_long {Q : Value → Shared → Prop} {r : Addr} {a b c : Int} {t u v : Tok} {n : Nat} (hh : A.handled = none) (hr : IsRange s.heap r a b c t u v) (big : Builtin.Range.small a b c = false) (hn : Builtin.Range.rangeSize a b c = n) (hl : n ≤ 2 ^ 24)
    (done : ∀ h' tk its k, (∀ x o, s.heap.get? x = some o → h'.get? x = some o) → h'.get? s.heap.objs.size = some { cls := .type "list", dict := none, data := .seq its k, slots := #[] } → ItemsOf (fun i y => ∃ t, y = .int (a + i * c) t) its n → Q (.ref s.heap.objs.size) { s with heap := h', toks := tk }) :
    wpAny (model prog w) A (call (.type "list") [.ref r]) Q E s := by
  refine callType_codes (Q₁ := fun obj s1 => obj = .ref s.heap.objs.size ∧ s1 = { s with heap := s.heap.push { cls := .type "list", data := .seq #[] } }) F.called_list (F.typeCall_list_1 _) F.entry_list_init (code_list_new _ ⟨rfl, rfl⟩) fun obj s1 ⟨e1, e2⟩ => ?_
  subst e1 e2
  have S0 : (s.heap.push { cls := .type "list", data := .seq #[] }).get? s.heap.objs.size = some { cls := .type "list", data := .seq #[] } := Heap.get?_push_size _ rfl
  have r0 := Heap.get?_push_of_some { cls := .type "list", data := .seq #[] } hr
  refine ⟨⟨_, S0, rfl⟩, F.args_list_init_2 _ _, ?_⟩
  have apart : r ≠ s.heap.objs.size := Nat.ne_of_lt (Heap.lt_size hr)
  show wpAny _ _ (do let old ← Builtin.List.listItems (.ref s.heap.objs.size); Builtin.List.listUpdate (.ref s.heap.objs.size) (fun _ => #[]); letGo old.toList.reverse; Builtin.List.listExtendWith (.ref s.heap.objs.size) (.ref r) .none) _ _ _
  refine wpAny_bind ?_
  unfold Builtin.List.listItems
  refine wpAny_bind (wpAny_seqItems S0 rfl (wpAny_pure ?_))
  show wpAny _ _ (updateSeq s.heap.objs.size (fun _ => #[]) >>= fun _ => letGo (#[] : Array Value).toList.reverse >>= fun _ => Builtin.List.listExtendWith (.ref s.heap.objs.size) (.ref r) .none) _ _ _
  refine wpAny_bind (wpAny_updateSeq S0 rfl (wpAny_bind (wpAny_letGo ?_)))
  have off : ∀ {x : Addr} {f : Obj → Obj}, x ≠ s.heap.objs.size → ((s.heap.push { cls := .type "list", data := .seq #[] }).update s.heap.objs.size f).get? x = (s.heap.push { cls := .type "list", data := .seq #[] }).get? x := fun nx => Heap.get?_update_other _ _ (Ne.symm nx)
  refine take_long (A := A.in1) (s := { s with heap := (s.heap.push { cls := .type "list", data := .seq #[] }).update s.heap.objs.size (Obj.mapSeq (fun _ => (#[] : Array Value))) }) (S := s.heap.objs.size) hh ((off apart).trans r0) big hn hl (Heap.get?_update_self (Obj.mapSeq (fun _ => (#[] : Array Value))) S0 rfl) fun h' tk its k old at1 all => ?_
  refine ⟨rfl, done h' tk its k (fun x o e => ?_) at1 all⟩
  have nx := Nat.ne_of_lt (Heap.lt_size e)
  exact old x o nx ((off nx).trans (Heap.get?_push_of_some _ e))
end
section
variable {X : Cx} {e : Expr} {te : L2.St → Hp → (Int → Int → Hp → Prop) → Prop}
def tLstRgW (te : L2.St → Hp → (Int → Int → Hp → Prop) → Prop) : TE := fun σ H Q => te σ H fun a b H1 => (b - a).toNat ≤ 2 ^ 24 ∧ ∀ q, H1 q = none → Q (.ref q) (upd H1 q (.lst (rgV a b)))
theorem pe_listRgW {p pos : Pos} (hc : X.calm = true) (hg : Gl X "list") (hm : X.mg "list" = none) (he : PRg X e te) (na : starEach [e] X.env = (false, eval e X.env) :: starEach [] X.env := by rfl) : PE X (.Call (.Name "list" p) [e] [] pos) (tLstRgW te) := by
  constructor
  intro pins s σ H Q I h
  refine Call_ (ld_blt I hg hm boot_list (PyProof.Rows.callWith_type1 (args_cons (thn (he pins s σ H _ I h) fun x s1 ⟨r, a, b, t, u, v, H1, ex, hr, I1, ok, q⟩ => args_nil ?_) na) na))
  subst ex
  have fin : ∀ h' tk its k, (∀ x o, s1.heap.get? x = some o → h'.get? x = some o) → h'.get? s1.heap.objs.size = some { cls := .type "list", dict := none, data := .seq its k, slots := #[] } → ItemsOf (fun i y => ∃ t, y = .int (a + i * 1) t) its (b - a).toNat →
      EP X pins σ Q (.ref s1.heap.objs.size) { s1 with heap := h', toks := tk } := fun h' tk its k old at1 all => by
    refine ⟨.ref s1.heap.objs.size, upd H1 s1.heap.objs.size (.lst (rgV a b)), I1.laid old (Nat.le_refl _) (show ObjOk X.prog X.w _ _ _ (.lst (rgV a b)) from ⟨?_, its.toList, k, vals_rg all, ?_⟩), rfl, q _ (I1.hok.fresh (Nat.le_refl _))⟩
    · rw [rgV_length, sizeLine_eq]
      omega
    · rw [Array.toArray_toList]
      exact at1
  by_cases sm : Builtin.Range.small a b 1 = true
  · exact call_list_range (I1.ok.hd hc) hr sm (rangeSize_nat a b) ok fin
  · exact list_long (I1.ok.hd hc) hr (by simpa using sm) (rangeSize_nat a b) ok fin
end
end TT

set_option Elab.async false
set_option linter.all false
set_option maxRecDepth 100000
set_option maxHeartbeats 4000000
/-! An own operation of two things of one own class. -/
namespace TT
open PySem PySem.Spec PyProof.Rows L2 LamX
/-- x op y, both instances of the class at C; what comes out is a thing -/
def rBinO (C : Addr) (sp : Sp) (E : XK) : R2 := fun x y H Q => ∃ a b, x = V.ref a ∧ y = V.ref b ∧ (∃ dx fs, H a = some (.ins C dx fs)) ∧ (∃ dx fs, H b = some (.ins C dx fs)) ∧ sp [.ref a, .ref b] H (fun v H' => (∃ c, v = V.ref c) ∧ Q v H') E
section
variable {X : Cx} {CX : CXT} {k : Nat} {f C : Addr} {fd : FuncData} {ps : List Str} {sp : Sp} {E : XK}
theorem op_binO {op : Operator} (F : FnOk X.prog X.w X.K X.mg X.base CX k f fd ps sp) (hr : Room k X.A) (hb : Binds X.K fd ps []) (hx : Passes CX X E) (hc : PySem.W.selfFirst X.K C = true)
    (hs : PySem.W.findIn X.K (.ref C) (PySem.dunder op.info.2) = some (some (.ref f))) (hf : PySem.W.isFn X.K (.ref f) = true) : OpR X (binaryOp op) (rBinO C sp E) := by
  intro pins s σ H x y v u Q I rx ry h
  obtain ⟨a, b, rfl, rfl, ⟨dx, fs, ha⟩, ⟨dy, gs, hb'⟩, hq⟩ := h
  obtain rfl : v = Value.ref a := rx
  obtain rfl : u = Value.ref b := ry
  obtain ⟨mA, O, _⟩ := ins_get I.hok ha
  obtain ⟨od, J, _⟩ := O.look
  obtain ⟨mB, O', _⟩ := ins_get I.hok hb'
  obtain ⟨od', J', _⟩ := O'.look
  obtain ⟨m, hF⟩ := I.fr
  refine PySem.W.binop_K hF I.ok.mod.kin J J'.type hc hs hf (wpAny_mono (run_fn (us := [.ref a, .ref b]) (vs := [.ref a, .ref b]) (dvs := []) (ds := []) F hr hb .nil hx I (.cons rfl (.cons rfl .nil)) hq) (fun v' s' z => ?_) fun _ _ z => z)
  obtain ⟨w', H', I', r', ⟨c, rfl⟩, q⟩ := z
  obtain rfl : v' = Value.ref c := r'
  exact ⟨.ref c, H', I', rfl, q⟩
end
end TT

set_option Elab.async false
set_option linter.all false
set_option maxRecDepth 100000
set_option maxHeartbeats 4000000
/-! max of a tuple of two ints; != of a list and []. -/
namespace TT
open PySem PySem.Spec PyProof.Rows L2 LamX
section
variable {X : Cx}
def rNeNil (K : PySem.W.Frag) : R2 := fun x y H Q => ∃ a b xs, x = .ref a ∧ y = .ref b ∧ SqL K H a xs ∧ SqL K H b [] ∧ Q (.bl (!xs.isEmpty)) H
theorem op_neNil (hu : X.A.units < cLine) : OpR X (compareOp .NotEq) (rNeNil X.K) := by
  intro pins s σ H x y v u Q I rx ry h
  obtain ⟨a, b, xs, rfl, rfl, ha, hb, q⟩ := h
  obtain rfl : v = Value.ref a := rx
  obtain rfl : u = Value.ref b := ry
  obtain ⟨its, rv, hl, _⟩ := I.list ha
  obtain ⟨its2, rv2, hl2, _⟩ := I.list hb
  cases rv2
  show wpAny (model X.prog X.w) X.A (richCompare .NotEq (.ref a) (.ref b)) (EP X pins σ Q) X.xe s
  cases rv with
  | nil => exact SeqAt.RcNeAt.lists (e := fun _ => true) hl.isList hl2.isList rfl hu (fun j h1 _ => absurd h1 (by simp)) X.prog X.w X.xe _ ⟨.bl false, H, I, rfl, q⟩
  | cons r rs => exact SeqAt.RcNeAt.lists_lengths hl.isList hl2.isList (by simp) hu X.prog X.w X.xe _ ⟨.bl true, H, I, rfl, q⟩
def rMaxT2 (K : PySem.W.Frag) : List V → Hp → VK → Prop := fun vs H Q => ∃ (a : Addr) (i j : Int), vs = [V.ref a] ∧ SqT K H a [.int i, .int j] ∧ Q (.int (if j > i then j else i)) H
theorem cr_maxT2 (hc : X.calm = true) (hu : X.A.units + 64 < cLine) : CallR X (.builtin "max") (rMaxT2 X.K) := by
  intro pins s σ H vs us Q I r h
  obtain ⟨a, i, j, rfl, hs, q⟩ := h
  obtain ⟨its, rv, ht, _⟩ := I.tuple hs
  rw [Vals.ref1 r]
  cases rv with
  | cons r1 rs =>
    cases rs with
    | cons r2 r3 =>
      cases r3
      obtain ⟨t, rfl⟩ := r1
      obtain ⟨t', rfl⟩ := r2
      refine PySem.W.max_tuple_data (x := .int i) (xs := [.int j]) (I.ok.hd hc) ht (.cons (.int i t) (.cons (.int j t') .nil)) ?_ ?_ fun k v h' tk bs hv hr hk => ?_
      · refine ⟨fun x hx y hy => ?_, fun x hx => ?_⟩
        · simp only [List.mem_cons, List.not_mem_nil, or_false] at hx hy
          rcases hx with rfl | rfl <;> rcases hy with rfl | rfl <;> simp [PySem.W.alike]
        · simp only [List.mem_cons, List.not_mem_nil, or_false] at hx
          rcases hx with rfl | rfl <;> simp
      · simp only [PyData.depthAll, PyData.depth]
        omega
      · have e : PySem.W.maxD (.int i) [.int j] = .int (if j > i then j else i) := by
          have := PySem.W.maxD_ints i [j]
          simp only [List.map_cons, List.map_nil, List.foldl_cons, List.foldl_nil] at this
          rw [this]
          congr 1
          rw [Int.max_def]
          split <;> split <;> omega
        rw [e] at hr
        cases hr with
        | int z t => exact ⟨.int _, H, I.kept hk, ⟨_, rfl⟩, q⟩
end
end TT

set_option Elab.async false
set_option linter.all false
set_option maxRecDepth 100000
set_option maxHeartbeats 400000
/-! own ==, with either answer, of a thing and another one or a tuple; != by way of it. -/
namespace TT
open PySem PySem.Spec PyProof.Rows PySem.SeqAt
section
variable {M : Model} {prog : Program} {w : World} {A : Around} {E : Value → Shared → Prop} {s : Shared} {K : PySem.W.Frag} {x C f L : Addr} {ox : Obj} {od : Option Obj} {b tb : Value} {h₀ : Heap} {m : Str → Option Value}
theorem entry_ne {Q : Fin → Shared → Prop} (hu : A.units < cLine) (X : K.In s.heap) (I : PySem.W.InstAt s.heap x ox C od) (hs : PySem.W.findIn K (.ref C) "__eq__" = some (some (.ref f))) (hf : PySem.W.isFn K (.ref f) = true)
    (h : wpAny M A (call (.ref f) [.ref x, b]) (fun v s' => ∃ k, v = .bool k ∧ Q (.done (.ret (.bool (!k)))) s') E s) : wpAny M A (Builtin.«object.__ne__» ⟨[.ref x, b], []⟩) Q E s := by
  unfold Builtin.«object.__ne__»
  repeat (first | with_reducible refine wpAny_cRoomFor hu ?_ | (with_reducible refine PySem.W.ifBound_K X I hs hf (wpAny_mono h (fun v s' z => ?_) fun _ _ e => e); obtain ⟨k, rfl, q⟩ := z) | wp_step)
  exact q
theorem call_objNe {Q : Value → Shared → Prop} (hu : A.units + 1 < cLine) (X : K.In s.heap) (I : PySem.W.InstAt s.heap x ox C od) (hm : PySem.W.mroIn K C (.type "object") = some true) (hs : PySem.W.findIn K (.ref C) "__eq__" = some (some (.ref f))) (hf : PySem.W.isFn K (.ref f) = true)
    (h : wpAny (model prog w) A.in1 (call (.ref f) [.ref x, b]) (fun v s' => ∃ k, v = .bool k ∧ Q (.bool (!k)) s') E s) :
    wpAny (model prog w) A (call (.builtin "object.__ne__") [.ref x, b]) Q E s :=
  wpAny_call (codeAny_call_builtin F.cmp_object.ne.plain F.cmpEntry_ne (PySem.W.check_slot F.cmpKind_ne F.cmpSplit_ne (I.type.andThen (PySem.W.looks_mroIn X hm)) (F.cmpArgs_ne _ _)
    (entry_ne (A := A.in1) hu X I hs hf (wpAny_mono h (fun v s' z => z) fun _ _ e => e))))
theorem ifBound_objNe {args : List Value} {Q : Option Value → Shared → Prop} (X : K.In s.heap) (I : PySem.W.InstAt s.heap x ox C od) (hs : PySem.W.findIn K (.ref C) "__ne__" = some (some (.builtin "object.__ne__")))
    (h : wpAny M A (call (.builtin "object.__ne__") (.ref x :: args)) (fun v => Q (some v)) E s) : wpAny M A (callSpecialIfBound? (.ref x) "__ne__" args) Q E s := by
  simp only [callSpecialIfBound?, bindSpecialIfBound?]
  refine wpAny_holding (wpAny_bind (wpAny_bind (wpAny_bind (I.type.here ((PySem.W.looks_findIn X hs).here ?_)))))
  refine wpAny_bind (wpAny_askSetting (wpAny_ite ?_))
  have fin : wpAny M A (call (.builtin "object.__ne__") ([.ref x] ++ args) >>= fun v => pure (some v)) Q E s := wpAny_bind (wpAny_mono h (fun v s' h' => wpAny_pure h') fun _ _ h' => h')
  split
  · exact wpAny_bind (wpAny_of_eq (F.cmp_object.ne.bind _) (wpAny_pure (by exact fin)))
  · exact wpAny_tryCatch (wpAny_bind (wpAny_of_eq (F.cmp_object.ne.bind _) (wpAny_pure (by exact fin))))
/-- x != b, the class of x having an own == and no own != -/
theorem ne_K {Q : Value → Shared → Prop} (hu : A.units + 1 < cLine) (X : K.In s.heap) (I : PySem.W.InstAt s.heap x ox C od) (hb : PySem.W.Looks (model prog w) s.heap (typeOf b) tb) (hn : PySem.W.notFirst K C tb = true)
    (hm : PySem.W.mroIn K C (.type "object") = some true) (hne : PySem.W.findIn K (.ref C) "__ne__" = some (some (.builtin "object.__ne__"))) (hs : PySem.W.findIn K (.ref C) "__eq__" = some (some (.ref f))) (hf : PySem.W.isFn K (.ref f) = true)
    (h : wpAny (model prog w) A.in1 (call (.ref f) [.ref x, b]) (fun v s' => ∃ k, v = .bool k ∧ Q (.bool (!k)) s') E s) : wpAny (model prog w) A (richCompare .NotEq (.ref x) b) Q E s := by
  have one : wpAny (model prog w) A (tryCompare (.ref x) "__ne__" b) (fun r s' => ∃ v, r = some v ∧ Q v s') E s := by
    unfold tryCompare
    refine wpAny_bind (ifBound_objNe X I hne (wpAny_mono (call_objNe (Q := fun v s' => ∃ k, v = .bool k ∧ Q v s') hu X I hm hs hf (wpAny_mono h (fun v s' ⟨k, e, q⟩ => ⟨k, e, _, rfl, q⟩) fun _ _ e => e)) (fun v s' z => ?_) fun _ _ e => e))
    obtain ⟨k, rfl, q⟩ := z
    exact wpAny_pure ⟨_, rfl, q⟩
  unfold richCompare
  simp only [oneThing_ref]
  refine wpAny_holding (wpAny_bind (wpAny_cRoomFor (by omega) ?_))
  refine wpAny_bind (I.type.here (wpAny_bind (hb.here ?_)))
  split
  · rename_i q
    have e : PySem.W.subIn K tb (.ref C) = some false := by
      rcases Bool.or_eq_true_iff.mp hn with e | e
      · rw [beq_iff_eq.mp e] at q; simp at q
      · exact beq_iff_eq.mp e
    refine wpAny_bind ((PySem.W.looks_subIn X e).here ?_)
    simp only [Bool.false_eq_true, if_false]
    refine wpAny_bind (wpAny_mono one (fun r s' z => ?_) fun _ _ e => e)
    obtain ⟨v, rfl, hq⟩ := z
    exact wpAny_pure hq
  · refine wpAny_bind (wpAny_pure ?_)
    simp only [Bool.false_eq_true, if_false]
    refine wpAny_bind (wpAny_mono one (fun r s' z => ?_) fun _ _ e => e)
    obtain ⟨v, rfl, hq⟩ := z
    exact wpAny_pure hq
end
open L2 LamX
/-- y is an instance of the class at C, or a tuple -/
inductive Oth (C : Addr) (H : Hp) : V → Prop
  | ins {b dy : Addr} {gs : List (Str × V)} (h : H b = some (.ins C dy gs)) : Oth C H (.ref b)
  | tup {b : Addr} {xs : List V} (h : H b = some (.tup xs)) : Oth C H (.ref b)
/-- x == y by the own __eq__, which answers by a bool -/
def rEqO (C : Addr) (sp : Sp) (E : XK) : R2 := fun x y H Q => ∃ a dx fs, x = V.ref a ∧ H a = some (.ins C dx fs) ∧ Oth C H y ∧ sp [.ref a, y] H (fun v H' => (∃ b, v = V.bl b) ∧ Q v H') E
def rNeO (C : Addr) (sp : Sp) (E : XK) : R2 := fun x y H Q => ∃ a dx fs, x = V.ref a ∧ H a = some (.ins C dx fs) ∧ Oth C H y ∧ sp [.ref a, y] H (fun v H' => ∃ b, v = V.bl b ∧ Q (.bl (!b)) H') E
section
variable {X : Cx} {CX : CXT} {k : Nat} {f C : Addr} {fd : FuncData} {ps : List Str} {sp : Sp} {E : XK}
theorem oth_type {pins : List (Addr × Obj)} {σ : L2.St} {H : Hp} {s : Shared} {M : Model} (I : Inv X pins σ H s) {y : V} {u : Value} (ry : RelV y u) (o : Oth C H y) (ht : PySem.W.notFirst X.K C (.type "tuple") = true) :
    ∃ tb, PySem.W.Looks M s.heap (typeOf u) tb ∧ PySem.W.notFirst X.K C tb = true := by
  cases o with
  | @ins b dy gs h =>
    obtain rfl : u = Value.ref b := ry
    obtain ⟨mB, O, _⟩ := ins_get I.hok h
    obtain ⟨od, J, _⟩ := O.look
    exact ⟨_, J.type, by simp [PySem.W.notFirst]⟩
  | @tup b xs h =>
    obtain rfl : u = Value.ref b := ry
    obtain ⟨its, _, ⟨o, ho, hc, _⟩, _⟩ := I.tuple (SqT.of h)
    exact ⟨_, hc ▸ (PySem.W.Looks.ld ho).andThen .now, ht⟩
theorem op_eqO (F : FnOk X.prog X.w X.K X.mg X.base CX k f fd ps sp) (hr : Room k X.A) (hb : Binds X.K fd ps []) (hx : Passes CX X E) (ht : PySem.W.notFirst X.K C (.type "tuple") = true)
    (hs : PySem.W.findIn X.K (.ref C) "__eq__" = some (some (.ref f))) (hf : PySem.W.isFn X.K (.ref f) = true) : OpR X (compareOp .Eq) (rEqO C sp E) := by
  intro pins s σ H x y v u Q I rx ry h
  obtain ⟨a, dx, fs, rfl, ha, o, hq⟩ := h
  obtain rfl : v = Value.ref a := rx
  obtain ⟨mA, O, _⟩ := ins_get I.hok ha
  obtain ⟨od, J, _⟩ := O.look
  obtain ⟨m, hF⟩ := I.fr
  obtain ⟨tb, lt, hn⟩ := oth_type (M := model X.prog X.w) I ry o ht
  show wpAny (model X.prog X.w) X.A (richCompare .Eq (.ref a) u) (EP X pins σ Q) X.xe s
  refine PySem.W.cmp_K (op := .Eq) hr.units0 hF I.ok.mod.kin J lt hn hs hf (wpAny_mono (run_fn (us := [.ref a, u]) (vs := [.ref a, y]) (dvs := []) (ds := []) F hr hb .nil hx I (.cons rfl (.cons ry .nil)) hq) (fun v' s' z => ?_) fun _ _ z => z)
  obtain ⟨w', H', I', r', ⟨c, rfl⟩, q⟩ := z
  obtain rfl : v' = Value.bool c := r'
  exact ⟨.bl c, H', I', rfl, q⟩
theorem op_neO (F : FnOk X.prog X.w X.K X.mg X.base CX k f fd ps sp) (hr : Room k X.A.in1) (hu : X.A.units + 64 < cLine) (hb : Binds X.K fd ps []) (hx : Passes CX X E) (ht : PySem.W.notFirst X.K C (.type "tuple") = true)
    (hm : PySem.W.mroIn X.K C (.type "object") = some true) (hne : PySem.W.findIn X.K (.ref C) "__ne__" = some (some (.builtin "object.__ne__")))
    (hs : PySem.W.findIn X.K (.ref C) "__eq__" = some (some (.ref f))) (hf : PySem.W.isFn X.K (.ref f) = true) : OpR X (compareOp .NotEq) (rNeO C sp E) := by
  intro pins s σ H x y v u Q I rx ry h
  obtain ⟨a, dx, fs, rfl, ha, o, hq⟩ := h
  obtain rfl : v = Value.ref a := rx
  obtain ⟨mA, O, _⟩ := ins_get I.hok ha
  obtain ⟨od, J, _⟩ := O.look
  obtain ⟨tb, lt, hn⟩ := oth_type (M := model X.prog X.w) I ry o ht
  show wpAny (model X.prog X.w) X.A (richCompare .NotEq (.ref a) u) (EP X pins σ Q) X.xe s
  refine ne_K (by omega) I.kIn J lt hn hm hne hs hf ?_
  have e0 : Env0 X.prog X.w X.K X.mg X.base X.A.in1 X.stack s H := by
    have e := I.env0
    exact ⟨e.frames, e.mod, e.bs, e.bsz, e.funs, e.frf, e.hok, e.bare⟩
  have hl := F.len _ _ _ _ hq
  have r2 : Vals [V.ref a, y] [Value.ref a, u] := .cons rfl (.cons ry .nil)
  refine wpAny_call (codeAny_mono (F.run X.A.in1 X.stack s H ⟨[.ref a, u], []⟩ [.ref a, u] [.ref a, y] _ E hr e0 (by
    have := hb s [.ref a, u] I.kIn (by simpa using hl)
    simpa using this) r2 hq) fun r s' hq => ?_)
  cases r with
  | error e => exact hx pins σ H s e s' I hq
  | ok fl =>
    cases fl with
    | ret w =>
      obtain ⟨z, H', I', rz, ⟨c, ez, q⟩⟩ := I.after hq
      subst ez
      obtain rfl : w = Value.bool c := rz
      exact ⟨c, rfl, .bl (!c), H', I', rfl, q⟩
    | next => exact False.elim hq
    | brk => exact False.elim hq
    | cont => exact False.elim hq
end
end TT

set_option Elab.async false
set_option linter.all false
set_option maxRecDepth 100000
set_option maxHeartbeats 4000000
/-! An own operation whose right side is any value of a built-in type. -/
namespace TT
open PySem PySem.Spec PyProof.Rows
section
variable {pr : Program} {wd : World} {ar : Around} {er : Value → Shared → Prop} {st : Shared} {K : PySem.W.Frag} {x C L f : Addr} {ob : Obj} {xd : Option Obj} {y : Value} {T : String} {hb : Heap} {mm : Str → Option Value}
theorem own_op {op : Operator} {fo ro : Option Value} {Q : Value → Shared → Prop} (F : Fr hb L st.heap mm) (KI : K.In hb) (J : PySem.W.InstAt st.heap x ob C xd) (ty : PySem.W.Looks (model pr wd) st.heap (typeOf y) (.type T)) (first : PySem.W.selfFirst K C = true)
    (own : PySem.W.findIn K (.ref C) (PySem.dunder op.info.2) = some (some (.ref f))) (fn : PySem.W.isFn K (.ref f) = true) (noR : PySem.W.findIn K (.ref C) (dunderR op.info.2) = some none)
    (left : PySem.W.findIn K (.type T) (PySem.dunder op.info.2) = some fo) (right : PySem.W.findIn K (.type T) (dunderR op.info.2) = some ro) (apart : PySem.W.subIn K (.type T) (.ref C) = some false)
    (go : wpAny (model pr wd) ar (call (.ref f) [.ref x, y]) (PySem.W.CmpBack Q) er st) : wpAny (model pr wd) ar (binaryOp op (.ref x) y) Q er st := by
  have KS := KI.keeps F.keep
  obtain ⟨cd, mr, c1, c2⟩ := PySem.W.ksp_first first
  rcases ei : op.info with ⟨sym, nm⟩
  rw [ei] at own noR left right
  dsimp only at own noR left right
  have try1 := PySem.W.ksp_try KS J own fn go
  obtain ⟨hp, g, d, tk, os⟩ := st
  have l1 : PySem.W.Looks (model pr wd) hp (typeOf (.ref x)) (.ref C) := J.type
  have l2 : PySem.W.Looks (model pr wd) hp (typeOf y) (.type T) := ty
  have l3 : PySem.W.Looks (model pr wd) hp (fillsNumberSlot (.ref C) nm) true := PySem.W.fills_K KS c1 c2 own
  have l4 : PySem.W.Looks (model pr wd) hp (fillsNumberSlot (.type T) nm) _ := PySem.W.ksp_fillsT KS left right
  have l5 : PySem.W.Looks (model pr wd) hp (isSubtype (.type T) (.ref C)) false := PySem.W.looks_subIn KS apart
  have l6 : PySem.W.Looks (model pr wd) hp (numberSlotInPython (.ref C) nm) true := PySem.W.ksp_inPy KS own noR (.inl rfl)
  have l7 : PySem.W.Looks (model pr wd) hp (numberSlotInPython (.type T) nm) false := PySem.W.Looks.of_pure rfl
  have l8 : PySem.W.Looks (model pr wd) hp (typeLookup (.type T) (dunderR nm)) ro := PySem.W.looks_findIn KS right
  generalize ((fo.isSome && !isSeqSlot fo) || (ro.isSome && !isSeqSlot ro)) = rs at l4
  have ne : (Value.ref C == Value.type T) = false := Bool.eq_false_iff.mpr fun z => by cases beq_iff_eq.mp z
  simp only [binaryOp, ei]
  refine wpAny_holding (wpAny_bind ?_)
  unfold binaryOp1
  refine wpAny_bind (l1.at (wpAny_bind (l2.at (wpAny_bind (l3.at ?_)))))
  simp only [ne, Bool.false_eq_true, if_false]
  cases rs
  all_goals
    ksp_lk
    refine wpAny_mono try1 (fun r s' z => ?_) fun _ _ z => z
    obtain ⟨v, rfl, q⟩ := z
    ksp_lk
    exact q
end
open L2 LamX
/-- the built-in type of a value, by its name -/
inductive Ty (H : Hp) : V → String → Prop
  | non : Ty H .non "NoneType"
  | bl (b : Bool) : Ty H (.bl b) "bool"
  | int (i : Int) : Ty H (.int i) "int"
  | str (x : Str) : Ty H (.str x) "str"
  | tup {a : Addr} {xs : List V} (h : H a = some (.tup xs)) : Ty H (.ref a) "tuple"
  | lst {a : Addr} {xs : List V} (h : H a = some (.lst xs)) : Ty H (.ref a) "list"
  | dK {a : Addr} {kvs : List (Key × V)} (h : H a = some (.dK kvs)) : Ty H (.ref a) "dict"
/-- what the operation's rule asks of that type -/
def RightT (K : PySem.W.Frag) (op : Operator) (C : Addr) (T : String) : Prop := ∃ fo ro, PySem.W.findIn K (.type T) (PySem.dunder op.info.2) = some fo ∧ PySem.W.findIn K (.type T) (dunderR op.info.2) = some ro ∧ PySem.W.subIn K (.type T) (.ref C) = some false
/-- x op y, x an instance of the class at C, y of a built-in type; what comes out is a thing -/
def rBinV (K : PySem.W.Frag) (op : Operator) (C : Addr) (sp : Sp) (E : XK) : R2 := fun x y H Q => ∃ a dx fs T, x = V.ref a ∧ H a = some (.ins C dx fs) ∧ Ty H y T ∧ RightT K op C T ∧ sp [.ref a, y] H (fun v H' => (∃ c, v = V.ref c) ∧ Q v H') E
section
variable {X : Cx} {CX : CXT} {k : Nat} {f C : Addr} {fd : FuncData} {ps : List Str} {sp : Sp} {E : XK}
theorem Ty.looks {M : Model} {pins : List (Addr × Obj)} {σ : L2.St} {H : Hp} {s : Shared} {y : V} {u : Value} {T : String} (I : Inv X pins σ H s) (ry : RelV y u) (t : Ty H y T) : PySem.W.Looks M s.heap (typeOf u) (.type T) := by
  cases t with
  | non =>
    obtain rfl : u = Value.none := ry
    exact PySem.W.Looks.of_pure rfl
  | bl b =>
    obtain rfl : u = Value.bool b := ry
    exact PySem.W.Looks.of_pure rfl
  | int i =>
    obtain ⟨t, rfl⟩ := (show ∃ t, u = Value.int i t from ry)
    exact PySem.W.Looks.of_pure rfl
  | str x =>
    obtain ⟨t, rfl⟩ := (show ∃ t, u = Value.str x t from ry)
    exact PySem.W.Looks.of_pure rfl
  | @tup a xs h =>
    obtain rfl : u = Value.ref a := ry
    obtain ⟨its, _, ⟨o, ho, hc, _⟩, _⟩ := I.tuple (SqT.of h)
    exact hc ▸ (PySem.W.Looks.ld ho).andThen .now
  | @lst a xs h =>
    obtain rfl : u = Value.ref a := ry
    obtain ⟨its, _, ⟨o, _, ho, hc, _⟩, _⟩ := I.list (SqL.of h)
    exact hc ▸ (PySem.W.Looks.ld ho).andThen .now
  | @dK a kvs h =>
    obtain rfl : u = Value.ref a := ry
    have z := I.hok _ _ h
    unfold ObjOk at z
    obtain ⟨_, _, _, _, o, _, _, ho, ex, _⟩ := z
    exact ex.1 ▸ (PySem.W.Looks.ld ho).andThen .now
theorem op_binV {op : Operator} (F : FnOk X.prog X.w X.K X.mg X.base CX k f fd ps sp) (hr : Room k X.A) (hb : Binds X.K fd ps []) (hx : Passes CX X E) (hc : PySem.W.selfFirst X.K C = true)
    (hs : PySem.W.findIn X.K (.ref C) (PySem.dunder op.info.2) = some (some (.ref f))) (hf : PySem.W.isFn X.K (.ref f) = true) (hn : PySem.W.findIn X.K (.ref C) (dunderR op.info.2) = some none) : OpR X (binaryOp op) (rBinV X.K op C sp E) := by
  intro pins s σ H x y v u Q I rx ry h
  obtain ⟨a, dx, fs, T, rfl, ha, ty, ⟨fo, ro, t1, t2, t3⟩, hq⟩ := h
  obtain rfl : v = Value.ref a := rx
  obtain ⟨mA, O, _⟩ := ins_get I.hok ha
  obtain ⟨od, J, _⟩ := O.look
  obtain ⟨m, hF⟩ := I.fr
  refine own_op hF I.ok.mod.kin J (Ty.looks I ry ty) hc hs hf hn t1 t2 t3 (wpAny_mono (run_fn (us := [.ref a, u]) (vs := [.ref a, y]) (dvs := []) (ds := []) F hr hb .nil hx I (.cons rfl (.cons ry .nil)) hq) (fun v' s' z => ?_) fun _ _ z => z)
  obtain ⟨w', H', I', r', ⟨c, rfl⟩, q⟩ := z
  obtain rfl : v' = Value.ref c := r'
  exact ⟨.ref c, H', I', rfl, q⟩
end
end TT

set_option Elab.async false
set_option linter.all false
set_option maxRecDepth 100000
set_option maxHeartbeats 4000000
/-! Texts: numbers read, words joined and split. -/
namespace TT
open PySem PySem.Builtin PySem.Builtin.Str PySem.StrLaws PySem.Spec PyProof.Rows L2 TL
theorem at_zero_iff (x y : Str) : At x y x.length 0 ↔ Txt.startswith x y = true := by
  unfold Txt.startswith
  rw [Bool.and_eq_true, decide_eq_true_eq]
  exact Iff.rfl
theorem starts_one (x : Str) (c : Nat) : Txt.startswith x ⟨#[c]⟩ = ((tl x).head? == some c) := by
  have h := (at_zero_iff x ⟨#[c]⟩).symm.trans (at_iff (x := x) (y := ⟨#[c]⟩) (by simp) 0)
  rw [List.drop_zero] at h
  have e : pre (tl (⟨#[c]⟩ : Str)) (tl x) = ((tl x).head? == some c) := by
    show ((tl x).take 1 == [c]) = _
    cases tl x with
    | nil => simp
    | cons a l => simp
  rw [e] at h
  exact Bool.eq_iff_iff.mpr h
theorem dig_ascii : ∀ c, c < 128 → Unicode.isDigit c = (decide (48 ≤ c) && decide (c ≤ 57)) := by decide +kernel
/-- are these digits, one or more? -/
def allDig (l : List Nat) : Bool := !l.isEmpty && l.all fun c => decide (48 ≤ c) && decide (c ≤ 57)
theorem allDig_iff {l : List Nat} : allDig l = true ↔ l ≠ [] ∧ NumText.AllDigits l := by
  unfold allDig NumText.AllDigits
  simp [List.all_eq_true]
theorem isdigit_ascii (x : Str) (h : Txt.isascii x = true) : Txt.isdigit x = allDig (tl x) := by
  unfold Txt.isascii at h
  unfold Txt.isdigit allDig
  rw [← Array.all_toList] at h ⊢
  have e1 : decide (x.length > 0) = !(tl x).isEmpty := by
    rw [len_tl]
    cases tl x <;> simp
  rw [e1]
  congr 1
  rw [Bool.eq_iff_iff, List.all_eq_true, List.all_eq_true]
  rw [List.all_eq_true] at h
  refine ⟨fun a c hc => ?_, fun a c hc => ?_⟩
  · rw [← dig_ascii c (by simpa using h c hc)]
    exact a c hc
  · rw [dig_ascii c (by simpa using h c hc)]
    exact a c hc
theorem ascii_of {x : Str} (h : allDig (tl x) = true) : Txt.isascii x = true := by
  obtain ⟨_, h⟩ := allDig_iff.mp h
  unfold Txt.isascii
  rw [← Array.all_toList, List.all_eq_true]
  intro c hc
  have := h c hc
  simp
  omega
/-- the digits of a word -/
def digs (w : Str) : List Nat := if (tl w).head? = some 45 then (tl w).drop 1 else tl w
/-- the number that Python writes as this word -/
def numRead (w : Str) : Option Int :=
  if allDig (digs w) = true then
    if (digs w).head? = some 48 ∧ tl w ≠ [48] then none
    else some (if (tl w).head? = some 45 then -((NumText.digitsVal (digs w) : Nat) : Int) else ((NumText.digitsVal (digs w) : Nat) : Int))
  else none
theorem numL_head {n : Nat} (h : 1 ≤ n) : (numL n).head? ≠ some 48 := by
  induction n using Nat.strongRecOn with
  | _ n ih =>
    by_cases c : n < 10
    · rw [numL_lt c]
      simp
      omega
    · rw [numL_step (by omega)]
      have := ih (n / 10) (by omega) (by omega)
      cases e : numL (n / 10) with
      | nil => exact absurd e (numL_ne _)
      | cons a l =>
        rw [e] at this
        simpa using this
theorem numL_not45 (n : Nat) : (numL n).head? ≠ some 45 := by
  cases e : numL n with
  | nil => simp
  | cons a l =>
    have := numL_digits n a (by rw [e]; exact List.mem_cons_self)
    simp
    omega
theorem numL_allDig (n : Nat) : allDig (numL n) = true := allDig_iff.mpr ⟨numL_ne n, numL_digits n⟩
theorem numRead_nat (n : Nat) : numRead (Str.ofString (toString ((n : Nat) : Int))) = some (n : Int) := by
  unfold numRead digs
  rw [tl_num, if_neg (numL_not45 n), numL_allDig, if_pos rfl, if_neg (numL_not45 n), numL_val]
  rw [if_neg]
  rintro ⟨h1, h2⟩
  by_cases c : 1 ≤ n
  · exact numL_head c h1
  · have : n = 0 := by omega
    subst this
    exact h2 (numL_lt (by decide))
theorem numRead_neg {n : Nat} (h : 1 ≤ n) : numRead (Str.ofString "-" ++ Str.ofString (toString ((n : Nat) : Int))) = some (-(n : Int)) := by
  have e : tl (Str.ofString "-" ++ Str.ofString (toString ((n : Nat) : Int))) = 45 :: numL n := by
    rw [tl_append, tl_num] <;> rfl
  unfold numRead digs
  rw [e]
  simp only [List.head?_cons, if_true, List.drop_one, List.tail_cons]
  rw [numL_allDig, if_pos rfl, if_neg (fun z => numL_head h z.1), numL_val]
/-! the digits' value -/
theorem val_zero (l : List Nat) : NumText.digitsVal (48 :: l) = NumText.digitsVal l := rfl
theorem int_zero {d : Str} (h : allDig (tl d) = true) (hl : d.length ≤ 600) : intText? (Str.ofString "0" ++ d) = some ((NumText.digitsVal (tl d) : Nat) : Int) := by
  obtain ⟨h1, h2⟩ := allDig_iff.mp h
  have e : tl (Str.ofString "0" ++ d) = 48 :: tl d := by
    rw [tl_append] <;> rfl
  have z := PySem.intText_digits (x := Str.ofString "0" ++ d) (by
    show NumText.AllDigits (tl _)
    rw [e]
    intro c hc
    rcases List.mem_cons.mp hc with rfl | hc
    · decide
    · exact h2 c hc) (by show tl _ ≠ []; rw [e]; simp) (by rw [len_tl, e, List.length_cons, ← len_tl]; omega)
  rw [show (Str.ofString "0" ++ d).cps.toList = 48 :: tl d from e, val_zero] at z
  exact z
theorem cut_one (w : Str) : tl (cutS w (some 1) none) = (tl w).drop 1 := by
  have hl := len_tl w
  unfold cutS
  show (((tl w).drop (HT.sIx w.length 0 (some 1))).take (HT.sIx w.length w.length none - HT.sIx w.length 0 (some 1))) = _
  have e1 : HT.sIx w.length w.length none = w.length := rfl
  have e2 : HT.sIx w.length 0 (some 1) = min 1 w.length := by
    show (if (1 : Int) < 0 then ((1 : Int) + (w.length : Int)).toNat else min (1 : Int).toNat w.length) = _
    rw [if_neg (by decide)]
    rfl
  rw [e1, e2]
  by_cases c : w.length = 0
  · have : tl w = [] := List.length_eq_zero_iff.mp (by omega)
    rw [this]
    simp
  · have : min 1 w.length = 1 := by omega
    rw [this]
    exact List.take_of_length_le (by rw [List.length_drop]; omega)
theorem str_one (c : Nat) (x : Str) : (tl x = [c]) ↔ x = ⟨#[c]⟩ := ⟨fun h => ext_tl h, fun h => by rw [h]⟩
theorem str_eq_tl {x y : Str} : decide (V.str x = V.str y) = decide (tl x = tl y) := by
  by_cases c : x = y
  · subst c
    simp
  · rw [decide_eq_false (fun z => c (V.str.inj z)), decide_eq_false (fun z => c (ext_tl z))]
/-! words -/
theorem tl_str (s : String) : tl (Str.ofString s) = s.toList.map Char.toNat := by
  rw [Str.ofString_eq_toList]
theorem blank_free {n : Nat} : 32 ∉ numL n := numL_free (.inl (by decide))
end TT

set_option Elab.async false
set_option linter.all false
set_option maxRecDepth 100000
set_option maxHeartbeats 4000000
/-! A static method called by way of its class. -/
namespace TT
open PySem PySem.Spec PyProof.Rows L2 LamX
/-- C.m is a static method: its record at p, its def at g -/
structure CSta (K : PySem.W.Frag) (C : Addr) (mc : Value) (m : Str) (p g : Addr) : Prop where
  found : PySem.W.findCls K (.ref C) mc m = some (.get (.builtin "staticmethod.__get__") (.ref p) .none (.ref C))
  holds : ∃ more, PySem.W.recIn K p "staticmethod" = some (.ref g :: more)
  kept : PySem.W.keepIn K (.ref g) = true
def tStat (C : Addr) (sp : Sp) (E : XK) (to : TE) (ta : TA) : TE := fun σ H Q => to σ H fun x H1 => x = .ref C ∧ ta σ H1 fun vs H2 => sp (vs ++ []) H2 Q E
section
variable {X : Cx} {CX : CXT} {k : Nat} {C p g : Addr} {mc : Value} {fd : FuncData} {ps : List Str} {sp : Sp} {E : XK} {o e : Expr} {es : List Expr} {m : Str} {pos apos : Pos} {to : TE} {ta : TA} {pl : Sem Bool}
theorem sta_attr {pins : List (Addr × Obj)} {σ : L2.St} {H : Hp} {s : Shared} {A : Around} {b : Bool} {ER : Value → Shared → Prop} {Q : Value → Shared → Prop} (I : Inv X pins σ H s) (rd : ClX.CRead X.K C mc) (c : CSta X.K C mc m p g)
    (go : ∀ s1, Inv X pins σ H s1 → Q (.ref g) s1) : wpAny (model X.prog X.w) A (getAttr (.ref C) m b) Q ER s := by
  obtain ⟨more, hp⟩ := c.holds
  refine PySem.W.cls_bind I.kIn rd.rd c.found (wpAny_call ?_)
  exact PySem.W.sm_get (s := { s with toks := s.toks + 1 }) I.kIn hp (PySem.W.handed_on rfl (go _ (I.tok _)))
theorem pe_stat (ho : PE X o to) (rd : ClX.CRead X.K C mc) (c : CSta X.K C mc m p g) (F : FnOk X.prog X.w X.K X.mg X.base CX k g fd ps sp) (hr : Room k X.A) (hb : Binds X.K fd ps []) (hx : Passes CX X E) (ha : PA X (e :: es) ta)
    (star : starEach (e :: es) X.env = (false, eval e X.env) :: starEach es X.env := by rfl) (plain : (backTo pos (starEach es X.env)).any (·.1) = false := by rfl)
    (runs : eval (.Call (.Attribute o m apos) (e :: es) [] pos) X.env = (do
      let w0 ← eval o X.env
      standAt apos.atName
      let (fn, ahead) ← holding [w0] (getMethod w0 m pl)
      callWith pos fn ahead (backTo pos (starEach (e :: es) X.env)) (backToKw pos (keywordEach [] X.env))) := by rfl) :
    PE X (.Call (.Attribute o m apos) (e :: es) [] pos) (tStat C sp E to ta) := by
  constructor
  intro pins s σ H Q I h
  refine PySem.W.methodCall_KW (pl := pl) (thn (ho.run pins s σ H _ I h) fun u s1 z => ?_) runs
  obtain ⟨x, H1, I1, rx, ex, q⟩ := z
  subst ex
  obtain rfl : u = Value.ref C := rx
  refine PySem.W.method_cls I1.kIn rd.ga (sta_attr I1 rd c fun s2 I2 => ?_)
  refine PySem.W.callWith_K (h₀ := X.base) I2.ok.mod.kin c.kept (thn (ha.run pos pins s2 σ H1 _ I2 q) fun us s3 y => ?_) star plain
  obtain ⟨vs, H2, I3, rv, q2⟩ := y
  exact ⟨I3.kIn, run_fn F hr hb .nil hx I3 rv q2⟩
end
end TT

set_option Elab.async false
set_option linter.all false
set_option maxRecDepth 100000
set_option maxHeartbeats 4000000
namespace TT
open PySem PySem.Spec PyProof.Rows L2
def top (i : Nat) : Stmt := PySem.Challenge.pw_turnedtunes_k08_whole_algebra_of_ties.main.body.getD i (.Pass ⟨0, 0, 0, 0⟩)
abbrev s_E_init : Stmt := inClass (top 1) 0
theorem sc_E_init : FnScope ["self", "value"] ["self", "value"] (defScope s_E_init) := ⟨rfl, rfl, rfl, by decide +kernel, rfl, by decide +kernel, by decide +kernel⟩
abbrev s_is_whole : Stmt := top 16
theorem sc_is_whole : FnScope ["value"] ["value"] (defScope s_is_whole) := ⟨rfl, rfl, rfl, by decide +kernel, rfl, by decide +kernel, by decide +kernel⟩
abbrev s_is_from : Stmt := top 17
theorem sc_is_from : FnScope ["value", "least"] ["value", "least"] (defScope s_is_from) := ⟨rfl, rfl, rfl, by decide +kernel, rfl, by decide +kernel, by decide +kernel⟩
abbrev s_is_between : Stmt := top 18
theorem sc_is_between : FnScope ["value", "least", "greatest"] ["value", "least", "greatest"] (defScope s_is_between) := ⟨rfl, rfl, rfl, by decide +kernel, rfl, by decide +kernel, by decide +kernel⟩
abbrev s_written : Stmt := top 19
theorem sc_written : FnScope ["number", "rest", "chunks"] ["number"] (defScope s_written) := ⟨rfl, rfl, rfl, by decide +kernel, rfl, by decide +kernel, by decide +kernel⟩
abbrev s_number_in : Stmt := top 20
theorem sc_number_in : FnScope ["word", "digits", "number"] ["word"] (defScope s_number_in) := ⟨rfl, rfl, rfl, by decide +kernel, rfl, by decide +kernel, by decide +kernel⟩
abbrev s_number_of : Stmt := top 21
theorem sc_number_of : FnScope ["digits", "head", "number", "at"] ["digits"] (defScope s_number_of) := ⟨rfl, rfl, rfl, by decide +kernel, rfl, by decide +kernel, by decide +kernel⟩
abbrev s_T_init : Stmt := inClass (top 23) 0
theorem sc_T_init : FnScope ["self", "first", "second", "length", "amount", "down", "backward", "way", "back"] ["self", "first", "second", "length", "amount", "down", "backward"] (defScope s_T_init) := ⟨rfl, rfl, rfl, by decide +kernel, rfl, by decide +kernel, by decide +kernel⟩
abbrev s_T_of : Stmt := inClass (top 23) 1
theorem sc_T_of : FnScope ["text", "values", "first", "second", "length", "amount", "down", "backward", "tie"] ["text"] (defScope s_T_of) := ⟨rfl, rfl, rfl, by decide +kernel, rfl, by decide +kernel, by decide +kernel⟩
abbrev s_T_part : Stmt := inClass (top 23) 4
theorem sc_T_part : FnScope ["self", "start", "length", "first", "second"] ["self", "start", "length"] (defScope s_T_part) := ⟨rfl, rfl, rfl, by decide +kernel, rfl, by decide +kernel, by decide +kernel⟩
abbrev s_T_invert : Stmt := inClass (top 23) 5
theorem sc_T_invert : FnScope ["self", "amount"] ["self"] (defScope s_T_invert) := ⟨rfl, rfl, rfl, by decide +kernel, rfl, by decide +kernel, by decide +kernel⟩
abbrev s_T_rshift : Stmt := inClass (top 23) 6
theorem sc_T_rshift : FnScope ["self", "other", "start", "end", "ahead"] ["self", "other"] (defScope s_T_rshift) := ⟨rfl, rfl, rfl, by decide +kernel, rfl, by decide +kernel, by decide +kernel⟩
abbrev s_T_mul : Stmt := inClass (top 23) 7
theorem sc_T_mul : FnScope ["self", "other"] ["self", "other"] (defScope s_T_mul) := ⟨rfl, rfl, rfl, by decide +kernel, rfl, by decide +kernel, by decide +kernel⟩
abbrev s_T_eq : Stmt := inClass (top 23) 8
theorem sc_T_eq : FnScope ["self", "other"] ["self", "other"] (defScope s_T_eq) := ⟨rfl, rfl, rfl, by decide +kernel, rfl, by decide +kernel, by decide +kernel⟩
abbrev s_check_parts : Stmt := top 24
theorem sc_check_parts : FnScope ["first", "second", "length"] ["first", "second", "length"] (defScope s_check_parts) := ⟨rfl, rfl, rfl, by decide +kernel, rfl, by decide +kernel, by decide +kernel⟩
abbrev s_check_leading : Stmt := top 25
theorem sc_check_leading : FnScope ["amount", "down", "backward"] ["amount", "down", "backward"] (defScope s_check_leading) := ⟨rfl, rfl, rfl, by decide +kernel, rfl, by decide +kernel, by decide +kernel⟩
abbrev s_values_in : Stmt := top 26
theorem sc_values_in : FnScope ["text", "words", "backward", "numbers", "word"] ["text"] (defScope s_values_in) := ⟨rfl, rfl, rfl, by decide +kernel, rfl, by decide +kernel, by decide +kernel⟩
abbrev s_one_behind_other : Stmt := top 27
theorem sc_one_behind_other : FnScope ["one", "other", "amount"] ["one", "other"] (defScope s_one_behind_other) := ⟨rfl, rfl, rfl, by decide +kernel, rfl, by decide +kernel, by decide +kernel⟩
abbrev s_straight_times : Stmt := top 28
theorem sc_straight_times : FnScope ["tie", "many", "step", "length", "first"] ["tie", "many"] (defScope s_straight_times) := ⟨rfl, rfl, rfl, by decide +kernel, rfl, by decide +kernel, by decide +kernel⟩
abbrev s_backward_times : Stmt := top 29
theorem sc_backward_times : FnScope ["tie", "many", "first", "length"] ["tie", "many"] (defScope s_backward_times) := ⟨rfl, rfl, rfl, by decide +kernel, rfl, by decide +kernel, by decide +kernel⟩
abbrev s_times : Stmt := top 30
theorem sc_times : FnScope ["tie", "many", "first", "second", "length", "odd", "amount"] ["tie", "many", "first", "second", "length"] (defScope s_times) := ⟨rfl, rfl, rfl, by decide +kernel, rfl, by decide +kernel, by decide +kernel⟩
abbrev s_l_pot : Stmt := top 32
theorem sc_l_pot : FnScope ["_law_script", "_law_k", "_law_cell", "_law_own", "_law_small"] ["_law_script", "_law_k"] (defScope s_l_pot) := ⟨rfl, rfl, rfl, by decide +kernel, rfl, by decide +kernel, by decide +kernel⟩
abbrev s_l_take : Stmt := top 33
theorem sc_l_take : FnScope ["_law_pot_here", "_law_under", "_law_digit", "_law_prime", "_law_mixed"] ["_law_pot_here", "_law_under"] (defScope s_l_take) := ⟨rfl, rfl, rfl, by decide +kernel, rfl, by decide +kernel, by decide +kernel⟩
abbrev s_l_of : Stmt := top 34
theorem sc_l_of : FnScope ["_law_pot_here", "_law_some"] ["_law_pot_here", "_law_some"] (defScope s_l_of) := ⟨rfl, rfl, rfl, by decide +kernel, rfl, by decide +kernel, by decide +kernel⟩
abbrev s_l_cells : Stmt := top 35
theorem sc_l_cells : FnScope ["_law_script", "_law_most"] ["_law_script", "_law_most"] (defScope s_l_cells) := ⟨rfl, rfl, rfl, by decide +kernel, rfl, by decide +kernel, by decide +kernel⟩
abbrev s_l_amount : Stmt := top 36
theorem sc_l_amount : FnScope ["_law_pot_here"] ["_law_pot_here"] (defScope s_l_amount) := ⟨rfl, rfl, rfl, by decide +kernel, rfl, by decide +kernel, by decide +kernel⟩
abbrev s_l_row : Stmt := top 37
theorem sc_l_row : FnScope ["_law_pot_here", "_law_size", "_law_length", "_law_first", "_law_second", "_law_amount_here", "_law_is_down", "_law_is_back"] ["_law_pot_here", "_law_size"] (defScope s_l_row) := ⟨rfl, rfl, rfl, by decide +kernel, rfl, by decide +kernel, by decide +kernel⟩
abbrev s_l_far : Stmt := top 38
theorem sc_l_far : FnScope ["_law_row_here", "_law_far_here"] ["_law_row_here", "_law_far_here"] (defScope s_l_far) := ⟨rfl, rfl, rfl, by decide +kernel, rfl, by decide +kernel, by decide +kernel⟩
abbrev s_l_tie : Stmt := top 39
theorem sc_l_tie : FnScope ["_law_row_here"] ["_law_row_here"] (defScope s_l_tie) := ⟨rfl, rfl, rfl, by decide +kernel, rfl, by decide +kernel, by decide +kernel⟩
abbrev s_l_or_none : Stmt := top 40
theorem sc_l_or_none : FnScope ["_law_look", "_law_turned"] ["_law_look"] (defScope s_l_or_none) := ⟨rfl, rfl, rfl, by decide +kernel, rfl, by decide +kernel, by decide +kernel⟩
abbrev s_l_right : Stmt := top 41
theorem sc_l_right : FnScope ["_law_pot_here", "_law_size", "_law_far_here", "_law_one", "_law_other", "_law_third", "_law_both", "_law_turned", "_law_left", "_law_right_here", "_law_start", "_law_piece", "_law_few", "_law_more", "_law_mine", "_law_its", "_law_lap"] ["_law_pot_here"] (defScope s_l_right) := ⟨rfl, rfl, rfl, by decide +kernel, rfl, by decide +kernel, by decide +kernel⟩
abbrev s_law : Stmt := top 42
theorem sc_law : FnScope ["_law_script", "_law_k", "_law_pot_here", "_law_lap"] ["_law_script"] (defScope s_law) := ⟨rfl, rfl, rfl, by decide +kernel, rfl, by decide +kernel, by decide +kernel⟩
structure Zs where
  c : Nat → Addr
  f_E_init : Addr
  d_E_init : FuncData
  f_is_whole : Addr
  d_is_whole : FuncData
  f_is_from : Addr
  d_is_from : FuncData
  f_is_between : Addr
  d_is_between : FuncData
  f_written : Addr
  d_written : FuncData
  f_number_in : Addr
  d_number_in : FuncData
  f_number_of : Addr
  d_number_of : FuncData
  f_T_init : Addr
  d_T_init : FuncData
  f_T_of : Addr
  d_T_of : FuncData
  f_T_part : Addr
  d_T_part : FuncData
  f_T_invert : Addr
  d_T_invert : FuncData
  f_T_rshift : Addr
  d_T_rshift : FuncData
  f_T_mul : Addr
  d_T_mul : FuncData
  f_T_eq : Addr
  d_T_eq : FuncData
  f_check_parts : Addr
  d_check_parts : FuncData
  f_check_leading : Addr
  d_check_leading : FuncData
  f_values_in : Addr
  d_values_in : FuncData
  f_one_behind_other : Addr
  d_one_behind_other : FuncData
  f_straight_times : Addr
  d_straight_times : FuncData
  f_backward_times : Addr
  d_backward_times : FuncData
  f_times : Addr
  d_times : FuncData
  f_l_pot : Addr
  d_l_pot : FuncData
  f_l_take : Addr
  d_l_take : FuncData
  f_l_of : Addr
  d_l_of : FuncData
  f_l_cells : Addr
  d_l_cells : FuncData
  f_l_amount : Addr
  d_l_amount : FuncData
  f_l_row : Addr
  d_l_row : FuncData
  f_l_far : Addr
  d_l_far : FuncData
  f_l_tie : Addr
  d_l_tie : FuncData
  f_l_or_none : Addr
  d_l_or_none : FuncData
  f_l_right : Addr
  d_l_right : FuncData
  f_law : Addr
  d_law : FuncData
  c_l_right : Addr
  t_l_right : Addr
  cC : Addr
  t_GREATEST : Tok
  t__DIGITS : Tok
  t__CHUNK : Tok
  pS : Addr
/-- where the top has put each def, and what it says of them -/
structure Txt (K : PySem.W.Frag) (mg : Str → Option Value) (Z : Zs) : Prop where
  F_E_init : Fun K "__init__" "TuneError.__init__" s_E_init Z.f_E_init Z.d_E_init
  bn_E_init : Binds K Z.d_E_init ["self", "value"] []
  k_E_init : PySem.W.keepIn K (.ref Z.f_E_init) = true
  i_E_init : PySem.W.isFn K (.ref Z.f_E_init) = true
  F_is_whole : Fun K "is_whole" "is_whole" s_is_whole Z.f_is_whole Z.d_is_whole
  bn_is_whole : Binds K Z.d_is_whole ["value"] []
  k_is_whole : PySem.W.keepIn K (.ref Z.f_is_whole) = true
  g_is_whole : mg "is_whole" = some (.ref Z.f_is_whole)
  F_is_from : Fun K "is_from" "is_from" s_is_from Z.f_is_from Z.d_is_from
  bn_is_from : Binds K Z.d_is_from ["value", "least"] []
  k_is_from : PySem.W.keepIn K (.ref Z.f_is_from) = true
  g_is_from : mg "is_from" = some (.ref Z.f_is_from)
  F_is_between : Fun K "is_between" "is_between" s_is_between Z.f_is_between Z.d_is_between
  bn_is_between : Binds K Z.d_is_between ["value", "least", "greatest"] []
  k_is_between : PySem.W.keepIn K (.ref Z.f_is_between) = true
  g_is_between : mg "is_between" = some (.ref Z.f_is_between)
  F_written : Fun K "written" "written" s_written Z.f_written Z.d_written
  bn_written : Binds K Z.d_written ["number"] []
  k_written : PySem.W.keepIn K (.ref Z.f_written) = true
  g_written : mg "written" = some (.ref Z.f_written)
  F_number_in : Fun K "number_in" "number_in" s_number_in Z.f_number_in Z.d_number_in
  bn_number_in : Binds K Z.d_number_in ["word"] []
  k_number_in : PySem.W.keepIn K (.ref Z.f_number_in) = true
  g_number_in : mg "number_in" = some (.ref Z.f_number_in)
  F_number_of : Fun K "_number_of" "_number_of" s_number_of Z.f_number_of Z.d_number_of
  bn_number_of : Binds K Z.d_number_of ["digits"] []
  k_number_of : PySem.W.keepIn K (.ref Z.f_number_of) = true
  g_number_of : mg "_number_of" = some (.ref Z.f_number_of)
  F_T_init : FunD K "__init__" "Tie.__init__" (defArgs s_T_init) (defBody s_T_init) (defScope s_T_init) [.int 0] [("down", .bl false), ("backward", .bl false)] Z.f_T_init Z.d_T_init
  k_T_init : PySem.W.keepIn K (.ref Z.f_T_init) = true
  i_T_init : PySem.W.isFn K (.ref Z.f_T_init) = true
  a_T_init : PySem.W.findIn K (.ref Z.cC) "__init__" = some (some (.ref Z.f_T_init))
  F_T_of : Fun K "of" "Tie.of" s_T_of Z.f_T_of Z.d_T_of
  bn_T_of : Binds K Z.d_T_of ["text"] []
  k_T_of : PySem.W.keepIn K (.ref Z.f_T_of) = true
  i_T_of : PySem.W.isFn K (.ref Z.f_T_of) = true
  F_T_part : Fun K "part" "Tie.part" s_T_part Z.f_T_part Z.d_T_part
  bn_T_part : Binds K Z.d_T_part ["self", "start", "length"] []
  k_T_part : PySem.W.keepIn K (.ref Z.f_T_part) = true
  i_T_part : PySem.W.isFn K (.ref Z.f_T_part) = true
  a_T_part : PySem.W.findIn K (.ref Z.cC) "part" = some (some (.ref Z.f_T_part))
  F_T_invert : Fun K "__invert__" "Tie.__invert__" s_T_invert Z.f_T_invert Z.d_T_invert
  bn_T_invert : Binds K Z.d_T_invert ["self"] []
  k_T_invert : PySem.W.keepIn K (.ref Z.f_T_invert) = true
  i_T_invert : PySem.W.isFn K (.ref Z.f_T_invert) = true
  a_T_invert : PySem.W.findIn K (.ref Z.cC) "__invert__" = some (some (.ref Z.f_T_invert))
  F_T_rshift : Fun K "__rshift__" "Tie.__rshift__" s_T_rshift Z.f_T_rshift Z.d_T_rshift
  bn_T_rshift : Binds K Z.d_T_rshift ["self", "other"] []
  k_T_rshift : PySem.W.keepIn K (.ref Z.f_T_rshift) = true
  i_T_rshift : PySem.W.isFn K (.ref Z.f_T_rshift) = true
  a_T_rshift : PySem.W.findIn K (.ref Z.cC) "__rshift__" = some (some (.ref Z.f_T_rshift))
  F_T_mul : Fun K "__mul__" "Tie.__mul__" s_T_mul Z.f_T_mul Z.d_T_mul
  bn_T_mul : Binds K Z.d_T_mul ["self", "other"] []
  k_T_mul : PySem.W.keepIn K (.ref Z.f_T_mul) = true
  i_T_mul : PySem.W.isFn K (.ref Z.f_T_mul) = true
  a_T_mul : PySem.W.findIn K (.ref Z.cC) "__mul__" = some (some (.ref Z.f_T_mul))
  F_T_eq : Fun K "__eq__" "Tie.__eq__" s_T_eq Z.f_T_eq Z.d_T_eq
  bn_T_eq : Binds K Z.d_T_eq ["self", "other"] []
  k_T_eq : PySem.W.keepIn K (.ref Z.f_T_eq) = true
  i_T_eq : PySem.W.isFn K (.ref Z.f_T_eq) = true
  a_T_eq : PySem.W.findIn K (.ref Z.cC) "__eq__" = some (some (.ref Z.f_T_eq))
  F_check_parts : Fun K "_check_parts" "_check_parts" s_check_parts Z.f_check_parts Z.d_check_parts
  bn_check_parts : Binds K Z.d_check_parts ["first", "second", "length"] []
  k_check_parts : PySem.W.keepIn K (.ref Z.f_check_parts) = true
  g_check_parts : mg "_check_parts" = some (.ref Z.f_check_parts)
  F_check_leading : Fun K "_check_leading" "_check_leading" s_check_leading Z.f_check_leading Z.d_check_leading
  bn_check_leading : Binds K Z.d_check_leading ["amount", "down", "backward"] []
  k_check_leading : PySem.W.keepIn K (.ref Z.f_check_leading) = true
  g_check_leading : mg "_check_leading" = some (.ref Z.f_check_leading)
  F_values_in : Fun K "_values_in" "_values_in" s_values_in Z.f_values_in Z.d_values_in
  bn_values_in : Binds K Z.d_values_in ["text"] []
  k_values_in : PySem.W.keepIn K (.ref Z.f_values_in) = true
  g_values_in : mg "_values_in" = some (.ref Z.f_values_in)
  F_one_behind_other : Fun K "_one_behind_other" "_one_behind_other" s_one_behind_other Z.f_one_behind_other Z.d_one_behind_other
  bn_one_behind_other : Binds K Z.d_one_behind_other ["one", "other"] []
  k_one_behind_other : PySem.W.keepIn K (.ref Z.f_one_behind_other) = true
  g_one_behind_other : mg "_one_behind_other" = some (.ref Z.f_one_behind_other)
  F_straight_times : Fun K "_straight_times" "_straight_times" s_straight_times Z.f_straight_times Z.d_straight_times
  bn_straight_times : Binds K Z.d_straight_times ["tie", "many"] []
  k_straight_times : PySem.W.keepIn K (.ref Z.f_straight_times) = true
  g_straight_times : mg "_straight_times" = some (.ref Z.f_straight_times)
  F_backward_times : Fun K "_backward_times" "_backward_times" s_backward_times Z.f_backward_times Z.d_backward_times
  bn_backward_times : Binds K Z.d_backward_times ["tie", "many"] []
  k_backward_times : PySem.W.keepIn K (.ref Z.f_backward_times) = true
  g_backward_times : mg "_backward_times" = some (.ref Z.f_backward_times)
  F_times : Fun K "_times" "_times" s_times Z.f_times Z.d_times
  bn_times : Binds K Z.d_times ["tie", "many", "first", "second", "length"] []
  k_times : PySem.W.keepIn K (.ref Z.f_times) = true
  g_times : mg "_times" = some (.ref Z.f_times)
  F_l_pot : Fun K "_law_pot" "_law_pot" s_l_pot Z.f_l_pot Z.d_l_pot
  bn_l_pot : Binds K Z.d_l_pot ["_law_script", "_law_k"] []
  k_l_pot : PySem.W.keepIn K (.ref Z.f_l_pot) = true
  g_l_pot : mg "_law_pot" = some (.ref Z.f_l_pot)
  F_l_take : Fun K "_law_take" "_law_take" s_l_take Z.f_l_take Z.d_l_take
  bn_l_take : Binds K Z.d_l_take ["_law_pot_here", "_law_under"] []
  k_l_take : PySem.W.keepIn K (.ref Z.f_l_take) = true
  g_l_take : mg "_law_take" = some (.ref Z.f_l_take)
  F_l_of : Fun K "_law_of" "_law_of" s_l_of Z.f_l_of Z.d_l_of
  bn_l_of : Binds K Z.d_l_of ["_law_pot_here", "_law_some"] []
  k_l_of : PySem.W.keepIn K (.ref Z.f_l_of) = true
  g_l_of : mg "_law_of" = some (.ref Z.f_l_of)
  F_l_cells : Fun K "_law_cells" "_law_cells" s_l_cells Z.f_l_cells Z.d_l_cells
  bn_l_cells : Binds K Z.d_l_cells ["_law_script", "_law_most"] []
  k_l_cells : PySem.W.keepIn K (.ref Z.f_l_cells) = true
  g_l_cells : mg "_law_cells" = some (.ref Z.f_l_cells)
  F_l_amount : Fun K "_law_amount" "_law_amount" s_l_amount Z.f_l_amount Z.d_l_amount
  bn_l_amount : Binds K Z.d_l_amount ["_law_pot_here"] []
  k_l_amount : PySem.W.keepIn K (.ref Z.f_l_amount) = true
  g_l_amount : mg "_law_amount" = some (.ref Z.f_l_amount)
  F_l_row : Fun K "_law_row" "_law_row" s_l_row Z.f_l_row Z.d_l_row
  bn_l_row : Binds K Z.d_l_row ["_law_pot_here", "_law_size"] []
  k_l_row : PySem.W.keepIn K (.ref Z.f_l_row) = true
  g_l_row : mg "_law_row" = some (.ref Z.f_l_row)
  F_l_far : Fun K "_law_far" "_law_far" s_l_far Z.f_l_far Z.d_l_far
  bn_l_far : Binds K Z.d_l_far ["_law_row_here", "_law_far_here"] []
  k_l_far : PySem.W.keepIn K (.ref Z.f_l_far) = true
  g_l_far : mg "_law_far" = some (.ref Z.f_l_far)
  F_l_tie : Fun K "_law_tie" "_law_tie" s_l_tie Z.f_l_tie Z.d_l_tie
  bn_l_tie : Binds K Z.d_l_tie ["_law_row_here"] []
  k_l_tie : PySem.W.keepIn K (.ref Z.f_l_tie) = true
  g_l_tie : mg "_law_tie" = some (.ref Z.f_l_tie)
  F_l_or_none : Fun K "_law_or_none" "_law_or_none" s_l_or_none Z.f_l_or_none Z.d_l_or_none
  bn_l_or_none : Binds K Z.d_l_or_none ["_law_look"] []
  k_l_or_none : PySem.W.keepIn K (.ref Z.f_l_or_none) = true
  g_l_or_none : mg "_law_or_none" = some (.ref Z.f_l_or_none)
  F_l_right : FunC K "_law_right" "_law_right" s_l_right Z.f_l_right Z.d_l_right Z.c_l_right
  bn_l_right : Binds K Z.d_l_right ["_law_pot_here"] []
  k_l_right : PySem.W.keepIn K (.ref Z.f_l_right) = true
  g_l_right : mg "_law_right" = some (.ref Z.f_l_right)
  F_law : Fun K "law" "law" s_law Z.f_law Z.d_law
  bn_law : Binds K Z.d_law ["_law_script"] []
  k_law : PySem.W.keepIn K (.ref Z.f_law) = true
  g_law : mg "law" = some (.ref Z.f_law)
  b_isinstance : mg "isinstance" = none
  b_int : mg "int" = none
  b_bool : mg "bool" = none
  b_str : mg "str" = none
  b_range : mg "range" = none
  b_len : mg "len" = none
  b_max : mg "max" = none
  b_min : mg "min" = none
  b_abs : mg "abs" = none
  b_list : mg "list" = none
  b_all : mg "all" = none
  c_GREATEST : mg "GREATEST" = some (.int 1000000000000000000000000000000 Z.t_GREATEST)
  c__DIGITS : mg "_DIGITS" = some (.int 64 Z.t__DIGITS)
  c__CHUNK : mg "_CHUNK" = some (.int 10000000000000000000000000000000000000000000000000000000000000000 Z.t__CHUNK)
  cl : Cls K Z.cC
  g_C : mg "Tie" = some (.ref Z.cC)
  mkC : PySem.W.makesIn K Z.cC = true
  kC : PySem.W.keepIn K (.ref Z.cC) = true
  n_first : NoAttr K Z.cC "first"
  n_second : NoAttr K Z.cC "second"
  n_length : NoAttr K Z.cC "length"
  n_amount : NoAttr K Z.cC "amount"
  n_down : NoAttr K Z.cC "down"
  n_backward : NoAttr K Z.cC "backward"
  n_text : NoAttr K Z.cC "text"
  g_BadNumber : mg "BadNumber" = some (.ref (Z.c 0))
  g_NoJoint : mg "NoJoint" = some (.ref (Z.c 1))
  g_BadPart : mg "BadPart" = some (.ref (Z.c 2))
  g_TuneError : mg "TuneError" = some (.ref (Z.c 3))
  ex : ∀ i, i < 4 → ExcT K (Z.c 3) Z.f_E_init (Z.c i)
  nd : ∀ i j, i < 4 → j < 4 → Z.c i = Z.c j → i = j
  z_ve : PySem.W.findCls K (.type "ValueError") (.type "type") "__init__" = some (.val (.builtin "ValueError.__init__"))
  t_E_init : PySem.W.typeIn K (.ref Z.f_E_init) = some (.type "function")
  b_ValueError : mg "ValueError" = none
  z_cls : PySem.W.findIn K (.ref Z.cC) "__class__" = some (some (.builtin "object.__class__"))
  z_get : PySem.W.specialIn K (.builtin "object.__class__") "__get__" = some (some (.builtin "getset_descriptor.__get__"))
  z_tk : PySem.W.takesIn K (.builtin "object.__class__") = some true
  z_mro : PySem.W.mroIn K Z.cC (.type "object") = some true
  z_read : ClX.CRead K Z.cC (.type "type")
  z_sta : CSta K Z.cC (.type "type") "of" Z.pS Z.f_T_of
  z_ty : PySem.W.typeIn K (.ref Z.cC) = some (.type "type")
  z_subT : PySem.W.subIn K (.type "tuple") (.ref Z.cC) = some false
  z_kitT : PySem.W.kitOne K (.type "tuple") (.ref Z.cC) = some false
  z_notT : PySem.W.notFirst K Z.cC (.type "tuple") = true
  z_kit : PySem.W.kitOne K (.ref Z.cC) (.ref Z.cC) = some true
  z_first : PySem.W.selfFirst K Z.cC = true
  z_noR : PySem.W.findIn K (.ref Z.cC) "__rmul__" = some none
  z_l_int : PySem.W.findIn K (.type "int") "__mul__" = some (some (.builtin "int.__mul__"))
  z_r_int : PySem.W.findIn K (.type "int") "__rmul__" = some (some (.builtin "int.__rmul__"))
  z_s_int : PySem.W.subIn K (.type "int") (.ref Z.cC) = some false
end TT

set_option Elab.async false
set_option linter.all false
set_option maxRecDepth 100000
set_option maxHeartbeats 4000000
namespace TT
open PySem PySem.Spec PyProof.Rows L2
/-! ### the law's draws -/
/-- a pot of draws stands at p: n numbers were mixed so far -/
def Pot (H : Hp) (p : Addr) (n : Nat) : Prop := ∃ own mix : Int, H p = some (.lst [.int own, .int mix, .int (n : Int)]) ∧ 0 ≤ own ∧ own < 10 ^ 300 ∧ 0 ≤ mix ∧ mix < 2305843009213693951
/-- all that was tracked but the object at p is as it was -/
def Keep (p : Addr) (H H' : Hp) : Prop := ∀ b o, b ≠ p → H b = some o → H' b = some o
theorem Keep.rfl' {p : Addr} {H : Hp} : Keep p H H := fun _ _ _ h => h
theorem Keep.trans {p : Addr} {H H1 H2 : Hp} (a : Keep p H H1) (b : Keep p H1 H2) : Keep p H H2 := fun c o n h => b c o n (a c o n h)
theorem Keep.of {p : Addr} {H H1 : Hp} (a : Same H H1) : Keep p H H1 := fun c o _ h => a c o h
theorem Keep.upd {p : Addr} {H H1 : Hp} {o : HO} (a : Keep p H H1) : Keep p H (upd H1 p o) := fun c u n h => by rw [upd_ne n]; exact a c u n h
theorem Keep.new {p q : Addr} {H H1 : Hp} {o : HO} (a : Keep p H H1) (h : H1 q = none) : Keep p H (L2.upd H1 q o) := fun c u n e => by
  have := a c u n e
  rw [upd_ne (ne_of_none this h)]
  exact this
theorem Same.new {q : Addr} {H H1 : Hp} {o : HO} (a : Same H H1) (h : H1 q = none) : Same H (L2.upd H1 q o) := fun c u e => by
  have := a c u e
  rw [upd_ne (ne_of_none this h)]
  exact this
theorem lt200 {u : Int} (h0 : 0 < u) (h : u < 10 ^ 60) : u.natAbs < 2 ^ 200 := by
  have : (10 : Int) ^ 60 < 2 ^ 200 := by decide
  omega
theorem bits62 {y : Int} (h0 : 0 ≤ y) (h : y < 2 ^ 62) : Builtin.Int.intBits y ≤ 64 := intBits_le_64 (by omega) (by omega)
theorem prime_at (i : Int) (h0 : 0 ≤ i) (h : i < 5) : ∃ v : Int, atI [V.int 2147483647, V.int 2147483629, V.int 2147483587, V.int 2147483579, V.int 2147483563] i = some (.int v) ∧ 2 ≤ v ∧ v ≤ 2147483648 := by
  have : i = 0 ∨ i = 1 ∨ i = 2 ∨ i = 3 ∨ i = 4 := by omega
  rcases this with rfl | rfl | rfl | rfl | rfl <;> exact ⟨_, rfl, by decide, by decide⟩
def sp_l_take : Sp := fun vs H Q _ => ∃ (p : Addr) (n : Nat) (u : Int), vs = [.ref p, .int u] ∧ Pot H p n ∧ n < 1000000 ∧ 0 < u ∧ u < 10 ^ 60 ∧
  ∀ (d : Int) (n' : Nat) (H' : Hp), 0 ≤ d → d < u → n' ≤ n + 1 → Pot H' p n' → Keep p H H' → Q (.int d) H'
section
variable {P : Program} {w : World} {K : PySem.W.Frag} {mg : Str → Option Value} {base : Heap} {Z : Zs}
theorem ok_l_take (T : Txt K mg Z) : FnOk P w K mg base CX0 1 Z.f_l_take Z.d_l_take ["_law_pot_here", "_law_under"] sp_l_take := by
  refine T.F_l_take.ok sc_l_take (fun vs H Q E h => ?_) (fun cdv A outer s H vs Q E hr h => ?_)
  · obtain ⟨p, n, u, rfl, _⟩ := h
    rfl
  · obtain ⟨p, n, u, rfl, ⟨own, mix, hp, o0, o1, m0, m1⟩, hn, u0, u1, k⟩ := h
    refine ⟨_, (pss_cons (ps_if (pt_cmpR op_gt (pe_ix ix_list (pv 0) pe_int (fun _ _ => rfl)) pe_int (nomark _)) (pss_cons (ps_set (i := 2) sc_l_take.nd rfl (Or.inl rfl) (pe_op op_mod (pe_callTy call_int1 (by rfl) T.b_int (by decide +kernel) (pa_cons (pe_ix ix_list (pv 0) pe_int (fun _ _ => rfl)) pa_nil)) (pv 1)))
      (pss_cons (ps_asg (pe_op op_fdivW (pe_ix ix_list (pv 0) pe_int (fun _ _ => rfl)) (pv 1)) (pg_sub (pv 0) pe_int set_list))
      (pss_one (ps_ret (pv 2))))) pss_nil)
      (pss_cons (ps_asg (pe_op op_add (pe_ix ix_list (pv 0) pe_int (fun _ _ => rfl)) pe_int) (pg_sub (pv 0) pe_int set_list))
      (pss_cons (ps_set (i := 3) sc_l_take.nd rfl (Or.inl rfl) (pe_ix ix_list (pe_lst (pa_cons pe_int (pa_cons pe_int (pa_cons pe_int (pa_cons pe_int (pa_cons pe_int pa_nil)))))) (pe_op op_mod (pe_callTy call_int1 (by rfl) T.b_int (by decide +kernel) (pa_cons (pe_ix ix_list (pv 0) pe_int (fun _ _ => rfl)) pa_nil)) pe_int) (fun _ _ => rfl)))
      (pss_cons (ps_set (i := 4) sc_l_take.nd rfl (Or.inl rfl) (pe_op op_mod (pe_callTy call_int1 (by rfl) T.b_int (by decide +kernel) (pa_cons (pe_op op_powW (pe_callTy call_int1 (by rfl) T.b_int (by decide +kernel) (pa_cons (pe_op op_add (pe_op op_add (pe_ix ix_list (pv 0) pe_int (fun _ _ => rfl)) (pe_op op_mul (pe_op op_mul pe_int (pe_ix ix_list (pv 0) pe_int (fun _ _ => rfl))) (pe_ix ix_list (pv 0) pe_int (fun _ _ => rfl)))) pe_int) pa_nil)) pe_int) pa_nil)) (pv 3)))
      (pss_cons (ps_set (i := 4) sc_l_take.nd rfl (Or.inl rfl) (pe_op op_mod (pe_callTy call_int1 (by rfl) T.b_int (by decide +kernel) (pa_cons (pe_op op_mul (pv 4) (pe_op op_add (pe_op op_mod (pe_callTy call_int1 (by rfl) T.b_int (by decide +kernel) (pa_cons (pv 4) pa_nil)) pe_int) (pe_op op_mul pe_int (pe_ix ix_list (pv 0) pe_int (fun _ _ => rfl))))) pa_nil)) pe_int))
      (pss_one (ps_ret (pe_op op_mod (pe_callTy call_int1 (by rfl) T.b_int (by decide +kernel) (pa_cons (pe_op op_fdivW (pv 4) pe_int) pa_nil)) (pv 1))))))))), ?_⟩
    refine ⟨_, rfl, p, _, _, _, rfl, rfl, SqL.of hp, rfl, _, _, rfl, rfl, _, rfl, ?_⟩
    refine ite2 (fun c => ?_) (fun c => ?_)
    · have c' : 0 < own := of_decide_eq_true c
      have q0 : 0 ≤ own / u := Int.ediv_nonneg o0 (Int.le_of_lt u0)
      have q1 : own / u < 10 ^ 300 := Int.lt_of_le_of_lt (Int.ediv_le_self _ o0) o1
      refine ⟨_, rfl, p, _, _, _, rfl, rfl, SqL.of hp, rfl, .inl ⟨_, rfl, _, rfl, _, _, rfl, rfl, u0, ?_⟩⟩
      refine ⟨_, rfl, p, _, _, _, rfl, rfl, SqL.of hp, rfl, _, rfl, _, _, rfl, rfl, wide_div u0 (b := 200) (lt200 u0 u1) (by decide) (by decide), _, rfl, p, _, _, _, rfl, rfl, hp, rfl, _, rfl, ?_⟩
      exact k _ n _ (Int.emod_nonneg _ (by omega)) (Int.emod_lt_of_pos _ u0) (Nat.le_succ _) ⟨own / u, mix, upd_same, q0, q1, m0, m1⟩ Keep.rfl'.upd
    · refine ⟨_, rfl, p, _, _, _, rfl, rfl, SqL.of hp, rfl, _, _, rfl, rfl, _, rfl, p, _, _, _, rfl, rfl, hp, rfl, ?_⟩
      obtain ⟨H1, hH1⟩ : ∃ H1, H1 = upd H p (.lst [V.int own, V.int mix, V.int ((n : Int) + 1)]) := ⟨_, rfl⟩
      have hp1 : H1 p = some (.lst [V.int own, V.int mix, V.int ((n : Int) + 1)]) := by rw [hH1]; exact upd_same
      have kp1 : Keep p H H1 := by rw [hH1]; exact Keep.rfl'.upd
      refine Eq.mp (congrArg _ hH1) ?_
      -- the primes
      refine ⟨by show 5 ≤ sizeLine; decide, fun q hq => ?_⟩
      have npq : p ≠ q := ne_of_none hp1 hq
      have hp2 : (upd H1 q (.lst [V.int 2147483647, V.int 2147483629, V.int 2147483587, V.int 2147483579, V.int 2147483563])) p = some (.lst [V.int own, V.int mix, V.int ((n : Int) + 1)]) := by rw [upd_ne npq]; exact hp1
      refine ⟨_, rfl, p, _, _, _, rfl, rfl, SqL.of hp2, rfl, .inl ⟨_, rfl, _, _, rfl, rfl, by show (0 : Int) < 5; decide, ?_⟩⟩
      obtain ⟨v, hv, v0, v1⟩ := prime_at (((n : Int) + 1) % 5) (Int.emod_nonneg _ (by decide)) (Int.emod_lt_of_pos _ (by decide))
      refine ⟨q, _, _, _, rfl, rfl, SqL.of upd_same, hv, ?_⟩
      generalize hH2 : upd H1 q (.lst [V.int 2147483647, V.int 2147483629, V.int 2147483587, V.int 2147483579, V.int 2147483563]) = H2 at hp2 ⊢
      have kp2 : Keep p H H2 := by rw [← hH2]; exact kp1.new hq
      -- mixed
      refine ⟨_, rfl, p, _, _, _, rfl, rfl, SqL.of hp2, rfl, _, rfl, p, _, _, _, rfl, rfl, SqL.of hp2, rfl, _, _, rfl, rfl, .inl (by constructor <;> decide), _, rfl, p, _, _, _, rfl, rfl, SqL.of hp2, rfl, _, _, rfl, rfl, .inr (by constructor <;> omega), _, _, rfl, rfl, _, _, rfl, rfl, .inl ⟨_, rfl, ?_⟩⟩
      have b1 : 0 ≤ 100169 * ((n : Int) + 1) * ((n : Int) + 1) ∧ 100169 * ((n : Int) + 1) * ((n : Int) + 1) ≤ 100169 * 1000000 * 1000000 := by
        have h1 : 0 ≤ (n : Int) + 1 := by omega
        have h2 : (n : Int) + 1 ≤ 1000000 := by omega
        refine ⟨Int.mul_nonneg (Int.mul_nonneg (by decide) h1) h1, ?_⟩
        exact Int.mul_le_mul (Int.mul_le_mul_of_nonneg_left h2 (by decide)) h2 h1 (by decide)
      generalize hz : 100169 * ((n : Int) + 1) * ((n : Int) + 1) = z at b1 ⊢
      have b2 : 0 ≤ mix + z + 53 ∧ mix + z + 53 < 2 ^ 62 := by constructor <;> omega
      generalize mix + z + 53 = y at b2 ⊢
      refine ⟨_, _, rfl, rfl, ⟨by decide, ?_⟩, .inl ⟨_, rfl, ?_⟩⟩
      · have := bits62 b2.1 b2.2
        show ((Builtin.Int.intBits y : Nat) : Int) * 3 ≤ 2 ^ 27
        omega
      refine ⟨_, rfl, _, _, rfl, rfl, by omega, ?_⟩
      have b3 : 0 ≤ y ^ (3 : Int).toNat % v ∧ y ^ (3 : Int).toNat % v < 2147483648 := ⟨Int.emod_nonneg _ (by omega), Int.lt_of_lt_of_le (Int.emod_lt_of_pos _ (by omega)) (by omega)⟩
      refine ⟨_, rfl, _, rfl, .inl ⟨_, rfl, _, _, rfl, rfl, by show (0 : Int) < 10039; decide, _, rfl, p, _, _, _, rfl, rfl, SqL.of hp2, rfl, _, _, rfl, rfl, .inl (by constructor <;> decide), _, _, rfl, rfl, _, _, rfl, rfl, .inl (by constructor <;> omega), .inl ⟨_, rfl, _, _, rfl, rfl, (by decide : (0 : Int) < 2305843009213693907), ?_⟩⟩⟩
      refine ⟨_, rfl, _, _, rfl, rfl, wide_div (j := 127) (by decide) (b := 200) (by decide) (by decide) (by decide), .inl ⟨_, rfl, _, rfl, _, _, rfl, rfl, u0, ?_⟩⟩
      exact k _ (n + 1) _ (Int.emod_nonneg _ (by omega)) (Int.emod_lt_of_pos _ u0) (Nat.le_refl _) ⟨own, mix, hp2, o0, o1, m0, m1⟩ kp2
end
end TT

set_option Elab.async false
set_option linter.all false
set_option maxRecDepth 100000
set_option maxHeartbeats 4000000
namespace TT
open PySem PySem.Spec PyProof.Rows L2
def sp_l_of : Sp := fun vs H Q _ => ∃ (p a : Addr) (n : Nat) (xs : List V), vs = [.ref p, .ref a] ∧ Pot H p n ∧ n < 1000000 ∧ H a = some (.lst xs) ∧ a ≠ p ∧ 0 < xs.length ∧ xs.length ≤ 1000 ∧
  ∀ (v : V) (n' : Nat) (H' : Hp), v ∈ xs → n' ≤ n + 1 → Pot H' p n' → Keep p H H' → Q v H'
def sp_l_cells (K : PySem.W.Frag) : Sp := fun vs H Q _ => ∃ (a : Addr) (ns : List Int) (most : Int), vs = [.ref a, .int most] ∧ SqL K H a (ns.map V.int) ∧ ns.length ≤ 63 ∧ 1 ≤ most ∧ most ≤ 63 ∧
  ∀ (q : Addr) (m : Int), H q = none → 1 ≤ m → m ≤ 63 → Q (.ref q) (upd H q (.lst (rgV 0 m)))
def sp_l_pot (K : PySem.W.Frag) : Sp := fun vs H Q _ => ∃ (a : Addr) (ns : List Int) (i : Int), vs = [.ref a, .int i] ∧ SqL K H a (ns.map V.int) ∧ ns.length ≤ 63 ∧ 0 ≤ i ∧ i < 100 ∧
  ∀ (p : Addr) (H' : Hp), H p = none → Same H H' → Pot H' p 0 → Q (.ref p) H'
theorem at_mem {xs : List V} {i : Int} (h0 : 0 ≤ i) (h : i < (xs.length : Int)) : ∃ v, atI xs i = some v ∧ v ∈ xs := by
  obtain ⟨j, rfl⟩ : ∃ j : Nat, i = (j : Int) := ⟨i.toNat, by omega⟩
  have hj : j < xs.length := by omega
  exact ⟨xs[j], atI_nat (List.getElem?_eq_getElem hj), List.getElem_mem hj⟩
theorem ite01 (b : Bool) : -(2 ^ 64) < (if b = true then (1 : Int) else 0) ∧ (if b = true then (1 : Int) else 0) < 2 ^ 64 := by cases b <;> constructor <;> decide
theorem share {T : Int → Prop} {G : Prop} (h : (∀ z, T z) → G) (t : ∀ z, T z) : G := h t
section
variable {P : Program} {w : World} {K : PySem.W.Frag} {mg : Str → Option Value} {base : Heap} {Z : Zs}
theorem ok_l_of (T : Txt K mg Z) : FnOk P w K mg base CX0 2 Z.f_l_of Z.d_l_of ["_law_pot_here", "_law_some"] sp_l_of := by
  refine T.F_l_of.ok sc_l_of (fun vs H Q E h => ?_) (fun cdv A outer s H vs Q E hr h => ?_)
  · obtain ⟨p, a, n, xs, rfl, _⟩ := h
    rfl
  · obtain ⟨p, a, n, xs, rfl, hp, hn, ha, hne, l0, l1, k⟩ := h
    refine ⟨_, (pss_one (ps_ret (pe_ix ix_list (pv 1) (pe_call (ok_l_take T) (hr.mono (by decide)) rfl T.g_l_take T.k_l_take T.bn_l_take .nil pass0 (pa_cons (pv 0) (pa_cons (pe_callB  call_len (by rfl) T.b_len (by decide +kernel) (pa_cons (pv 1) pa_nil)) pa_nil))) (fun _ _ => rfl)))), ?_⟩
    have big : (xs.length : Int) < 10 ^ 60 := by
      have : (1000 : Int) < 10 ^ 60 := by decide
      omega
    refine ⟨_, rfl, _, rfl, _, rfl, _, _, rfl, .inl ⟨_, SqL.of ha, rfl⟩, p, n, _, rfl, hp, hn, by omega, big, fun d n' H' d0 d1 hn' hp' kp => ?_⟩
    obtain ⟨v, hv, hm⟩ := at_mem d0 d1
    exact ⟨a, xs, d, v, rfl, rfl, SqL.of (kp _ _ hne ha), hv, k v n' H' hm hn' hp' kp⟩
theorem ok_l_cells (T : Txt K mg Z) : FnOk P w K mg base CX0 1 Z.f_l_cells Z.d_l_cells ["_law_script", "_law_most"] (sp_l_cells K) := by
  refine T.F_l_cells.ok sc_l_cells (fun vs H Q E h => ?_) (fun cdv A outer s H vs Q E hr h => ?_)
  · obtain ⟨a, ns, m, rfl, _⟩ := h
    rfl
  · obtain ⟨a, ns, m, rfl, hS, hl, m0, m1, k⟩ := h
    refine ⟨_, (pss_one (ps_ret (pe_listRg rfl rfl T.b_list (prg_1 rfl T.b_range (pe_callB  (call_max2 rfl) (by rfl) T.b_max (by decide +kernel) (pa_cons pe_int (pa_cons (pe_callB  (call_min2 rfl) (by rfl) T.b_min (by decide +kernel) (pa_cons (pv 1) (pa_cons (pe_callB  call_len (by rfl) T.b_len (by decide +kernel) (pa_cons (pv 0) pa_nil)) pa_nil))) pa_nil))))))), ?_⟩
    refine ⟨_, rfl, _, rfl, _, _, rfl, .inl ⟨_, hS, rfl⟩, _, _, rfl, _, _, rfl, ?_⟩
    rw [List.length_map]
    have b : 1 ≤ (if (if (ns.length : Int) < m then (ns.length : Int) else m) > 1 then (if (ns.length : Int) < m then (ns.length : Int) else m) else 1) ∧ (if (if (ns.length : Int) < m then (ns.length : Int) else m) > 1 then (if (ns.length : Int) < m then (ns.length : Int) else m) else 1) ≤ 63 := by
      constructor <;> split <;> first | omega | (split <;> omega)
    exact ⟨_, rfl, RgOk.of_le (by decide) (by omega) (by decide) (by omega), fun q hq => k q _ hq b.1 b.2⟩
theorem own_bound (x : Int) (b : Bool) : 0 ≤ x % ((10 : Int) ^ (60 : Int).toNat) ^ (5 : Int).toNat * (if b = true then 1 else 0) ∧ x % ((10 : Int) ^ (60 : Int).toNat) ^ (5 : Int).toNat * (if b = true then 1 else 0) < 10 ^ 300 := by
  have e : ((10 : Int) ^ (60 : Int).toNat) ^ (5 : Int).toNat = 10 ^ 300 := by decide
  rw [e]
  have h1 := Int.emod_nonneg x (b := 10 ^ 300) (by decide)
  have h2 := Int.emod_lt_of_pos x (b := 10 ^ 300) (by decide)
  cases b
  · simp only [Bool.false_eq_true, if_false, Int.mul_zero]
    exact ⟨Int.le_refl _, by decide⟩
  · simp only [if_true, Int.mul_one]
    exact ⟨h1, h2⟩
theorem ok_l_pot (T : Txt K mg Z) : FnOk P w K mg base CX0 1 Z.f_l_pot Z.d_l_pot ["_law_script", "_law_k"] (sp_l_pot K) := by
  refine T.F_l_pot.ok sc_l_pot (fun vs H Q E h => ?_) (fun cdv A outer s H vs Q E hr h => ?_)
  · obtain ⟨a, ns, i, rfl, _⟩ := h
    rfl
  · obtain ⟨a, ns, i, rfl, hS, hl, i0, i1, k⟩ := h
    refine ⟨_, (pss_cons (ps_set (i := 2) sc_l_pot.nd rfl (Or.inl rfl) (pe_ifExp (pt_cmpR op_lt (pv 1) (pe_callB  call_len (by rfl) T.b_len (by decide +kernel) (pa_cons (pv 0) pa_nil)) (nomark _)) (pe_ix ix_list (pv 0) (pv 1) (fun _ _ => rfl)) (pe_op op_add (pe_op op_mul pe_int (pv 1)) pe_int)))
      (pss_cons (ps_set (i := 3) sc_l_pot.nd rfl (Or.inl rfl) (pe_op op_mul (pe_op op_mod (pe_callTy call_int1 (by rfl) T.b_int (by decide +kernel) (pa_cons (pe_callB  call_abs (by rfl) T.b_abs (by decide +kernel) (pa_cons (pv 2) pa_nil)) pa_nil)) (pe_op op_powW (pe_op op_powW pe_int pe_int) pe_int)) (pe_callTy call_int1 (by rfl) T.b_int (by decide +kernel) (pa_cons (pe_cmpR op_ge (pe_callB  call_abs (by rfl) T.b_abs (by decide +kernel) (pa_cons (pv 2) pa_nil)) (pe_op op_powW pe_int pe_int) (nomark _)) pa_nil))))
      (pss_cons (ps_set (i := 4) sc_l_pot.nd rfl (Or.inl rfl) (pe_op op_mod (pe_callTy call_int1 (by rfl) T.b_int (by decide +kernel) (pa_cons (pv 2) pa_nil)) pe_int))
      (pss_one (ps_ret (pe_lst (pa_cons (pv 3) (pa_cons (pe_op op_mod (pe_callTy call_int1 (by rfl) T.b_int (by decide +kernel) (pa_cons (pe_op op_add (pe_op op_add (pe_op op_mul (pv 4) pe_int) (pe_op op_mul (pe_op op_mul pe_int (pv 1)) (pv 1))) pe_int) pa_nil)) pe_int) (pa_cons pe_int pa_nil))))))))), ?_⟩
    refine ⟨_, rfl, _, rfl, _, _, rfl, .inl ⟨_, hS, rfl⟩, _, _, rfl, rfl, _, rfl, ?_⟩
    rw [List.length_map]
    refine' share (fun tail => ite2 (fun c => ?b1) (fun c => ?b2)) ?b3
    case b1 =>
      have c' : i < (ns.length : Int) := of_decide_eq_true c
      obtain ⟨v, hv, hm⟩ := at_mem (xs := ns.map V.int) i0 (by rw [List.length_map]; exact c')
      obtain ⟨z, _, rfl⟩ := List.mem_map.mp hm
      exact ⟨_, rfl, _, rfl, a, _, _, _, rfl, rfl, hS, hv, tail z⟩
    case b2 => exact ⟨_, rfl, _, _, rfl, rfl, .inl (by constructor <;> decide), _, _, rfl, rfl, tail _⟩
    case b3 =>
      intro z
      refine ⟨_, rfl, _, rfl, .inl ⟨_, rfl, _, _, rfl, rfl, ⟨by decide, by decide +kernel⟩, _, _, rfl, rfl, ⟨by decide, by decide +kernel⟩, _, _, rfl, rfl, (by decide +kernel : (0 : Int) < ((10 : Int) ^ (60 : Int).toNat) ^ (5 : Int).toNat), ?_⟩⟩
      refine ⟨_, rfl, _, rfl, _, _, rfl, rfl, ⟨by decide, by decide +kernel⟩, _, _, rfl, rfl, .inr ⟨_, rfl, _, _, rfl, rfl, .inr (ite01 _), ?_⟩⟩
      have ob := own_bound (if z < 0 then -z else z) (decide ((10 : Int) ^ (18 : Int).toNat ≤ (if z < 0 then -z else z)))
      refine ⟨_, rfl, .inl ⟨_, rfl, _, _, rfl, rfl, by show (0 : Int) < 2305843009213693951; decide, ?_⟩⟩
      refine ⟨_, rfl, _, rfl, _, _, rfl, rfl, .inr (by constructor <;> decide), _, rfl, _, _, rfl, rfl, .inl (by constructor <;> decide), _, rfl, _, _, rfl, rfl, .inr (by constructor <;> omega), _, _, rfl, rfl, _, _, rfl, rfl, .inl ⟨_, rfl, _, _, rfl, rfl, by show (0 : Int) < 2305843009213693921; decide, ?_⟩⟩
      refine ⟨by show 3 ≤ sizeLine; decide, fun p hp => k p _ hp (Same.new (Same.refl H) hp) ⟨_, _, upd_same, ob.1, ob.2, Int.emod_nonneg _ (by decide), ?_⟩⟩
      exact Int.lt_trans (Int.emod_lt_of_pos _ (by decide)) (by decide)
end
end TT

set_option Elab.async false
set_option linter.all false
set_option maxRecDepth 100000
set_option maxHeartbeats 4000000
namespace TT
open PySem PySem.Spec PyProof.Rows L2
theorem Pot.new {H : Hp} {p q : Addr} {n : Nat} {o : HO} (h : Pot H p n) (hq : H q = none) : Pot (upd H q o) p n := by
  obtain ⟨a, m, e, r⟩ := h
  exact ⟨a, m, by rw [upd_ne (ne_of_none e hq)]; exact e, r⟩
theorem free_of {H H' : Hp} {p q : Addr} {n m : Nat} (k : Keep p H H') (hp : Pot H p n) (hq : H' q = none) (hp' : Pot H' p m) : H q = none := by
  cases e : H q with
  | none => rfl
  | some o =>
    have ne : q ≠ p := by
      rintro rfl
      obtain ⟨_, _, z, _⟩ := hp'
      rw [hq] at z; cases z
    rw [k q o ne e] at hq
    cases hq
/-! ### rows: the law's own picture of a tie -/
/-- the six values of a tie -/
structure Row where
  f : Int
  s : Int
  l : Int
  a : Int
  d : Bool
  b : Bool
/-- such as a tie may have: places within 10 ^ 30, amounts below 10 ^ 36 -/
structure Row.Ok (r : Row) : Prop where
  f0 : 0 ≤ r.f
  s0 : 0 ≤ r.s
  l0 : 1 ≤ r.l
  fe : r.f + r.l ≤ 10 ^ 30
  se : r.s + r.l ≤ 10 ^ 30
  al : -(10 ^ 60) < r.a
  ah : r.a < 10 ^ 60
  bk : r.b = true → 1 < r.l
def Row.vs (r : Row) : List V := [.int r.f, .int r.s, .int r.l, .int r.a, .bl r.d, .bl r.b]
def Row.dat (r : Row) : PyData := .tuple [.int r.f, .int r.s, .int r.l, .int r.a, .bool r.d, .bool r.b]
/-- a row as a tuple stands at q -/
def RowAt (H : Hp) (q : Addr) (r : Row) : Prop := H q = some (.tup r.vs)
theorem Keep.row {p q : Addr} {H H' : Hp} {r : Row} {n : Nat} (k : Keep p H H') (hp : Pot H p n) (h : RowAt H q r) : RowAt H' q r := by
  refine k _ _ ?_ h
  obtain ⟨_, _, e, _⟩ := hp
  exact ne_of h e (fun z => by cases z)
def sp_l_amount : Sp := fun vs H Q _ => ∃ (p : Addr) (n : Nat), vs = [.ref p] ∧ Pot H p n ∧ n < 1000000 ∧
  ∀ (v : Int) (n' : Nat) (H' : Hp), -(10 ^ 36) < v → v < 10 ^ 36 → n' ≤ n + 1 → Pot H' p n' → Keep p H H' → Q (.int v) H'
def sp_l_row : Sp := fun vs H Q _ => ∃ (p : Addr) (n : Nat) (z : Int), vs = [.ref p, .int z] ∧ Pot H p n ∧ n + 6 < 1000000 ∧ 1 ≤ z ∧ z ≤ 1000 ∧
  ∀ (r : Row) (q : Addr) (n' : Nat) (H' : Hp), r.Ok → r.f + r.l ≤ z → r.s + r.l ≤ z → -(10 ^ 36) < r.a → r.a < 10 ^ 36 → n' ≤ n + 6 → Pot H' p n' → Keep p H H' → RowAt H' q r → H q = none → Q (.ref q) H'
section
variable {P : Program} {w : World} {K : PySem.W.Frag} {mg : Str → Option Value} {base : Heap} {Z : Zs}
theorem ok_l_amount (T : Txt K mg Z) : FnOk P w K mg base CX0 3 Z.f_l_amount Z.d_l_amount ["_law_pot_here"] sp_l_amount := by
  refine T.F_l_amount.ok sc_l_amount (fun vs H Q E h => ?_) (fun cdv A outer s H vs Q E hr h => ?_)
  · obtain ⟨p, n, rfl, _⟩ := h
    rfl
  · obtain ⟨p, n, rfl, hp, hn, k⟩ := h
    refine ⟨_, (pss_one (ps_ret (pe_call (ok_l_of T) (hr.mono (by decide)) rfl T.g_l_of T.k_l_of T.bn_l_of .nil pass0 (pa_cons (pv 0) (pa_cons (pe_lst (pa_cons pe_int (pa_cons pe_int (pa_cons pe_int (pa_cons (pe_un un_neg pe_int) (pa_cons pe_int (pa_cons pe_int (pa_cons (pe_un un_neg pe_int) (pa_cons pe_int (pa_cons (pe_op op_powW pe_int pe_int) pa_nil)))))))))) pa_nil))))), ?_⟩
    refine ⟨_, rfl, _, rfl, _, rfl, _, _, rfl, rfl, ⟨by decide, by decide +kernel⟩, by show 9 ≤ sizeLine; decide, fun a ha => ?_⟩
    have hpa : p ≠ a := by
      obtain ⟨_, _, e, _⟩ := hp
      exact ne_of_none e ha
    have hp2 : Pot (upd H a (.lst [.int 0, .int 0, .int 1, .int (-1), .int 2, .int 5, .int (-7), .int 12, .int ((10 : Int) ^ (35 : Int).toNat)])) p n := by
      obtain ⟨o, m, e, r⟩ := hp
      exact ⟨o, m, by rw [upd_ne hpa]; exact e, r⟩
    refine ⟨p, a, n, _, rfl, hp2, hn, upd_same, hpa.symm, by decide, by decide, fun v n' H' hv hn' hp' kp => ?_⟩
    have kp' : Keep p H H' := (Keep.new Keep.rfl' ha).trans kp
    simp only [List.mem_cons, List.not_mem_nil, or_false] at hv
    rcases hv with rfl | rfl | rfl | rfl | rfl | rfl | rfl | rfl | rfl <;> exact k _ n' H' (by decide) (by decide) hn' hp' kp'
theorem ok_l_row (T : Txt K mg Z) : FnOk P w K mg base CX0 4 Z.f_l_row Z.d_l_row ["_law_pot_here", "_law_size"] sp_l_row := by
  refine T.F_l_row.ok sc_l_row (fun vs H Q E h => ?_) (fun cdv A outer s H vs Q E hr h => ?_)
  · obtain ⟨p, n, z, rfl, _⟩ := h
    rfl
  · obtain ⟨p, n, z, rfl, hp, hn, z0, z1, k⟩ := h
    refine ⟨_, (pss_cons (ps_set (i := 2) sc_l_row.nd rfl (Or.inl rfl) (pe_op op_add pe_int (pe_call (ok_l_take T) (hr.mono (by decide)) rfl T.g_l_take T.k_l_take T.bn_l_take .nil pass0 (pa_cons (pv 0) (pa_cons (pv 1) pa_nil)))))
      (pss_cons (ps_par (i := 3) (j := 4) (by rfl) sc_l_row.nd rfl rfl (by decide) rfl rfl (pa_cons (pe_call (ok_l_take T) (hr.mono (by decide)) rfl T.g_l_take T.k_l_take T.bn_l_take .nil pass0 (pa_cons (pv 0) (pa_cons (pe_op op_add (pe_op op_sub (pv 1) (pv 2)) pe_int) pa_nil))) (pa_cons (pe_call (ok_l_take T) (hr.mono (by decide)) rfl T.g_l_take T.k_l_take T.bn_l_take .nil pass0 (pa_cons (pv 0) (pa_cons (pe_op op_add (pe_op op_sub (pv 1) (pv 2)) pe_int) pa_nil))) pa_nil)) (by rfl))
      (pss_cons (ps_par3 (i := 5) (j := 6) (l := 7) rfl sc_l_row.nd rfl rfl rfl (by decide) (by decide) (by decide) rfl rfl rfl (pa_cons (pe_call (ok_l_amount T) (hr.mono (by decide)) rfl T.g_l_amount T.k_l_amount T.bn_l_amount .nil pass0 (pa_cons (pv 0) pa_nil)) (pa_cons (pe_cmpR op_eq (pe_call (ok_l_take T) (hr.mono (by decide)) rfl T.g_l_take T.k_l_take T.bn_l_take .nil pass0 (pa_cons (pv 0) (pa_cons pe_int pa_nil))) pe_int (nomark _)) (pa_cons (pe_cmpR op_eq (pe_call (ok_l_take T) (hr.mono (by decide)) rfl T.g_l_take T.k_l_take T.bn_l_take .nil pass0 (pa_cons (pv 0) (pa_cons pe_int pa_nil))) pe_int (nomark _)) pa_nil))) (by rfl))
      (pss_one (ps_ret (pe_tup (pa_cons (pv 3) (pa_cons (pv 4) (pa_cons (pv 2) (pa_cons (pv 5) (pa_cons (pv 6) (pa_cons (pe_and (pv 7) (pe_one (pe_cmpR op_gt (pv 2) pe_int (nomark _)))) pa_nil)))))))))))), ?_⟩
    have big : (1001 : Int) < 10 ^ 60 := by decide
    refine ⟨_, rfl, _, rfl, p, n, _, rfl, hp, by omega, by omega, by omega, fun d1 n1 H1 a0 a1 hn1 hp1 k1 => ?_⟩
    refine ⟨_, _, rfl, rfl, ?_⟩
    refine ⟨_, rfl, _, rfl, _, rfl, _, _, rfl, rfl, _, _, rfl, rfl, p, n1, _, rfl, hp1, by omega, by show 0 < z - (1 + d1) + 1; omega, by show z - (1 + d1) + 1 < 10 ^ 60; omega, fun d2 n2 H2 b0 b1 hn2 hp2 k2 => ?_⟩
    refine ⟨_, rfl, _, rfl, _, rfl, _, _, rfl, rfl, _, _, rfl, rfl, p, n2, _, rfl, hp2, by omega, by show 0 < z - (1 + d1) + 1; omega, by show z - (1 + d1) + 1 < 10 ^ 60; omega, fun d3 n3 H3 c0 c1 hn3 hp3 k3 => ?_⟩
    refine ⟨_, _, rfl, ?_⟩
    refine ⟨_, rfl, p, n3, rfl, hp3, by omega, fun am n4 H4 e0 e1 hn4 hp4 k4 => ?_⟩
    refine ⟨_, rfl, p, n4, _, rfl, hp4, by omega, by decide, by decide, fun d5 n5 H5 _ _ hn5 hp5 k5 => ?_⟩
    refine ⟨rfl, ?_⟩
    refine ⟨_, rfl, p, n5, _, rfl, hp5, by omega, by decide, by decide, fun d6 n6 H6 _ _ hn6 hp6 k6 => ?_⟩
    refine ⟨rfl, ?_⟩
    refine ⟨_, _, _, rfl, ?_⟩
    refine ⟨_, rfl, _, rfl, _, rfl, _, rfl, _, rfl, _, rfl, _, rfl, ?_⟩
    have rok : ∀ bk : Bool, (bk = true → 1 < 1 + d1) → Row.Ok ⟨d2, d3, 1 + d1, am, decide (V.int d5 = V.int 0), bk⟩ := fun bk hb =>
      ⟨b0, c0, by show 1 ≤ 1 + d1; omega, by show d2 + (1 + d1) ≤ 10 ^ 30; omega, by show d3 + (1 + d1) ≤ 10 ^ 30; omega, by show -(10 ^ 60) < am; omega, by show am < 10 ^ 60; omega, hb⟩
    have kp : Keep p H H6 := ((((k1.trans k2).trans k3).trans k4).trans k5).trans k6
    refine ite2 (fun c => ?_) (fun c => ?_)
    · refine ⟨_, rfl, _, _, rfl, rfl, by show 6 ≤ sizeLine; decide, fun q hq => ?_⟩
      have nq : H q = none := free_of kp hp hq hp6
      refine k _ q n6 _ (rok (decide (1 < 1 + d1)) fun h => of_decide_eq_true h) (by show d2 + (1 + d1) ≤ z; omega) (by show d3 + (1 + d1) ≤ z; omega) e0 e1 (by omega) (hp6.new hq) (kp.new hq) upd_same nq
    · refine ⟨by show 6 ≤ sizeLine; decide, fun q hq => ?_⟩
      have nq : H q = none := free_of kp hp hq hp6
      refine k _ q n6 _ (rok false fun h => by cases h) (by show d2 + (1 + d1) ≤ z; omega) (by show d3 + (1 + d1) ≤ z; omega) e0 e1 (by omega) (hp6.new hq) (kp.new hq) upd_same nq
end
end TT

set_option Elab.async false
set_option linter.all false
set_option maxRecDepth 100000
set_option maxHeartbeats 4000000
namespace TT
open PySem PySem.Spec PyProof.Rows L2
/-! ### integers -/
/-- whether a value is an int and no bool -/
def Whole (K : PySem.W.Frag) (H : Hp) (x : V) (b : Bool) : Prop := ∃ (t : Value) (b1 b2 : Bool), TyX K H x t ∧ PySem.W.kitOne K t (.type "int") = some b1 ∧ PySem.W.kitOne K t (.type "bool") = some b2 ∧ (b1 && !b2) = b
theorem whole_int {K : PySem.W.Frag} {H : Hp} (i : Int) : Whole K H (.int i) true := ⟨_, true, false, .base (.int i), kit_ty (by decide +kernel), kit_ty (by decide +kernel), rfl⟩
def sp_is_whole (K : PySem.W.Frag) : Sp := fun vs H Q _ => ∃ (x : V) (b : Bool), vs = [x] ∧ Whole K H x b ∧ Q (.bl b) H
def sp_is_from (K : PySem.W.Frag) : Sp := fun vs H Q _ => (∃ v l : Int, vs = [.int v, .int l] ∧ Q (.bl (decide (l ≤ v))) H) ∨ ∃ x l : V, vs = [x, l] ∧ Whole K H x false ∧ Q (.bl false) H
def sp_is_between (K : PySem.W.Frag) : Sp := fun vs H Q _ => (∃ v l g : Int, vs = [.int v, .int l, .int g] ∧ Q (.bl (decide (l ≤ v) && decide (v ≤ g))) H) ∨ ∃ x l g : V, vs = [x, l, g] ∧ Whole K H x false ∧ Q (.bl false) H
/-- written(n), n below 10 ^ 64 in size: as Python writes it -/
def shownInt (n : Int) : Str := if n < 0 then Str.ofString "-" ++ Str.ofString (toString (-n)) else Str.ofString (toString n)
def sp_written0 : Sp := fun vs H Q _ => ∃ n : Int, vs = [.int n] ∧ 0 ≤ n ∧ n < 10 ^ 64 ∧ ∀ H', Same H H' → Q (.str (Str.ofString (toString n))) H'
def sp_written : Sp := fun vs H Q _ => ∃ n : Int, vs = [.int n] ∧ -(10 ^ 64) < n ∧ n < 10 ^ 64 ∧ ∀ H', Same H H' → Q (.str (shownInt n)) H'
theorem FnOk.or {P : Program} {w : World} {K : PySem.W.Frag} {mg : Str → Option Value} {base : Heap} {CX : CXT} {k : Nat} {f : Addr} {fd : FuncData} {ps : List Str} {sp sp' : Sp} (F : FnOk P w K mg base CX k f fd ps sp) (G : FnOk P w K mg base CX k f fd ps sp') :
    FnOk P w K mg base CX k f fd ps (fun vs H Q E => sp vs H Q E ∨ sp' vs H Q E) :=
  ⟨fun vs H Q E h => h.elim (F.len _ _ _ _) (G.len _ _ _ _), fun A outer s H args us vs Q E r e b v h => h.elim (F.run A outer s H args us vs Q E r e b v) (G.run A outer s H args us vs Q E r e b v)⟩
theorem log_lt {n : Int} (h0 : 0 ≤ n) (h : n < 10 ^ 64) : n.natAbs.log2 < 1920 := PySem.Flt.log2_lt_of (by decide) (by
  have : (10 : Int) ^ 64 < 2 ^ 1920 := by decide +kernel
  omega)
theorem ge_chunk {n : Int} (h : n < 10 ^ 64) : decide ((10000000000000000000000000000000000000000000000000000000000000000 : Int) ≤ n) = false := decide_eq_false (by
  have e : (10 : Int) ^ 64 = 10000000000000000000000000000000000000000000000000000000000000000 := by decide +kernel
  omega)
theorem join1 (x : Str) : Txt.join (Str.ofString "") [x] = x := by
  first | rfl | simp [Txt.join]
section
variable {P : Program} {w : World} {K : PySem.W.Frag} {mg : Str → Option Value} {base : Heap} {Z : Zs}
theorem ok_is_whole (T : Txt K mg Z) : FnOk P w K mg base CX0 1 Z.f_is_whole Z.d_is_whole ["value"] (sp_is_whole K) := by
  refine T.F_is_whole.ok sc_is_whole (fun vs H Q E h => ?_) (fun cdv A outer s H vs Q E hr h => ?_)
  · obtain ⟨x, b, rfl, _⟩ := h
    rfl
  · obtain ⟨x, b, rfl, ⟨t, b1, b2, ty, e1, e2, e3⟩, k⟩ := h
    refine ⟨_, (pss_one (ps_ret (pe_and (pe_callB  call_isi (by rfl) T.b_isinstance (by decide +kernel) (pa_cons (pv 0) (pa_cons (pe_bltn (v := .ty "int") rfl T.b_int (by decide +kernel) rfl) pa_nil))) (pe_one (pe_not (pe_callB  call_isi (by rfl) T.b_isinstance (by decide +kernel) (pa_cons (pv 0) (pa_cons (pe_bltn (v := .ty "bool") rfl T.b_bool (by decide +kernel) rfl) pa_nil)))))))), ?_⟩
    refine ⟨_, rfl, _, _, t, _, b1, rfl, .ty "int", ty, e1, _, rfl, ?_⟩
    subst e3
    cases b1 with
    | true => exact iteT ⟨_, rfl, _, _, t, _, b2, rfl, .ty "bool", ty, e2, _, rfl, k⟩
    | false => exact iteF k
theorem ok_is_from (T : Txt K mg Z) : FnOk P w K mg base CX0 2 Z.f_is_from Z.d_is_from ["value", "least"] (sp_is_from K) := by
  refine T.F_is_from.ok sc_is_from (fun vs H Q E h => ?_) (fun cdv A outer s H vs Q E hr h => ?_)
  · rcases h with ⟨v, l, rfl, _⟩ | ⟨x, l, rfl, _⟩ <;> rfl
  · rcases h with ⟨v, l, rfl, k⟩ | ⟨x, l, rfl, hw, k⟩
    · refine ⟨_, (pss_one (ps_ret (pe_and (pe_call (ok_is_whole T) (hr.mono (by decide)) rfl T.g_is_whole T.k_is_whole T.bn_is_whole .nil pass0 (pa_cons (pv 0) pa_nil)) (pe_one (pe_cmpR op_ge (pv 0) (pv 1) (nomark _)))))), ?_⟩
      exact ⟨_, rfl, _, true, rfl, whole_int v, true, rfl, iteT ⟨_, rfl, _, rfl, _, _, rfl, rfl, k⟩⟩
    · refine ⟨_, (pss_one (ps_ret (pe_and (pe_call (ok_is_whole T) (hr.mono (by decide)) rfl T.g_is_whole T.k_is_whole T.bn_is_whole .nil pass0 (pa_cons (pv 0) pa_nil)) (pe_one (pe_cmpR op_ge (pv 0) (pv 1) (nomark _)))))), ?_⟩
      exact ⟨_, rfl, _, false, rfl, hw, false, rfl, iteF k⟩
theorem ok_is_between (T : Txt K mg Z) : FnOk P w K mg base CX0 3 Z.f_is_between Z.d_is_between ["value", "least", "greatest"] (sp_is_between K) := by
  refine T.F_is_between.ok sc_is_between (fun vs H Q E h => ?_) (fun cdv A outer s H vs Q E hr h => ?_)
  · rcases h with ⟨v, l, g, rfl, _⟩ | ⟨x, l, g, rfl, _⟩ <;> rfl
  · rcases h with ⟨v, l, g, rfl, k⟩ | ⟨x, l, g, rfl, hw, k⟩
    · refine ⟨_, (pss_one (ps_ret (pe_and (pe_call (ok_is_from T) (hr.mono (by decide)) rfl T.g_is_from T.k_is_from T.bn_is_from .nil pass0 (pa_cons (pv 0) (pa_cons (pv 1) pa_nil))) (pe_one (pe_cmpR op_le (pv 0) (pv 2) (nomark _)))))), ?_⟩
      refine ⟨_, rfl, _, rfl, .inl ⟨v, l, rfl, _, rfl, ?_⟩⟩
      cases e : decide (l ≤ v) with
      | true =>
        rw [e] at k
        exact iteT ⟨_, rfl, _, rfl, _, _, rfl, rfl, k⟩
      | false =>
        rw [e] at k
        exact iteF k
    · refine ⟨_, (pss_one (ps_ret (pe_and (pe_call (ok_is_from T) (hr.mono (by decide)) rfl T.g_is_from T.k_is_from T.bn_is_from .nil pass0 (pa_cons (pv 0) (pa_cons (pv 1) pa_nil))) (pe_one (pe_cmpR op_le (pv 0) (pv 2) (nomark _)))))), ?_⟩
      exact ⟨_, rfl, _, rfl, .inr ⟨x, l, rfl, hw, false, rfl, iteF k⟩⟩
theorem ok_written0 (T : Txt K mg Z) : FnOk P w K mg base CX0 1 Z.f_written Z.d_written ["number"] sp_written0 := by
  refine T.F_written.ok sc_written (fun vs H Q E h => ?_) (fun cdv A outer s H vs Q E hr h => ?_)
  · obtain ⟨n, rfl, _⟩ := h
    rfl
  · obtain ⟨n, rfl, n0, n1, k⟩ := h
    refine ⟨_, (pss_cons (ps_if (pt_cmpR op_lt (pv 0) pe_int (nomark _)) pss_never pss_nil)
      (pss_cons (ps_set (i := 1) sc_written.nd rfl (Or.inl rfl) (pv 0))
      (pss_cons (ps_set (i := 2) sc_written.nd rfl (Or.inl rfl) (pe_lst pa_nil))
      (pss_cons (ps_while PassesOwn.never (pt_cmpR op_ge (pv 1) (pe_glob (v := .int 10000000000000000000000000000000000000000000000000000000000000000) rfl T.c__CHUNK ⟨_, rfl⟩) (nomark _)) pss_never)
      (pss_cons (ps_expr (pe_bm PySem.F.plainAttrs_list PySem.F.slot_list_append PySem.F.type_list_append mt_append (pv 2) (pa_cons (pe_callTy call_str_int (by rfl) T.b_str (by decide +kernel) (pa_cons (pv 1) pa_nil)) pa_nil)))
      (pss_one (ps_ret (pe_join pe_str (pe_revL (pv 2)))))))))), ?_⟩
    refine ⟨_, rfl, _, _, rfl, rfl, _, rfl, ?_⟩
    rw [decide_eq_false (by omega : ¬ n < 0)]
    refine iteF ⟨_, rfl, by show 0 ≤ sizeLine; exact Nat.zero_le _, fun q hq => ?_⟩
    refine while_by (fun σ H2 => σ = [some (.int n), some (.int n), some (.ref q)] ∧ H2 = upd H q (.lst [])) (fun _ _ => 0) ⟨rfl, rfl⟩ ?_ ?_
    · rintro σ H2 ⟨rfl, rfl⟩
      refine ⟨_, rfl, _, _, rfl, rfl, _, rfl, ?_⟩
      rw [ge_chunk n1]
      refine iteF ?_
      refine ⟨_, rfl, .inl ⟨rfl, _, SqL.of upd_same⟩, _, rfl, _, rfl, log_lt n0 n1, q, _, _, rfl, rfl, upd_same, (by show 0 < sizeLine; decide), ?_⟩
      have n640 : (Str.ofString (toString n)).length ≤ 64 := toString_length_le n0 (by decide) n1
      refine ⟨⟨_, rfl⟩, _, rfl, q, _, rfl, SqL.of upd_same, fun p2 hp2 => ⟨_, p2, [Str.ofString (toString n)], rfl, rfl, .inl (SqL.of upd_same), ?_, ?_⟩⟩
      · show (Str.ofString (toString n)).length + 0 + 1 * 0 ≤ 16777216
        omega
      · rw [join1]
        refine k _ (Same.new (fun b o e => ?_) hp2)
        rw [upd_ne (ne_of_none e hq), upd_ne (ne_of_none e hq)]
        exact e
    · rintro σ H2 Q1 Q2 hQ ⟨v, e, i, j, e1, e2, b, e3, q1⟩
      exact ⟨v, e, i, j, e1, e2, b, e3, hQ _ _ q1⟩
theorem ok_written (T : Txt K mg Z) : FnOk P w K mg base CX0 2 Z.f_written Z.d_written ["number"] sp_written := by
  have neg : FnOk P w K mg base CX0 2 Z.f_written Z.d_written ["number"] (fun vs H Q _ => ∃ n : Int, vs = [.int n] ∧ -(10 ^ 64) < n ∧ n < 0 ∧ ∀ H', Same H H' → Q (.str (shownInt n)) H') := by
    refine T.F_written.ok sc_written (fun vs H Q E h => ?_) (fun cdv A outer s H vs Q E hr h => ?_)
    · obtain ⟨n, rfl, _⟩ := h
      rfl
    · obtain ⟨n, rfl, n0, n1, k⟩ := h
      refine ⟨_, (pss_cons (ps_if (pt_cmpR op_lt (pv 0) pe_int (nomark _)) (pss_one (ps_ret (pe_joined (.cons pe_str (.cons (pe_fmt (pe_call (ok_written0 T) (hr.mono (by decide)) rfl T.g_written T.k_written T.bn_written .nil pass0 (pa_cons (pe_un un_neg (pv 0)) pa_nil))) .nil))))) pss_nil) pss_never), ?_⟩
      refine ⟨_, rfl, _, _, rfl, rfl, _, rfl, ?_⟩
      rw [decide_eq_true (by omega : n < 0)]
      have sz : (Str.ofString (toString (-n))).length ≤ 64 := toString_length_le (by omega) (by decide) (by omega)
      have sl : sizeLine = 16777216 := sizeLine_eq
      refine iteT ⟨_, rfl, by decide, _, rfl, _, rfl, -n, rfl, by omega, by omega, fun H' sm => .inl ⟨_, rfl, by omega, _, rfl, ?_, ?_⟩⟩
      · rw [Str.length_append, Str.length_append]
        have : Str.empty.length = 0 := rfl
        have : (Str.ofString "-").length = 1 := by decide
        omega
      · have e : Str.empty ++ Str.ofString "-" ++ Str.ofString (toString (-n)) = shownInt n := by
          unfold shownInt
          rw [if_pos n1]
          rfl
        rw [e]
        exact k H' sm
  have pos : FnOk P w K mg base CX0 2 Z.f_written Z.d_written ["number"] sp_written0 := (ok_written0 T).mono (by decide)
  refine (FnOk.or neg pos).imp fun vs H Q E h => ?_
  obtain ⟨n, rfl, n0, n1, k⟩ := h
  by_cases c : n < 0
  · exact .inl ⟨n, rfl, n0, c, k⟩
  · refine .inr ⟨n, rfl, by omega, n1, fun H' sm => ?_⟩
    have := k H' sm
    rw [shownInt, if_neg c] at this
    exact this
end
end TT

set_option Elab.async false
set_option linter.all false
set_option maxRecDepth 100000
set_option maxHeartbeats 4000000
namespace TT
open PySem PySem.Spec PyProof.Rows L2
/-! ### ties -/
def way (b : Bool) : Str := if b = true then Str.ofString "down" else Str.ofString "up"
def backs (b : Bool) : Str := if b = true then Str.ofString " back" else Str.ofString ""
def tieText (r : Row) : Str := Str.empty ++ Str.ofString (toString r.f) ++ Str.ofString " " ++ Str.ofString (toString r.s) ++ Str.ofString " " ++ Str.ofString (toString r.l) ++ Str.ofString " " ++ way r.d ++ Str.ofString " " ++ shownInt r.a ++ backs r.b
/-- the attributes of a tie, in the sequence in which __init__ stores them -/
def fs1 (r : Row) : List (Str × V) := putF "first" (.int r.f) []
def fs2 (r : Row) : List (Str × V) := putF "second" (.int r.s) (fs1 r)
def fs3 (r : Row) : List (Str × V) := putF "length" (.int r.l) (fs2 r)
def fs4 (r : Row) : List (Str × V) := putF "amount" (.int r.a) (fs3 r)
def fs5 (r : Row) : List (Str × V) := putF "down" (.bl r.d) (fs4 r)
def fs6 (r : Row) : List (Str × V) := putF "backward" (.bl r.b) (fs5 r)
def tfs (r : Row) : List (Str × V) := putF "text" (.str (tieText r)) (fs6 r)
theorem len_putF {f : Str} {v : V} {fs : List (Str × V)} {n : Nat} (h : fs.length ≤ n) : (putF f v fs).length ≤ n + 1 := Nat.le_trans (length_putF f v fs) (Nat.succ_le_succ h)
theorem len1 (r : Row) : (fs1 r).length ≤ 1 := len_putF (Nat.le_refl 0)
theorem len2 (r : Row) : (fs2 r).length ≤ 2 := len_putF (len1 r)
theorem len3 (r : Row) : (fs3 r).length ≤ 3 := len_putF (len2 r)
theorem len4 (r : Row) : (fs4 r).length ≤ 4 := len_putF (len3 r)
theorem len5 (r : Row) : (fs5 r).length ≤ 5 := len_putF (len4 r)
theorem len6 (r : Row) : (fs6 r).length ≤ 6 := len_putF (len5 r)
theorem tfs_lookup (r : Row) (g : Str) : (tfs r).lookup g = if g = "text" then some (.str (tieText r)) else if g = "backward" then some (.bl r.b) else if g = "down" then some (.bl r.d) else if g = "amount" then some (.int r.a) else
    if g = "length" then some (.int r.l) else if g = "second" then some (.int r.s) else if g = "first" then some (.int r.f) else none := by
  unfold tfs fs6 fs5 fs4 fs3 fs2 fs1
  rw [lookup_putF, lookup_putF, lookup_putF, lookup_putF, lookup_putF, lookup_putF, lookup_putF]
  rfl
theorem fs6_backward (r : Row) : (fs6 r).lookup ("backward" : Str) = some (.bl r.b) := by
  unfold fs6
  rw [lookup_putF, if_pos rfl]
theorem tfs_text (r : Row) : (tfs r).lookup ("text" : Str) = some (.str (tieText r)) := by rw [tfs_lookup, if_pos rfl]
theorem tfs_backward (r : Row) : (tfs r).lookup ("backward" : Str) = some (.bl r.b) := by rw [tfs_lookup, if_neg (by decide +kernel), if_pos rfl]
theorem tfs_down (r : Row) : (tfs r).lookup ("down" : Str) = some (.bl r.d) := by rw [tfs_lookup, if_neg (by decide +kernel), if_neg (by decide +kernel), if_pos rfl]
theorem tfs_amount (r : Row) : (tfs r).lookup ("amount" : Str) = some (.int r.a) := by rw [tfs_lookup, if_neg (by decide +kernel), if_neg (by decide +kernel), if_neg (by decide +kernel), if_pos rfl]
theorem tfs_length (r : Row) : (tfs r).lookup ("length" : Str) = some (.int r.l) := by rw [tfs_lookup, if_neg (by decide +kernel), if_neg (by decide +kernel), if_neg (by decide +kernel), if_neg (by decide +kernel), if_pos rfl]
theorem tfs_second (r : Row) : (tfs r).lookup ("second" : Str) = some (.int r.s) := by rw [tfs_lookup, if_neg (by decide +kernel), if_neg (by decide +kernel), if_neg (by decide +kernel), if_neg (by decide +kernel), if_neg (by decide +kernel), if_pos rfl]
theorem tfs_first (r : Row) : (tfs r).lookup ("first" : Str) = some (.int r.f) := by rw [tfs_lookup, if_neg (by decide +kernel), if_neg (by decide +kernel), if_neg (by decide +kernel), if_neg (by decide +kernel), if_neg (by decide +kernel), if_neg (by decide +kernel), if_pos rfl]
/-- a tie of the six values stands at q -/
def TieAt (C : Addr) (H : Hp) (q : Addr) (r : Row) : Prop := ∃ dx, H q = some (.ins C dx (tfs r))
def sp_check_parts : Sp := fun vs H Q _ => ∃ f s l : Int, vs = [.int f, .int s, .int l] ∧ 0 ≤ f ∧ 0 ≤ s ∧ 1 ≤ l ∧ f + l ≤ 10 ^ 30 ∧ s + l ≤ 10 ^ 30 ∧ Q .non H
def sp_check_leading : Sp := fun vs H Q _ => ∃ (a : Int) (d b : Bool), vs = [.int a, .bl d, .bl b] ∧ Q .non H
/-- a tie of these values is made -/
def sp_T_init (C : Addr) : Sp := fun vs H Q _ => ∃ (p dx : Addr) (r : Row) (b : Bool), vs = [.ref p, .int r.f, .int r.s, .int r.l, .int r.a, .bl r.d, .bl b] ∧ r.Ok ∧ r.b = (b && decide (1 < r.l)) ∧ H p = some (.ins C dx []) ∧
  ∀ H', H' p = some (.ins C dx (tfs r)) → Keep p H H' → Q .non H'
theorem share0 {T G : Prop} (h : T → G) (t : T) : G := h t
local macro_rules | `(tactic| walk_at "len") => `(tactic| ((try simp only [Str.length_append]); omega))
theorem shown_len {n : Int} (h0 : -(10 ^ 64) < n) (h1 : n < 10 ^ 64) : (shownInt n).length ≤ 66 := by
  unfold shownInt
  split
  · have := toString_length_le (v := -n) (by omega) (k := 64) (by decide) (by omega)
    have e : (Str.ofString "-").length = 1 := by decide
    rw [Str.length_append]
    omega
  · have := toString_length_le (v := n) (by omega) (k := 64) (by decide) h1
    omega
section
variable {P : Program} {w : World} {K : PySem.W.Frag} {mg : Str → Option Value} {base : Heap} {Z : Zs}
theorem ok_check_parts (T : Txt K mg Z) : FnOk P w K mg base CX0 3 Z.f_check_parts Z.d_check_parts ["first", "second", "length"] sp_check_parts := by
  refine T.F_check_parts.ok sc_check_parts (fun vs H Q E h => ?_) (fun cdv A outer s H vs Q E hr h => ?_)
  · obtain ⟨f, g, l, rfl, _⟩ := h
    rfl
  · obtain ⟨f, g, l, rfl, f0, g0, l0, fe, ge, k⟩ := h
    refine ⟨_, (pss_cons (ps_if (pt_not (pt_val (pe_call (ok_is_from T) (hr.mono (by decide)) rfl T.g_is_from T.k_is_from T.bn_is_from .nil pass0 (pa_cons (pv 0) (pa_cons pe_int pa_nil))))) (pss_one ps_never) pss_nil)
      (pss_cons (ps_if (pt_not (pt_val (pe_call (ok_is_from T) (hr.mono (by decide)) rfl T.g_is_from T.k_is_from T.bn_is_from .nil pass0 (pa_cons (pv 1) (pa_cons pe_int pa_nil))))) (pss_one ps_never) pss_nil)
      (pss_one (ps_if (PW.pt (pw_or (pt_not (pt_val (pe_call (ok_is_from T) (hr.mono (by decide)) rfl T.g_is_from T.k_is_from T.bn_is_from .nil pass0 (pa_cons (pv 2) (pa_cons pe_int pa_nil))))) (pw_or1 (pt_cmpR op_gt (pe_op op_add (pe_callB  (call_max2 rfl) (by rfl) T.b_max (by decide +kernel) (pa_cons (pv 0) (pa_cons (pv 1) pa_nil))) (pv 2)) (pe_glob (v := .int 1000000000000000000000000000000) rfl T.c_GREATEST ⟨_, rfl⟩) (nomark _))))) (pss_one ps_never) pss_nil)))), ?_⟩
    refine ⟨_, rfl, .inl ⟨f, 0, rfl, true, by rw [decide_eq_true f0], iteF ?_⟩⟩
    refine ⟨_, rfl, .inl ⟨g, 0, rfl, true, by rw [decide_eq_true g0], iteF ?_⟩⟩
    refine ⟨_, rfl, .inl ⟨l, 1, rfl, true, by rw [decide_eq_true l0], iteF ?_⟩⟩
    refine ⟨_, rfl, _, rfl, _, _, rfl, _, rfl, _, _, rfl, rfl, _, _, rfl, rfl, _, rfl, ?_⟩
    rw [decide_eq_false]
    · exact iteF k
    · have e : (10 : Int) ^ 30 = 1000000000000000000000000000000 := by decide +kernel
      split <;> omega
theorem ok_check_leading (T : Txt K mg Z) : FnOk P w K mg base CX0 2 Z.f_check_leading Z.d_check_leading ["amount", "down", "backward"] sp_check_leading := by
  refine T.F_check_leading.ok sc_check_leading (fun vs H Q E h => ?_) (fun cdv A outer s H vs Q E hr h => ?_)
  · obtain ⟨a, d, b, rfl, _⟩ := h
    rfl
  · obtain ⟨a, d, b, rfl, k⟩ := h
    refine ⟨_, (pss_cons (ps_if (pt_not (pt_val (pe_call (ok_is_whole T) (hr.mono (by decide)) rfl T.g_is_whole T.k_is_whole T.bn_is_whole .nil pass0 (pa_cons (pv 0) pa_nil)))) (pss_one ps_never) pss_nil)
      (pss_cons (ps_if (pt_not (pt_val (pe_callB  call_isi (by rfl) T.b_isinstance (by decide +kernel) (pa_cons (pv 1) (pa_cons (pe_bltn (v := .ty "bool") rfl T.b_bool (by decide +kernel) rfl) pa_nil))))) (pss_one ps_never) pss_nil)
      (pss_one (ps_if (pt_not (pt_val (pe_callB  call_isi (by rfl) T.b_isinstance (by decide +kernel) (pa_cons (pv 2) (pa_cons (pe_bltn (v := .ty "bool") rfl T.b_bool (by decide +kernel) rfl) pa_nil))))) (pss_one ps_never) pss_nil)))), ?_⟩
    refine ⟨_, rfl, _, true, rfl, whole_int a, true, rfl, iteF ?_⟩
    refine ⟨_, rfl, _, _, _, _, true, rfl, .ty "bool", .base (.bl d), kit_ty (by decide +kernel), true, rfl, iteF ?_⟩
    exact ⟨_, rfl, _, _, _, _, true, rfl, .ty "bool", .base (.bl b), kit_ty (by decide +kernel), true, rfl, iteF k⟩
theorem ok_T_init (T : Txt K mg Z) : FnOk P w K mg base CX0 4 Z.f_T_init Z.d_T_init ["self", "first", "second", "length", "amount", "down", "backward"] (sp_T_init Z.cC) := by
  refine T.F_T_init.ok sc_T_init (fun vs H Q E h => ?_) (fun cdv A outer s H vs Q E hr h => ?_)
  · obtain ⟨p, dx, r, b, rfl, _⟩ := h
    rfl
  · obtain ⟨p, dx, r, b, rfl, ok, hb, hp, k⟩ := h
    refine ⟨_, (pss_cons (ps_expr (pe_call (ok_check_parts T) (hr.mono (by decide)) rfl T.g_check_parts T.k_check_parts T.bn_check_parts .nil pass0 (pa_cons (pv 1) (pa_cons (pv 2) (pa_cons (pv 3) pa_nil)))))
      (pss_cons (ps_expr (pe_call (ok_check_leading T) (hr.mono (by decide)) rfl T.g_check_leading T.k_check_leading T.bn_check_leading .nil pass0 (pa_cons (pv 4) (pa_cons (pv 5) (pa_cons (pv 6) pa_nil)))))
      (pss_cons (ps_fld (pv 0) (pv 1) rfl)
      (pss_cons (ps_fld (pv 0) (pv 2) rfl)
      (pss_cons (ps_fld (pv 0) (pv 3) rfl)
      (pss_cons (ps_fld (pv 0) (pv 4) rfl)
      (pss_cons (ps_fld (pv 0) (pv 5) rfl)
      (pss_cons (ps_fld (pv 0) (pe_and (pv 6) (pe_one (pe_cmpR op_gt (pv 3) pe_int (nomark _)))) rfl)
      (pss_cons (ps_set (i := 7) sc_T_init.nd rfl (Or.inl rfl) (pe_ifExp (pt_val (pv 5)) pe_str pe_str))
      (pss_cons (ps_set (i := 8) sc_T_init.nd rfl (Or.inl rfl) (pe_ifExp (pt_val (pe_fld (pv 0) rfl)) pe_str pe_str))
      (pss_one (ps_fld (pv 0) (pe_joined (.cons (pe_fmt (pv 1)) (.cons pe_str (.cons (pe_fmt (pv 2)) (.cons pe_str (.cons (pe_fmt (pv 3)) (.cons pe_str (.cons (pe_fmt (pv 7)) (.cons pe_str (.cons (pe_fmt (pe_call (ok_written T) (hr.mono (by decide)) rfl T.g_written T.k_written T.bn_written .nil pass0 (pa_cons (pv 4) pa_nil))) (.cons (pe_fmt (pv 8)) .nil))))))))))) rfl)))))))))))), ?_⟩
    refine ⟨_, rfl, _, rfl, _, rfl, _, _, _, rfl, ok.f0, ok.s0, ok.l0, ok.fe, ok.se, ?_⟩
    refine ⟨_, rfl, _, rfl, _, rfl, _, _, _, rfl, ?_⟩
    refine ⟨_, rfl, _, rfl, p, _, dx, _, rfl, hp, T.cl, T.n_first, (by decide : 0 < 1000), ?_⟩
    refine ⟨_, rfl, _, rfl, p, _, dx, _, rfl, upd_same, T.cl, T.n_second, Nat.lt_of_le_of_lt (len1 r) (by decide), ?_⟩
    refine ⟨_, rfl, _, rfl, p, _, dx, _, rfl, upd_same, T.cl, T.n_length, Nat.lt_of_le_of_lt (len2 r) (by decide), ?_⟩
    refine ⟨_, rfl, _, rfl, p, _, dx, _, rfl, upd_same, T.cl, T.n_amount, Nat.lt_of_le_of_lt (len3 r) (by decide), ?_⟩
    refine ⟨_, rfl, _, rfl, p, _, dx, _, rfl, upd_same, T.cl, T.n_down, Nat.lt_of_le_of_lt (len4 r) (by decide), ?_⟩
    refine ⟨_, rfl, b, rfl, ?_⟩
    refine' share0 (fun tail => ite2 (fun c => ?b1) (fun c => ?b2)) ?b3
    case b1 =>
      refine ⟨_, rfl, _, _, rfl, rfl, ?_⟩
      have e : decide (1 < r.l) = r.b := by rw [hb, c] <;> rfl
      dsimp only
      rw [e]
      exact tail
    case b2 =>
      have e : V.bl false = V.bl r.b := by
        cases b with
        | true => exact absurd rfl c
        | false => rw [hb] <;> rfl
      dsimp only
      rw [e]
      exact tail
    case b3 =>
      have sl : sizeLine = 16777216 := sizeLine_eq
      have l30 : (10 : Int) ^ 30 < 10 ^ 31 := by decide +kernel
      have l64 : (10 : Int) ^ 60 < 10 ^ 64 := by decide +kernel
      have hf := ok.f0; have hs := ok.s0; have hl := ok.l0; have hfe := ok.fe; have hse := ok.se
      have ll1 := ok.al; have ll2 := ok.ah
      have zf : (Str.ofString (toString r.f)).length ≤ 31 := toString_length_le hf (by decide) (by omega)
      have zs : (Str.ofString (toString r.s)).length ≤ 31 := toString_length_le hs (by decide) (by omega)
      have zl : (Str.ofString (toString r.l)).length ≤ 31 := toString_length_le (by omega) (by decide) (by omega)
      have za : (shownInt r.a).length ≤ 66 := shown_len (by omega) (by omega)
      have z0 : Str.empty.length = 0 := rfl
      have z1 : (Str.ofString " ").length = 1 := by decide
      have zw : (Str.ofString "down").length = 4 := by decide
      have zu : (Str.ofString "up").length = 2 := by decide
      have zb : (Str.ofString " back").length = 5 := by decide
      have ze : (Str.ofString "").length = 0 := by decide
      have gf : r.f.natAbs.log2 < 1920 := log_lt hf (by omega)
      have gs : r.s.natAbs.log2 < 1920 := log_lt hs (by omega)
      have gl : r.l.natAbs.log2 < 1920 := log_lt (by omega) (by omega)
      refine ⟨_, rfl, p, _, dx, _, rfl, upd_same, T.cl, T.n_backward, Nat.lt_of_le_of_lt (len5 r) (by decide), _, rfl, r.d, rfl, ?_⟩
      refine ite2 (fun c1 => ?_) (fun c1 => ?_)
      all_goals
        refine ⟨_, rfl, p, _, dx, _, _, rfl, upd_same, T.cl, T.n_backward, fs6_backward r, r.b, rfl, ?_⟩
        refine ite2 (fun c2 => ?_) (fun c2 => ?_)
      all_goals
        refine ⟨_, rfl, .inr ⟨r.f, rfl, gf, _, rfl, by walk_at "len", _, rfl, by walk_at "len", ?_⟩⟩
        refine ⟨_, rfl, .inr ⟨r.s, rfl, gs, _, rfl, by walk_at "len", _, rfl, by walk_at "len", ?_⟩⟩
        refine ⟨_, rfl, .inr ⟨r.l, rfl, gl, _, rfl, by walk_at "len", _, rfl, by walk_at "len", ?_⟩⟩
        refine ⟨_, rfl, .inl ⟨_, rfl, by walk_at "len", _, rfl, by walk_at "len", _, rfl, by walk_at "len", ?_⟩⟩
        refine ⟨_, rfl, r.a, rfl, by omega, by omega, fun H' sm => .inl ⟨_, rfl, by walk_at "len", _, rfl, by walk_at "len", ?_⟩⟩
        refine ⟨_, rfl, .inl ⟨_, rfl, by walk_at "len", _, rfl, by walk_at "len", ?_⟩⟩
        refine ⟨_, rfl, p, _, dx, _, rfl, sm _ _ upd_same, T.cl, T.n_text, Nat.lt_of_le_of_lt (len6 r) (by decide), ?_⟩
        refine k _ ?_ ?_
        · have e : tieText r = Str.empty ++ Str.ofString (toString r.f) ++ Str.ofString " " ++ Str.ofString (toString r.s) ++ Str.ofString " " ++ Str.ofString (toString r.l) ++ Str.ofString " " ++ way r.d ++ Str.ofString " " ++ shownInt r.a ++ backs r.b := rfl
          simp only [way, backs, c1, c2, if_true, if_false, Bool.false_eq_true] at e
          unfold tfs
          rw [e]
          exact upd_same
        · intro q o n h
          rw [upd_ne n]
          refine sm _ _ ?_
          rw [upd_ne n, upd_ne n, upd_ne n, upd_ne n, upd_ne n, upd_ne n]
          exact h
end
end TT

namespace TT
open PySem PySem.Spec PyProof.Rows L2
/-! ### the errors are made -/
/-- in a dict of its own, that was not there -/
def sp_E_init (K : PySem.W.Frag) (Z : Zs) : Sp := fun vs H Q _ => ∃ (a C : Addr) (v : V), vs = [.ref a, v] ∧ H a = some (exo a C none) ∧ ExcT K (Z.c 3) Z.f_E_init C ∧
  ∀ (d : Addr) (H' : Hp), Keep a H H' → H d = none → H' a = some (exo a C (some d)) → H' d = some (exd d [("value", v)]) → Q .non H'
/-- what a def lets out: C of v -/
def Out (E : XK) (C : Addr) (v : V) (H : Hp) : Prop := ∀ (d : Addr) (H' : Hp), Same H H' → H d = none → H' d = some (.xd [("value", v)]) → E (.ref C) (some d) H'
section
variable {P : Program} {w : World} {K : PySem.W.Frag} {mg : Str → Option Value} {base : Heap} {Z : Zs}
theorem ok_E_init (T : Txt K mg Z) : FnOk P w K mg base CX0 1 Z.f_E_init Z.d_E_init ["self", "value"] (sp_E_init K Z) := by
  refine T.F_E_init.ok sc_E_init (fun vs H Q E h => ?_) (fun cdv A outer s H vs Q E hr h => ?_)
  · obtain ⟨a, C, v, rfl, _⟩ := h
    rfl
  · obtain ⟨a, C, v, rfl, ha, X, k⟩ := h
    refine ⟨_, (pss_cons (ps_expr (pe_veinit rfl T.b_ValueError T.z_ve (pa_cons (pv 0) (pa_cons (pv 1) pa_nil))))
      (pss_one (ps_ost (pv 0) (pv 1)))), ?_⟩
    refine ⟨_, rfl, _, rfl, a, C, [v], rfl, by show 1 ≤ 1000; decide, X.ox, ha, ?_⟩
    refine ⟨_, rfl, _, rfl, a, C, rfl, X.ox, X.nv, .inl ⟨ha, fun d hd hne => ?_⟩⟩
    refine k d _ (fun b o n e => ?_) hd upd_same ?_
    · rw [upd_ne n, upd_ne (ne_of_none e hd)]
      exact e
    · rw [upd_ne hne]
      exact upd_same
/-- raise C(x): what its reading asks -/
theorem mkR {C : Addr} {x : V} {E : XK} {H : Hp} (T : ExcT K (Z.c 3) Z.f_E_init C) (h : Out E C x H) :
    ([x] : List V).length ≤ 1000 ∧ ∀ a, H a = none → sp_E_init K Z (.ref a :: ([x] ++ [])) (upd H a (exo a C none))
      (fun v H2 => v = .non ∧ ∃ (d : Addr) (fs : List (Str × V)), H2 a = some (exo a C (some d)) ∧ H2 d = some (exd d fs) ∧ H d = none ∧ E (.ref C) (some d) (upd (del H2 a) d (.xd fs))) (fun _ _ _ => False) := by
  refine ⟨by show 1 ≤ 1000; decide, fun a ha => ⟨a, C, x, rfl, upd_same, T, fun d H' k hd e1 e2 => ⟨rfl, d, _, e1, e2, ?_, ?_⟩⟩⟩
  · by_cases c : d = a
    · rw [c]; exact ha
    · rw [upd_ne c] at hd; exact hd
  · have nd : d ≠ a := by
      rintro rfl
      rw [upd_same] at hd
      cases hd
    rw [upd_ne nd] at hd
    refine h d _ (fun b o e => ?_) hd upd_same
    have nb := ne_of_none e ha
    rw [upd_ne (ne_of_none e hd), del_ne nb]
    exact k b o nb (by rw [upd_ne nb]; exact e)
/-- caught as a TuneError, it stands behind the suite -/
theorem Out.met {C : Addr} {v : V} {H : Hp} {G : VK} (T : ExcT K (Z.c 3) Z.f_E_init C) (Te : ExcT K (Z.c 3) Z.f_E_init (Z.c 3)) (h : ∀ a H', Same H H' → Met H' a C [("value", v)] → G (.ref a) H') :
    Out (fun cls d H' => PySem.W.exmOne K cls (.ref (Z.c 3)) = some true ∧ ∀ a, H' a = none → G (.ref a) (upd H' a (exk a cls d))) C v H := fun d H' s hd e => by
  refine ⟨T.exm Te, fun a ha => h a _ (fun b o z => ?_) ⟨d, upd_same, ?_⟩⟩
  · rw [upd_ne (ne_of_none (s _ _ z) ha)]; exact s _ _ z
  · rw [upd_ne (ne_of_none e ha)]; exact e
end
section
variable {P : Program} {w : World} {K : PySem.W.Frag} {mg : Str → Option Value} {base : Heap} {Z : Zs} {k : Nat}
end
end TT


namespace TT
open PySem PySem.Spec PyProof.Rows L2
/-- v is an int i, or none -/
inductive IsI (K : PySem.W.Frag) (H : Hp) : V → Option Int → Prop
  | int (i : Int) : IsI K H (.int i) (some i)
  | no {v : V} (h : Whole K H v false) : IsI K H v none
section
variable {P : Program} {w : World} {K : PySem.W.Frag} {mg : Str → Option Value} {base : Heap} {Z : Zs}
end
end TT


namespace TT
open PySem PySem.Spec PyProof.Rows L2
theorem Same.fresh {H H' : Hp} {q : Addr} (s : Same H H') (n : H' q = none) : H q = none := by
  cases h : H q with
  | none => rfl
  | some o => rw [s _ _ h] at n; cases n
theorem Same.updN {H H1 : Hp} {q : Addr} {o : HO} (s : Same H H1) (n : H q = none) : Same H (L2.upd H1 q o) := fun b u e => by
  rw [upd_ne (ne_of_none e n)]
  exact s _ _ e
end TT

set_option Elab.async false
set_option linter.all false
set_option maxRecDepth 100000
set_option maxHeartbeats 4000000
namespace TT
open PySem PySem.Spec PyProof.Rows L2
theorem fnR_of {P : Program} {w : World} {K : PySem.W.Frag} {mg : Str → Option Value} {base : Heap} {CX : CXT} {k : Nat} {f : Addr} {fd : FuncData} {ps : List Str} {sp : Sp} (F : FnOk P w K mg base CX k f fd ps sp) (hb : Binds K fd ps []) : FnR P w K mg base CX k f sp := by
  intro A outer s H us vs Q E hr e0 rv h
  have n : us.length = ps.length := rv.length ▸ F.len _ _ _ _ h
  have b := hb s us (e0.mod.kin.keeps fun b o e => (e0.bs b o e).1) (by rw [List.append_nil]; exact n)
  rw [List.append_nil] at b
  exact F.run A outer s H ⟨us, []⟩ us vs Q E hr e0 b rv h
def partner (r : Row) (p : Int) : Int := if r.b = true then r.s + r.l - 1 - (p - r.f) else r.s + (p - r.f)
def led (r : Row) (n : Int) : Int := if r.d = true then r.a - n else r.a + n
def Row.back (r : Row) : Row := ⟨r.s, r.f, r.l, if r.d = true then r.a else -r.a, r.d, r.b⟩
theorem Row.Ok.back {r : Row} (h : r.Ok) : r.back.Ok := by
  obtain ⟨f0, s0, l0, fe, se, al, ah, bk⟩ := h
  refine ⟨s0, f0, l0, se, fe, ?_, ?_, bk⟩
  · show -(10 ^ 60) < if r.d = true then r.a else -r.a
    split <;> omega
  · show (if r.d = true then r.a else -r.a) < 10 ^ 60
    split <;> omega
theorem Same.tie {C q : Addr} {H H' : Hp} {r : Row} (k : Same H H') (h : TieAt C H q r) : TieAt C H' q r := by
  obtain ⟨dx, e⟩ := h
  exact ⟨dx, k _ _ e⟩
theorem Same.row {q : Addr} {H H' : Hp} {r : Row} (k : Same H H') (h : RowAt H q r) : RowAt H' q r := k _ _ h
/-- behind the making of a tie -/
theorem made {H H' : Hp} {x dx C : Addr} (nx : H x = none) (nd : H dx = none) (k : Keep x (upd (upd H dx (.own x)) x (.ins C dx [])) H') : Same H H' := fun b o e => by
  refine k b o (ne_of_none e nx) ?_
  rw [upd_ne (ne_of_none e nx), upd_ne (ne_of_none e nd)]
  exact e
def sp_T_invert (C : Addr) : Sp := fun vs H Q _ => ∃ (q : Addr) (r : Row), vs = [.ref q] ∧ TieAt C H q r ∧ r.Ok ∧ ∀ x H', H x = none → Same H H' → TieAt C H' x r.back → Q (.ref x) H'
def sp_l_tie (C : Addr) : Sp := fun vs H Q _ => ∃ (q : Addr) (r : Row), vs = [.ref q] ∧ RowAt H q r ∧ r.Ok ∧ ∀ x H', H x = none → Same H H' → TieAt C H' x r → Q (.ref x) H'
def sp_l_far : Sp := fun vs H Q _ => ∃ (q : Addr) (r : Row) (z : Int), vs = [.ref q, .int z] ∧ RowAt H q r ∧ ∀ x H', H x = none → Same H H' → RowAt H' x { r with f := r.f + z, s := r.s + z } → Q (.ref x) H'
/-- two ties of the same values are equal -/
def TieEq (C : Addr) (a b : Addr) (H : Hp) : Prop := ∃ r, TieAt C H a r ∧ TieAt C H b r
section
variable {P : Program} {w : World} {K : PySem.W.Frag} {mg : Str → Option Value} {base : Heap} {Z : Zs}
theorem mkT (T : Txt K mg Z) : Mk K Z.cC Z.f_T_init := ⟨T.mkC, T.a_T_init, T.i_T_init, T.kC⟩
/-- Tie(first, second, length, amount, down=.., backward=..) -/
theorem kb_tie (T : Txt K mg Z) : ∃ its mv : List Value, KBn K Z.d_T_init ["self", "first", "second", "length", "amount", "down", "backward"] 5 ["down", "backward"] (fun us ws => us ++ ws) (fun vs zs => vs ++ zs) := by
  obtain ⟨its, mv, h⟩ := T.F_T_init.kbinds (ps := ["self", "first", "second", "length", "amount", "down", "backward"]) 5 ["down", "backward"] [] (fun us _ _ ws => us ++ ws) (by decide) (by decide) (fun q hq => by cases hq)
    (fun r1 _ _ r4 => r1.append r4) (fun T D doc pm an cdv ct us its mv ws l1 l2 l3 l4 => by
      match us, its, mv, ws, l1, l2, l3, l4 with
      | [_, _, _, _, _], [_], [], [_, _], _, _, _, _ => exact ⟨_, rfl, rfl⟩)
  exact ⟨its, mv, h⟩
theorem ok_l_tie (T : Txt K mg Z) : FnOk P w K mg base CX0 6 Z.f_l_tie Z.d_l_tie ["_law_row_here"] (sp_l_tie Z.cC) := by
  refine T.F_l_tie.ok sc_l_tie (fun vs H Q E h => ?_) (fun cdv A outer s H vs Q E hr h => ?_)
  · obtain ⟨q, r, rfl, _⟩ := h
    rfl
  · obtain ⟨q, r, rfl, hq, ok, k⟩ := h
    obtain ⟨its, mv, kb⟩ := kb_tie T
    refine ⟨_, (pss_one (ps_ret (pe_makeK (mkT T) (ok_T_init T) (hr.mono (by decide)) rfl T.g_C kb pass0 (pa_cons (pe_ix ix_tup (pv 0) pe_int (fun _ _ => rfl)) (pa_cons (pe_ix ix_tup (pv 0) pe_int (fun _ _ => rfl)) (pa_cons (pe_ix ix_tup (pv 0) pe_int (fun _ _ => rfl)) (pa_cons (pe_ix ix_tup (pv 0) pe_int (fun _ _ => rfl)) pa_nil)))) (pk_cons (pe_ix ix_tup (pv 0) pe_int (fun _ _ => rfl)) (pk_cons (pe_ix ix_tup (pv 0) pe_int (fun _ _ => rfl)) pk_nil))))), ?_⟩
    refine ⟨_, rfl, q, _, _, _, rfl, rfl, SqT.of hq, rfl, _, rfl, q, _, _, _, rfl, rfl, SqT.of hq, rfl, _, rfl, q, _, _, _, rfl, rfl, SqT.of hq, rfl, _, rfl, q, _, _, _, rfl, rfl, SqT.of hq, rfl, ?_⟩
    refine ⟨_, rfl, q, _, _, _, rfl, rfl, SqT.of hq, rfl, _, rfl, q, _, _, _, rfl, rfl, SqT.of hq, rfl, rfl, rfl, fun x dx nx nd ne => ?_⟩
    refine ⟨x, dx, r, r.b, rfl, ok, ?_, upd_same, fun H' hx kp => ⟨rfl, k x H' nx (made nx nd kp) ⟨dx, hx⟩⟩⟩
    cases hb : r.b with
    | true => rw [decide_eq_true (ok.bk hb)] <;> rfl
    | false => rfl
theorem ok_T_invert (T : Txt K mg Z) : FnOk P w K mg base CX0 6 Z.f_T_invert Z.d_T_invert ["self"] (sp_T_invert Z.cC) := by
  refine T.F_T_invert.ok sc_T_invert (fun vs H Q E h => ?_) (fun cdv A outer s H vs Q E hr h => ?_)
  · obtain ⟨q, r, rfl, _⟩ := h
    rfl
  · obtain ⟨q, r, rfl, ⟨dx0, hq⟩, ok, k⟩ := h
    obtain ⟨its, mv, kb⟩ := kb_tie T
    refine ⟨_, (pss_cons (ps_set (i := 1) sc_T_invert.nd rfl (Or.inl rfl) (pe_ifExp (pt_val (pe_fld (pv 0) rfl)) (pe_fld (pv 0) rfl) (pe_un un_neg (pe_fld (pv 0) rfl)))) (pss_one (ps_ret (pe_makeK (mkT T) (ok_T_init T) (hr.mono (by decide)) rfl T.g_C kb pass0 (pa_cons (pe_fld (pv 0) rfl) (pa_cons (pe_fld (pv 0) rfl) (pa_cons (pe_fld (pv 0) rfl) (pa_cons (pv 1) pa_nil)))) (pk_cons (pe_fld (pv 0) rfl) (pk_cons (pe_fld (pv 0) rfl) pk_nil)))))), ?_⟩
    have okb := ok.back
    refine ⟨_, rfl, q, _, dx0, _, _, rfl, hq, T.cl, T.n_down, tfs_down r, r.d, rfl, ?_⟩
    refine' share0 (fun tail => ite2 (fun c => ?b1) (fun c => ?b2)) ?b3
    case b1 =>
      refine ⟨_, rfl, q, _, dx0, _, _, rfl, hq, T.cl, T.n_amount, tfs_amount r, ?_⟩
      have e : r.a = r.back.a := (if_pos c).symm
      dsimp only
      rw [e]
      exact tail
    case b2 =>
      refine ⟨_, rfl, q, _, dx0, _, _, rfl, hq, T.cl, T.n_amount, tfs_amount r, _, rfl, ?_⟩
      have e : -r.a = r.back.a := (if_neg c).symm
      dsimp only
      rw [e]
      exact tail
    case b3 =>
      refine ⟨_, rfl, q, _, dx0, _, _, rfl, hq, T.cl, T.n_second, tfs_second r, _, rfl, q, _, dx0, _, _, rfl, hq, T.cl, T.n_first, tfs_first r, _, rfl, q, _, dx0, _, _, rfl, hq, T.cl, T.n_length, tfs_length r, _, rfl, ?_⟩
      refine ⟨_, rfl, q, _, dx0, _, _, rfl, hq, T.cl, T.n_down, tfs_down r, _, rfl, q, _, dx0, _, _, rfl, hq, T.cl, T.n_backward, tfs_backward r, rfl, rfl, fun x dx nx nd ne => ?_⟩
      refine ⟨x, dx, r.back, r.b, rfl, okb, ?_, upd_same, fun H' hx kp => ⟨rfl, k x H' nx (made nx nd kp) ⟨dx, hx⟩⟩⟩
      show r.b = (r.b && decide (1 < r.l))
      cases hb : r.b with
      | true => rw [decide_eq_true (ok.bk hb)] <;> rfl
      | false => rfl
theorem ok_l_far (T : Txt K mg Z) : FnOk P w K mg base CX0 1 Z.f_l_far Z.d_l_far ["_law_row_here", "_law_far_here"] sp_l_far := by
  refine T.F_l_far.ok sc_l_far (fun vs H Q E h => ?_) (fun cdv A outer s H vs Q E hr h => ?_)
  · obtain ⟨q, r, z, rfl, _⟩ := h
    rfl
  · obtain ⟨q, r, z, rfl, hq, k⟩ := h
    refine ⟨_, (pss_one (ps_ret (pe_op op_catA (pe_tup (pa_cons (pe_op op_add (pe_ix ix_tup (pv 0) pe_int (fun _ _ => rfl)) (pv 1)) (pa_cons (pe_op op_add (pe_ix ix_tup (pv 0) pe_int (fun _ _ => rfl)) (pv 1)) pa_nil))) (pe_slice sl_tupA (pv 0) (po_some pe_int) po_none)))), ?_⟩
    refine ⟨_, rfl, q, _, _, _, rfl, rfl, SqT.of hq, rfl, _, rfl, _, _, rfl, rfl, _, rfl, q, _, _, _, rfl, rfl, SqT.of hq, rfl, _, rfl, _, _, rfl, rfl, by show 2 ≤ sizeLine; decide, fun t ht => ?_⟩
    have hq1 : upd H t (.tup [.int (r.f + z), .int (r.s + z)]) q = some (.tup r.vs) := by rw [upd_ne (ne_of_none hq ht)]; exact hq
    refine ⟨_, rfl, _, rfl, q, _, rfl, SqT.of hq1, fun c => absurd (show (2 : Nat) = 0 from c.1) (by decide), fun _ u hu => ?_⟩
    have hne : t ≠ u := ne_of_none (H := upd H t (.tup [.int (r.f + z), .int (r.s + z)])) upd_same hu
    refine ⟨t, u, [.int (r.f + z), .int (r.s + z)], [.int r.l, .int r.a, .bl r.d, .bl r.b], rfl, rfl, SqT.of (by rw [upd_ne hne]; exact upd_same), SqT.of upd_same, (by show 2 + 4 ≤ sizeLine; decide), (fun c => by cases c), (fun _ c => by cases c), fun _ _ x hx => ?_⟩
    · have s1 : Same H (upd (upd H t (.tup [.int (r.f + z), .int (r.s + z)])) u (.tup [.int r.l, .int r.a, .bl r.d, .bl r.b])) := Same.new (Same.new (Same.refl H) ht) hu
      exact k x _ (s1.free hx) (Same.new s1 hx) upd_same
end
end TT


set_option Elab.async false
set_option linter.all false
set_option maxRecDepth 100000
set_option maxHeartbeats 4000000
namespace TT
open PySem PySem.Spec PyProof.Rows L2
section
variable {P : Program} {w : World} {K : PySem.W.Frag} {mg : Str → Option Value} {base : Heap} {Z : Zs}
theorem ok_T_eq (T : Txt K mg Z) : FnOk P w K mg base CX0 1 Z.f_T_eq Z.d_T_eq ["self", "other"] (spEq (TieEq Z.cC)) := by
  refine T.F_T_eq.ok sc_T_eq (fun vs H Q E h => ?_) (fun cdv A outer s H vs Q E hr h => ?_)
  · obtain ⟨a, b, rfl, _⟩ := h
    rfl
  · obtain ⟨a, b, rfl, ⟨r, ⟨da, ha⟩, ⟨db, hb⟩⟩, k⟩ := h
    refine ⟨_, (pss_one (ps_ret (pe_and (pe_callB  call_isi (by rfl) T.b_isinstance (by decide +kernel) (pa_cons (pv 1) (pa_cons (pe_glob (v := .ref Z.cC) rfl T.g_C rfl) pa_nil))) (pe_and (pe_cmpR op_eq (pe_fld (pv 0) rfl) (pe_fld (pv 1) rfl) (nomark _)) (pe_and (pe_cmpR op_eq (pe_fld (pv 0) rfl) (pe_fld (pv 1) rfl) (nomark _)) (pe_and (pe_cmpR op_eq (pe_fld (pv 0) rfl) (pe_fld (pv 1) rfl) (nomark _)) (pe_and (pe_cmpR op_eq (pe_fld (pv 0) rfl) (pe_fld (pv 1) rfl) (nomark _)) (pe_and (pe_cmpR op_eq (pe_fld (pv 0) rfl) (pe_fld (pv 1) rfl) (nomark _)) (pe_one (pe_cmpR op_eq (pe_fld (pv 0) rfl) (pe_fld (pv 1) rfl) (nomark _))))))))))), ?_⟩
    refine ⟨_, rfl, _, _, _, _, true, rfl, .own Z.cC, .base (.ins hb T.cl T.z_cls T.z_get T.z_tk T.z_mro), T.z_kit, true, rfl, iteT ?_⟩
    refine ⟨_, rfl, a, _, da, _, _, rfl, ha, T.cl, T.n_first, tfs_first r, _, rfl, b, _, db, _, _, rfl, hb, T.cl, T.n_first, tfs_first r, rfl, true, by rw [decide_eq_true rfl], iteT ?_⟩
    refine ⟨_, rfl, a, _, da, _, _, rfl, ha, T.cl, T.n_second, tfs_second r, _, rfl, b, _, db, _, _, rfl, hb, T.cl, T.n_second, tfs_second r, rfl, true, by rw [decide_eq_true rfl], iteT ?_⟩
    refine ⟨_, rfl, a, _, da, _, _, rfl, ha, T.cl, T.n_length, tfs_length r, _, rfl, b, _, db, _, _, rfl, hb, T.cl, T.n_length, tfs_length r, rfl, true, by rw [decide_eq_true rfl], iteT ?_⟩
    refine ⟨_, rfl, a, _, da, _, _, rfl, ha, T.cl, T.n_amount, tfs_amount r, _, rfl, b, _, db, _, _, rfl, hb, T.cl, T.n_amount, tfs_amount r, rfl, true, by rw [decide_eq_true rfl], iteT ?_⟩
    refine ⟨_, rfl, a, _, da, _, _, rfl, ha, T.cl, T.n_down, tfs_down r, _, rfl, b, _, db, _, _, rfl, hb, T.cl, T.n_down, tfs_down r, rfl, true, by rw [decide_eq_true rfl], iteT ?_⟩
    refine ⟨_, rfl, a, _, da, _, _, rfl, ha, T.cl, T.n_backward, tfs_backward r, _, rfl, b, _, db, _, _, rfl, hb, T.cl, T.n_backward, tfs_backward r, rfl, ?_⟩
    rw [decide_eq_true rfl]
    exact k H fun _ _ e => e
end
end TT

set_option Elab.async false
set_option linter.all false
set_option maxRecDepth 100000
set_option maxHeartbeats 4000000
namespace TT
open PySem PySem.Spec PyProof.Rows L2
theorem Pot.ne {H : Hp} {p q : Addr} {n : Nat} (hp : Pot H p n) (hq : H q = none) : p ≠ q := by
  obtain ⟨_, _, e, _⟩ := hp
  exact ne_of_none e hq
theorem Pot.same {H H' : Hp} {p : Addr} {n : Nat} (hp : Pot H p n) (s : Same H H') : Pot H' p n := by
  obtain ⟨a, m, e, r⟩ := hp
  exact ⟨a, m, s _ _ e, r⟩
theorem Keep.same {H H' H2 : Hp} {p : Addr} (k : Keep p H H') (s : Same H' H2) : Keep p H H2 := fun b o n e => s _ _ (k b o n e)
/-! ### odd things -/
inductive Fl : V → PyData → Prop
  | non : Fl .non .none
  | bl (b : Bool) : Fl (.bl b) (.bool b)
  | int (i : Int) : Fl (.int i) (.int i)
  | str (x : Str) : Fl (.str x) (.str x)
inductive Fls : List V → List PyData → Prop
  | nil : Fls [] []
  | cons {v : V} {d : PyData} {vs : List V} {ds : List PyData} (h : Fl v d) (t : Fls vs ds) : Fls (v :: vs) (d :: ds)
/-- v stands for d, in things other than the pot -/
inductive Odd (p : Addr) (H : Hp) : V → PyData → Prop
  | fl {v : V} {d : PyData} (h : Fl v d) : Odd p H v d
  | t {a : Addr} {xs : List V} {ds : List PyData} (n : a ≠ p) (h : H a = some (.tup xs)) (f : Fls xs ds) : Odd p H (.ref a) (.tuple ds)
  | l {a : Addr} {xs : List V} {ds : List PyData} (n : a ≠ p) (h : H a = some (.lst xs)) (f : Fls xs ds) : Odd p H (.ref a) (.list ds)
  | tt {a b : Addr} (n : a ≠ p) (m : b ≠ p) (h : H a = some (.tup [.ref b])) (h2 : H b = some (.tup [])) : Odd p H (.ref a) (.tuple [.tuple []])
  | d0 {a : Addr} (n : a ≠ p) (h : H a = some (.dK [])) : Odd p H (.ref a) (.dict [])
  | d1 {a : Addr} {k : Str} {i : Int} (n : a ≠ p) (h : H a = some (.dK [(.inr k, .int i)])) : Odd p H (.ref a) (.dict [(.str k, .int i)])
theorem Odd.keep {p : Addr} {H H' : Hp} {v : V} {d : PyData} (k : Keep p H H') (o : Odd p H v d) : Odd p H' v d := by
  cases o with
  | fl h => exact .fl h
  | t n h f => exact .t n (k _ _ n h) f
  | l n h f => exact .l n (k _ _ n h) f
  | tt n m h h2 => exact .tt n m (k _ _ n h) (k _ _ m h2)
  | d0 n h => exact .d0 n (k _ _ n h)
  | d1 n h => exact .d1 n (k _ _ n h)
def menu : List PyData := [.none, .bool true, .bool false, .int (-1), .str "", .str "0", .str "up", .str "back", .tuple [], .list [], .dict [], .tuple [.tuple []], .tuple [.int 0], .list [.int 0], .tuple [.int 0, .int 1], .str "0 1 1 up 0", .str "tie",
  .tuple [.bool true], .list [.str "0"], .dict [(.str "a", .int 0)], .str "size 1", .tuple [.str "down", .int 1]]
/-- all that repr wants of it, alone and thirty times in a list -/
def fine (d : PyData) : Bool := d.showable && decide (d.depth ≤ 60) && decide (d.shown.length ≤ 1000) && (PyData.list (List.replicate 30 d)).showable && decide ((PyData.list (List.replicate 30 d)).depth ≤ 60) && decide ((PyData.list (List.replicate 30 d)).shown.length ≤ 100000)
theorem menu_fine : menu.all fine = true := by decide +kernel
section
variable {P : Program} {w : World} {K : PySem.W.Frag} {mg : Str → Option Value} {base : Heap} {Z : Zs}
end
end TT

set_option Elab.async false
set_option linter.all false
set_option maxRecDepth 100000
set_option maxHeartbeats 4000000
namespace TT
open PySem PySem.Spec PyProof.Rows L2
/-! ### the texts of rows -/
theorem shown_int (i : Int) : (PyData.int i).shown = Str.ofString (toString i) := by simp [PyData.shown]
theorem bool_len (b : Bool) : ((PyData.bool b).shown).length ≤ 5 := by cases b <;> simp [PyData.shown] <;> decide
theorem int_len64 {i : Int} (h0 : -(10 ^ 64) < i) (h1 : i < 10 ^ 64) : (Str.ofString (toString i)).length ≤ 65 := by
  have h := PySem.int_text_length_le10 (a := i) (k := 64) (by decide) (by
    have e : ((10 ^ 64 : Nat) : Int) = 10 ^ 64 := by decide +kernel
    omega)
  rw [PySem.ofString_length]
  omega
theorem int_ok64 {i : Int} (h0 : -(10 ^ 64) < i) (h1 : i < 10 ^ 64) : (PyData.int i).showable = true := by
  have h : i.natAbs.log2 < 1920 := PySem.Flt.log2_lt_of (by decide) (by
    have : (10 : Int) ^ 64 < 2 ^ 1920 := by decide +kernel
    omega)
  simpa [PyData.showable] using h
theorem dat_ok {r : Row} (ok : r.Ok) : r.dat.showable = true ∧ r.dat.hasDict = false ∧ r.dat.depth ≤ 60 ∧ r.dat.shown.length ≤ sizeLine := by
  have e30 : (10 : Int) ^ 30 < 10 ^ 64 := by decide +kernel
  have e60 : (10 : Int) ^ 60 < 10 ^ 64 := by decide +kernel
  have f0 := ok.f0; have s0 := ok.s0; have l0 := ok.l0; have fe := ok.fe; have se := ok.se; have al := ok.al; have ah := ok.ah
  have bf : -(10 ^ 64) < r.f ∧ r.f < 10 ^ 64 := by constructor <;> omega
  have bs : -(10 ^ 64) < r.s ∧ r.s < 10 ^ 64 := by constructor <;> omega
  have bl : -(10 ^ 64) < r.l ∧ r.l < 10 ^ 64 := by constructor <;> omega
  have ba : -(10 ^ 64) < r.a ∧ r.a < 10 ^ 64 := by constructor <;> omega
  refine ⟨?_, ?_, ?_, ?_⟩
  · unfold Row.dat
    rw [PyData.showable]
    simp only [PyData.showableAll, int_ok64 bf.1 bf.2, int_ok64 bs.1 bs.2, int_ok64 bl.1 bl.2, int_ok64 ba.1 ba.2, Bool.true_and, Bool.and_true]
    simp [PyData.showable]
  · simp [Row.dat, PyData.hasDict, PyData.hasDictAll]
  · simp [Row.dat, PyData.depth, PyData.depthAll]
  · unfold Row.dat
    rw [PyData.shown]
    simp only [PyData.shownAll]
    have sl : sizeLine = 16777216 := sizeLine_eq
    have j := join_length_add [(PyData.int r.f).shown, (PyData.int r.s).shown, (PyData.int r.l).shown, (PyData.int r.a).shown, (PyData.bool r.d).shown, (PyData.bool r.b).shown] (by simp)
    have z1 := int_len64 bf.1 bf.2; have z2 := int_len64 bs.1 bs.2; have z3 := int_len64 bl.1 bl.2; have z4 := int_len64 ba.1 ba.2; have z5 := bool_len r.d; have z6 := bool_len r.b
    rw [← shown_int] at z1 z2 z3 z4
    unfold tupleText
    rw [Str.length_append, Str.length_append]
    simp only [piled, List.map_cons, List.map_nil, List.sum_cons, List.sum_nil] at j
    have y1 : (Str.ofString "(").length = 1 := by decide
    have y2 : (Str.ofString ")").length = 1 := by decide
    simp only [List.length_cons, List.length_nil]
    have y3 : (Str.ofString (if (0 + 1 + 1 + 1 + 1 + 1 + 1 == 1) = true then ",)" else ")")).length = 1 := by decide
    omega
theorem Row.dp {K : PySem.W.Frag} {H : Hp} {q : Addr} {r : Row} (h : H q = some (.tup r.vs)) : Dp K H (.ref q) r.dat :=
  .tup (SqT.of h) (.cons (.int _) (.cons (.int _) (.cons (.int _) (.cons (.int _) (.cons (.bl _) (.cons (.bl _) .nil))))))
theorem tfs_none (r : Row) {g : Str} (h1 : ¬ g = "text") (h2 : ¬ g = "backward") (h3 : ¬ g = "down") (h4 : ¬ g = "amount") (h5 : ¬ g = "length") (h6 : ¬ g = "second") (h7 : ¬ g = "first") : (tfs r).lookup g = none := by
  rw [tfs_lookup, if_neg h1, if_neg h2, if_neg h3, if_neg h4, if_neg h5, if_neg h6, if_neg h7]
theorem tfs_led (r : Row) : (tfs r).lookup ("led" : Str) = none := tfs_none r (by decide +kernel) (by decide +kernel) (by decide +kernel) (by decide +kernel) (by decide +kernel) (by decide +kernel) (by decide +kernel)
/-! ### told back -/
theorem Row.back_back (r : Row) : r.back.back = r := by
  obtain ⟨f, s, l, a, d, b⟩ := r
  cases d <;> simp [Row.back]
theorem partner_in {r : Row} (z : Int) (h0 : r.f ≤ z) (h1 : z < r.f + r.l) : r.back.f ≤ partner r z ∧ partner r z < r.back.f + r.back.l := by
  obtain ⟨f, s, l, a, d, b⟩ := r
  simp only [partner, Row.back]
  simp only at h0 h1
  cases b <;> simp <;> omega
theorem partner_back {r : Row} (z : Int) : partner r.back (partner r z) = z := by
  obtain ⟨f, s, l, a, d, b⟩ := r
  simp only [partner, Row.back]
  cases b <;> simp <;> omega
theorem led_back (r : Row) (n : Int) : led r.back (led r n) = n := by
  obtain ⟨f, s, l, a, d, b⟩ := r
  simp only [led, Row.back]
  cases d <;> simp <;> omega
end TT

namespace TT
open PySem PySem.Spec PyProof.Rows L2 LamX
/-! ### odd things: whether they are ints; their texts -/
def isInt : V → Option Int
  | .int i => some i
  | _ => none
theorem whole_non {K : PySem.W.Frag} {H : Hp} : Whole K H .non false := ⟨_, false, false, .base .non, kit_ty (by decide +kernel), kit_ty (by decide +kernel), rfl⟩
theorem whole_bl {K : PySem.W.Frag} {H : Hp} (b : Bool) : Whole K H (.bl b) false := ⟨_, true, true, .base (.bl b), kit_ty (by decide +kernel), kit_ty (by decide +kernel), rfl⟩
theorem whole_str {K : PySem.W.Frag} {H : Hp} (x : Str) : Whole K H (.str x) false := ⟨_, false, false, .base (.str x), kit_ty (by decide +kernel), kit_ty (by decide +kernel), rfl⟩
theorem whole_tup {K : PySem.W.Frag} {H : Hp} {a : Addr} {xs : List V} (h : H a = some (.tup xs)) : Whole K H (.ref a) false := ⟨_, false, false, .base (.tup h), kit_ty (by decide +kernel), kit_ty (by decide +kernel), rfl⟩
theorem whole_lst {K : PySem.W.Frag} {H : Hp} {a : Addr} {xs : List V} (h : H a = some (.lst xs)) : Whole K H (.ref a) false := ⟨_, false, false, .base (.lst h), kit_ty (by decide +kernel), kit_ty (by decide +kernel), rfl⟩
theorem whole_dK {K : PySem.W.Frag} {H : Hp} {a : Addr} {kvs : List (Key × V)} (h : H a = some (.dK kvs)) : Whole K H (.ref a) false := ⟨_, false, false, .base (.dK h), kit_ty (by decide +kernel), kit_ty (by decide +kernel), rfl⟩
theorem Odd.isI {K : PySem.W.Frag} {p : Addr} {H : Hp} {v : V} {d : PyData} (o : Odd p H v d) : IsI K H v (isInt v) := by
  cases o with
  | fl h =>
    cases h with
    | non => exact .no whole_non
    | bl b => exact .no (whole_bl b)
    | int i => exact .int i
    | str x => exact .no (whole_str x)
  | t n h f => exact .no (whole_tup h)
  | l n h f => exact .no (whole_lst h)
  | tt n m h h2 => exact .no (whole_tup h)
  | d0 n h => exact .no (whole_dK h)
  | d1 n h => exact .no (whole_dK h)
theorem IsI.whole {K : PySem.W.Frag} {H : Hp} {v : V} {o : Option Int} (h : IsI K H v o) : Whole K H v o.isSome := by
  cases h with
  | int i => exact whole_int i
  | no h => exact h
/-- what repr wants -/
structure Shown (d : PyData) : Prop where
  ok : d.showable = true
  dep : d.depth ≤ 60
  len : d.shown.length ≤ sizeLine
theorem shown_menu {d : PyData} (h : d ∈ menu) : Shown d := by
  have hf := List.all_eq_true.mp menu_fine d h
  unfold fine at hf
  simp only [Bool.and_eq_true, decide_eq_true_eq] at hf
  have sl : sizeLine = 16777216 := sizeLine_eq
  obtain ⟨⟨⟨⟨⟨f1, f2⟩, f3⟩, f4⟩, f5⟩, f6⟩ := hf
  exact ⟨f1, f2, by omega⟩
theorem shown_i {i : Int} (h0 : -(10 ^ 64) < i) (h1 : i < 10 ^ 64) : Shown (.int i) := by
  refine ⟨int_ok64 h0 h1, by simp [PyData.depth], ?_⟩
  rw [shown_int]
  have := int_len64 h0 h1
  have sl : sizeLine = 16777216 := sizeLine_eq
  omega
theorem shown_os {x : String} (h : x.length ≤ 1000) : Shown (.str (Str.ofString x)) := by
  have sl : sizeLine = 16777216 := sizeLine_eq
  refine ⟨by simp [PyData.showable], by simp [PyData.depth], ?_⟩
  have b : (PyData.str (Str.ofString x)).leavesShort 13 = true := by
    simp only [PyData.leavesShort, List.all_eq_true, decide_eq_true_eq]
    intro c hc
    rw [Str.ofString_eq_toList] at hc
    simp only [List.toList_toArray, List.mem_map] at hc
    obtain ⟨ch, _, rfl⟩ := hc
    have h1 : ch.toNat < 1114112 := by
      have := ch.valid
      unfold UInt32.isValidChar Nat.isValidChar at this
      show ch.val.toNat < 1114112
      omega
    omega
  have q := PyData.shown_le 13 (by decide) _ b
  have w : (PyData.str (Str.ofString x)).weight ≤ 1000 := by
    show (Str.ofString x).length ≤ 1000
    rw [PySem.ofString_length]
    exact h
  omega
theorem dig_len {n : Int} (h0 : 0 ≤ n) (h1 : n < 10 ^ 64) : (toString n : String).length ≤ 1000 := by
  have h := int_len64 (i := n) (by have : (0 : Int) < 10 ^ 64 := by decide +kernel
                                   omega) h1
  rw [PySem.ofString_length] at h
  omega
theorem shown_t1 {i : Int} (h0 : -(10 ^ 64) < i) (h1 : i < 10 ^ 64) : Shown (.tuple [.int i]) := by
  have s := shown_i h0 h1
  refine ⟨?_, ?_, ?_⟩
  · have := s.ok
    simp only [PyData.showable, PyData.showableAll, Bool.and_true] at this ⊢
    exact this
  · simp [PyData.depth, PyData.depthAll]
  · have l := int_len64 h0 h1
    have j := tupleText_len_le [(PyData.int i).shown]
    rw [PyData.shown]
    simp only [PyData.shownAll]
    rw [shown_int] at j ⊢
    simp only [List.map_cons, List.map_nil, List.sum_cons, List.sum_nil, List.length_cons, List.length_nil] at j
    have sl : sizeLine = 16777216 := sizeLine_eq
    omega
theorem isInt_some {v : V} {i : Int} (h : isInt v = some i) : v = .int i := by
  cases v <;> simp [isInt] at h
  rw [h]
theorem all_rep (n : Nat) : (List.replicate n true).all id = true := by simp
theorem ExtN.keep {p : Addr} {H H' : Hp} (h : ∀ b o, b ≠ p → H b = some o → (∀ ps, o ≠ .tbl ps) → H' b = some o) {v : V} {d : PyData} (o : Odd p H v d) : Odd p H' v d := by
  cases o with
  | fl h => exact .fl h
  | t n e f => exact .t n (h _ _ n e fun _ z => by cases z) f
  | l n e f => exact .l n (h _ _ n e fun _ z => by cases z) f
  | tt n m e e2 => exact .tt n m (h _ _ n e fun _ z => by cases z) (h _ _ m e2 fun _ z => by cases z)
  | d0 n e => exact .d0 n (h _ _ n e fun _ z => by cases z)
  | d1 n e => exact .d1 n (h _ _ n e fun _ z => by cases z)
theorem Odd.extN {p : Addr} {H H' : Hp} (h : ExtN H H') {v : V} {d : PyData} (o : Odd p H v d) : Odd p H' v d := ExtN.keep (fun b u _ e n => h b u e n) o
/-- repr of an odd thing -/
theorem fls_dp {K : PySem.W.Frag} {H : Hp} {vs : List V} {ds : List PyData} (f : Fls vs ds) : DpAll K H vs ds ∧ PyData.hasDictAll ds = false := by
  induction f with
  | nil => exact ⟨.nil, by simp [PyData.hasDictAll]⟩
  | cons h t ih =>
    refine ⟨.cons (by cases h <;> constructor) ih.1, ?_⟩
    cases h <;> simp [PyData.hasDictAll, PyData.hasDict, ih.2]
theorem Odd.dp {K : PySem.W.Frag} {p : Addr} {H : Hp} {v : V} {d : PyData} (o : Odd p H v d) : DpD K H v d := by
  cases o with
  | fl h => exact .dp (by cases h <;> constructor) (by cases h <;> simp [PyData.hasDict])
  | t n h f => exact .dp (.tup (SqT.of h) (fls_dp f).1) (by simp only [PyData.hasDict]; exact (fls_dp (K := K) (H := H) f).2)
  | l n h f => exact .dp (.lst (SqL.of h) (fls_dp f).1) (by simp only [PyData.hasDict]; exact (fls_dp (K := K) (H := H) f).2)
  | tt n m h h2 => exact .tt h h2
  | d0 n h => exact .d0 h
  | d1 n h => exact .d1 h
end TT

namespace TT
open PySem PySem.Spec PyProof.Rows L2
/-! ### ties many times -/
def Row.gap (r : Row) : Int := if r.s - r.f < 0 then -(r.s - r.f) else r.s - r.f
def Row.ml (r : Row) (m : Int) : Int := if r.b = true then r.l - r.gap else r.l - (m - 1) * r.gap
def Row.mf (r : Row) (m : Int) : Int := if r.b = true then (if r.s > r.f then r.s else r.f) else r.f + (m - 1) * (if -(r.s - r.f) > 0 then -(r.s - r.f) else 0)
def Row.ms (r : Row) (m : Int) : Int := if r.b = true then (if r.s > r.f then r.s else r.f) else r.mf m + m * (r.s - r.f)
def odd (m : Int) : Bool := decide (V.int (m % 2) = V.int 1)
def Row.ma (r : Row) (m : Int) : Int := r.a * (if r.d = true then m % 2 else m)
def Row.many (r : Row) (m : Int) : Row := ⟨r.mf m, r.ms m, r.ml m, r.ma m, r.d && odd m, (r.b && odd m) && decide (1 < r.ml m)⟩
structure Row.Low (r : Row) : Prop where
  lo : -(10 ^ 36) < r.a
  hi : r.a < 10 ^ 36
theorem mul_bd {a m A M : Int} (h0 : -A < a) (h1 : a < A) (m0 : 0 ≤ m) (m1 : m ≤ M) : -(A * M) ≤ a * m ∧ a * m ≤ A * M := by
  have A0 : 0 ≤ A := by omega
  have b1 : a * m ≤ A * m := Int.mul_le_mul_of_nonneg_right (by omega) m0
  have b2 : A * m ≤ A * M := Int.mul_le_mul_of_nonneg_left m1 A0
  have b3 : -A * m ≤ a * m := Int.mul_le_mul_of_nonneg_right (by omega) m0
  have b4 : -A * m = -(A * m) := Int.neg_mul A m
  constructor <;> omega
theorem mod2 (m : Int) : 0 ≤ m % 2 ∧ m % 2 ≤ 1 := by omega
theorem Row.gap0 (r : Row) : 0 ≤ r.gap := by
  unfold Row.gap
  split <;> omega
theorem Row.ma_bd {r : Row} (h : r.Low) {m : Int} (m0 : 1 ≤ m) (m1 : m ≤ 1000) : -(10 ^ 60) < r.ma m ∧ r.ma m < 10 ^ 60 := by
  have e : (10 : Int) ^ 36 * 1000 < 10 ^ 60 := by decide +kernel
  have c : (1 : Int) ≤ 1000 := by decide
  have := mod2 m
  unfold Row.ma
  split
  · have := mul_bd (A := 10 ^ 36) (M := 1000) h.lo h.hi (show 0 ≤ m % 2 by omega) (by omega)
    constructor <;> omega
  · have := mul_bd (A := 10 ^ 36) (M := 1000) h.lo h.hi (show 0 ≤ m by omega) m1
    constructor <;> omega
theorem Row.Ok.many {r : Row} (h : r.Ok) (g : r.Low) {m : Int} (m0 : 1 ≤ m) (m1 : m ≤ 1000) (l : 1 ≤ r.ml m) : (r.many m).Ok := by
  obtain ⟨f0, s0, l0, fe, se, al, ah, bk⟩ := h
  have ab := Row.ma_bd g m0 m1
  have gp := r.gap0
  have t0 : 0 ≤ (m - 1) * r.gap := Int.mul_nonneg (by omega) gp
  have key : 0 ≤ r.mf m ∧ 0 ≤ r.ms m ∧ r.mf m + r.ml m ≤ 10 ^ 30 ∧ r.ms m + r.ml m ≤ 10 ^ 30 := by
    unfold Row.ms Row.mf Row.ml at *
    by_cases b : r.b = true
    · rw [if_pos b] at l
      simp only [if_pos b]
      unfold Row.gap at *
      split <;> split at l <;> omega
    · rw [if_neg b] at l
      simp only [if_neg b]
      have e1 : m * (r.s - r.f) = (m - 1) * (r.s - r.f) + (r.s - r.f) := by
        rw [Int.sub_mul, Int.one_mul]
        omega
      rw [e1]
      unfold Row.gap at *
      by_cases c : r.s - r.f < 0
      · rw [if_pos c] at l t0 ⊢
        rw [if_pos (show -(r.s - r.f) > 0 by omega)]
        rw [Int.mul_neg] at l t0 ⊢
        omega
      · rw [if_neg c] at l t0 ⊢
        rw [if_neg (show ¬ -(r.s - r.f) > 0 by omega), Int.mul_zero]
        omega
  obtain ⟨k1, k2, k3, k4⟩ := key
  refine ⟨k1, k2, l, k3, k4, ab.1, ab.2, fun b => ?_⟩
  have b' : ((r.b && odd m) && decide (1 < r.ml m)) = true := b
  rw [Bool.and_eq_true] at b'
  exact of_decide_eq_true b'.2
theorem big36 {r : Row} (g : r.Low) : r.a.natAbs < 2 ^ 200 := by
  have e : (10 : Int) ^ 36 < 2 ^ 200 := by decide +kernel
  have := g.lo; have := g.hi
  omega
theorem big31 {i : Int} (h0 : -(10 ^ 31) < i) (h1 : i < 10 ^ 31) : i.natAbs < 2 ^ 200 := by
  have e : (10 : Int) ^ 31 < 2 ^ 200 := by decide +kernel
  omega
def sp_times (Z : Zs) : PySem.W.Frag → Sp := fun _ vs H Q E => ∃ (q : Addr) (r : Row) (m f s l : Int), vs = [.ref q, .int m, .int f, .int s, .int l] ∧ TieAt Z.cC H q r ∧ r.Low ∧ 1 ≤ m ∧ m ≤ 1000 ∧
  ((l < 1 ∧ ∀ t, H t = none → Out E (Z.c 1) (.ref t) (upd H t (.tup [.ref q, .ref q]))) ∨
   (1 ≤ l ∧ ∃ t : Row, t.Ok ∧ t.f = f ∧ t.s = s ∧ t.l = l ∧ t.a = r.ma m ∧ t.d = (r.d && odd m) ∧ t.b = ((r.b && odd m) && decide (1 < l)) ∧ ∀ x H', H x = none → Same H H' → TieAt Z.cC H' x t → Q (.ref x) H'))
/-- of a number from 2 on -/
def sp_some_times (Z : Zs) (b : Bool) : PySem.W.Frag → Sp := fun _ vs H Q E => ∃ (q : Addr) (r : Row) (m : Int), vs = [.ref q, .int m] ∧ TieAt Z.cC H q r ∧ r.b = b ∧ r.Ok ∧ r.Low ∧ 1 ≤ m ∧ m ≤ 1000 ∧
  ((r.ml m < 1 ∧ ∀ t, H t = none → Out E (Z.c 1) (.ref t) (upd H t (.tup [.ref q, .ref q]))) ∨ (1 ≤ r.ml m ∧ ∀ x H', H x = none → Same H H' → TieAt Z.cC H' x (r.many m) → Q (.ref x) H'))
def sp_T_mul (Z : Zs) : PySem.W.Frag → Sp := fun K vs H Q E => ∃ (q : Addr) (r : Row) (v : V), vs = [.ref q, v] ∧ TieAt Z.cC H q r ∧ r.Ok ∧ r.Low ∧
  ((∃ m, v = .int m ∧ 1 ≤ m ∧ m ≤ 1000 ∧ ((m = 1 ∧ Q (.ref q) H) ∨ (m ≠ 1 ∧ ((r.ml m < 1 ∧ ∀ t, H t = none → Out E (Z.c 1) (.ref t) (upd H t (.tup [.ref q, .ref q]))) ∨ (1 ≤ r.ml m ∧ ∀ x H', H x = none → Same H H' → TieAt Z.cC H' x (r.many m) → Q (.ref x) H'))))) ∨
   ((∀ m, v = .int m → ¬ (1 ≤ m ∧ m ≤ 10 ^ 30)) ∧ IsI K H v (isInt v) ∧ Out E (Z.c 0) v H))
section
variable {P : Program} {w : World} {K : PySem.W.Frag} {mg : Str → Option Value} {base : Heap} {Z : Zs}
theorem ok_times (T : Txt K mg Z) : FnOk P w K mg base (L2.CX P w) 6 Z.f_times Z.d_times ["tie", "many", "first", "second", "length"] (sp_times Z K) := by
  refine T.F_times.okX sc_times (fun vs H Q E h => ?_) (fun cdv A outer s H vs Q E hr h => ?_)
  · obtain ⟨q, r, m, f, s, l, rfl, _⟩ := h
    rfl
  · obtain ⟨q, r, m, f, g, l, rfl, ⟨dx, hq⟩, low, m0, m1, h⟩ := h
    obtain ⟨its, mv, kb⟩ := kb_tie T
    refine ⟨_, (pss_cons (ps_if (pt_cmpR op_lt (pv 4) pe_int (nomark _)) (pss_one (ps_raise rfl (takes_of rfl rfl rfl rfl) (pmk_oex (T.ex 1 (by decide)).ox (T.ex 1 (by decide)).ini T.t_E_init (ok_E_init T) (hr.mono (by decide)) T.bn_E_init .nil pass0 rfl T.g_NoJoint (pa_cons (pe_tup (pa_cons (pv 0) (pa_cons (pv 0) pa_nil))) pa_nil)))) pss_nil)
      (pss_cons (ps_set (i := 5) sc_times.nd rfl (Or.inl rfl) (pe_cmpR op_eq (pe_op op_mod (pv 1) pe_int) pe_int (nomark _)))
      (pss_cons (ps_set (i := 6) sc_times.nd rfl (Or.inl rfl) (pe_op op_mulW (pe_fld (pv 0) rfl) (pe_ifExp (pt_val (pe_fld (pv 0) rfl)) (pe_op op_mod (pv 1) pe_int) (pv 1))))
      (pss_one (ps_ret (pe_makeK (mkT T) (ok_T_init T) (hr.mono (by decide)) rfl T.g_C kb pass0 (pa_cons (pv 2) (pa_cons (pv 3) (pa_cons (pv 4) (pa_cons (pv 6) pa_nil)))) (pk_cons (pe_and (pe_fld (pv 0) rfl) (pe_one (pv 5))) (pk_cons (pe_and (pe_fld (pv 0) rfl) (pe_one (pv 5))) pk_nil)))))))), ?_⟩
    refine ⟨_, rfl, _, _, rfl, rfl, _, rfl, ?_⟩
    rcases h with ⟨c, k⟩ | ⟨c, t, ok, rfl, rfl, rfl, ta, td, tb, k⟩
    · rw [decide_eq_true c]
      exact iteT ⟨_, rfl, _, rfl, by show 2 ≤ sizeLine; decide, fun t ht => mkR (T.ex 1 (by decide)) (k t ht)⟩
    · rw [decide_eq_false (by omega)]
      refine iteF ?_
      have m30 : (10 : Int) ^ 30 < 10 ^ 31 := by decide +kernel
      have md := mod2 m
      have w1 : CMulW r.a (m % 2) := wide_mul (big36 low) (big31 (by omega) (by omega)) (by decide) (by decide) (by decide)
      have w2 : CMulW r.a m := wide_mul (big36 low) (big31 (by omega) (by omega)) (by decide) (by decide) (by decide)
      refine ⟨_, rfl, _, _, rfl, rfl, by show (0 : Int) < 2; decide, rfl, ?_⟩
      refine ⟨_, rfl, q, _, dx, _, _, rfl, hq, T.cl, T.n_amount, tfs_amount r, _, rfl, q, _, dx, _, _, rfl, hq, T.cl, T.n_down, tfs_down r, r.d, rfl, ?_⟩
      refine' share0 (fun tail => ite2 (fun c => ?b1) (fun c => ?b2)) ?b3
      case b1 =>
        refine ⟨_, rfl, _, _, rfl, rfl, by show (0 : Int) < 2; decide, _, _, rfl, rfl, w1, ?_⟩
        have e : r.a * (m % 2) = t.a := by
          rw [ta]
          unfold Row.ma
          rw [if_pos c]
        dsimp only
        rw [e]
        exact tail
      case b2 =>
        refine ⟨_, rfl, _, _, rfl, rfl, w2, ?_⟩
        have e : r.a * m = t.a := by
          rw [ta]
          unfold Row.ma
          rw [if_neg c]
        dsimp only
        rw [e]
        exact tail
      case b3 =>
        refine ⟨_, rfl, _, rfl, _, rfl, _, rfl, ?_⟩
        refine ⟨_, rfl, q, _, dx, _, _, rfl, hq, T.cl, T.n_down, tfs_down r, r.d, rfl, ?_⟩
        have fin : ∀ d b : Bool, d = t.d → b = (r.b && odd m) → ∀ (x dx : Addr), H x = none → H dx = none → sp_T_init Z.cC ([.ref x, .int t.f, .int t.s, .int t.l, .int t.a] ++ [.bl d, .bl b]) (upd (upd H dx (.own x)) x (.ins Z.cC dx [])) (fun v H' => v = .non ∧ Q (.ref x) H') E0 := by
          rintro d b rfl rfl x dx nx nd
          exact ⟨x, dx, t, (r.b && odd m), rfl, ok, tb, upd_same, fun H' hx kp => ⟨rfl, k x H' nx (made nx nd kp) ⟨dx, hx⟩⟩⟩
        cases hd : r.d with
        | true =>
          refine iteT ⟨_, rfl, _, rfl, q, _, dx, _, _, rfl, hq, T.cl, T.n_backward, tfs_backward r, r.b, rfl, ?_⟩
          cases hb : r.b with
          | true => exact iteT ⟨_, rfl, rfl, rfl, fun x dx nx nd ne => fin _ _ (by rw [td, hd] <;> rfl) (by rw [hb] <;> rfl) x dx nx nd⟩
          | false => exact iteF ⟨rfl, rfl, fun x dx nx nd ne => fin _ _ (by rw [td, hd] <;> rfl) (by rw [hb] <;> rfl) x dx nx nd⟩
        | false =>
          refine iteF ⟨_, rfl, q, _, dx, _, _, rfl, hq, T.cl, T.n_backward, tfs_backward r, r.b, rfl, ?_⟩
          cases hb : r.b with
          | true => exact iteT ⟨_, rfl, rfl, rfl, fun x dx nx nd ne => fin _ _ (by rw [td, hd] <;> rfl) (by rw [hb] <;> rfl) x dx nx nd⟩
          | false => exact iteF ⟨rfl, rfl, fun x dx nx nd ne => fin _ _ (by rw [td, hd] <;> rfl) (by rw [hb] <;> rfl) x dx nx nd⟩
theorem ok_straight_times (T : Txt K mg Z) : FnOk P w K mg base (L2.CX P w) 7 Z.f_straight_times Z.d_straight_times ["tie", "many"] (sp_some_times Z false K) := by
  refine T.F_straight_times.okX sc_straight_times (fun vs H Q E h => ?_) (fun cdv A outer s H vs Q E hr h => ?_)
  · obtain ⟨q, r, m, rfl, _⟩ := h
    rfl
  · obtain ⟨q, r, m, rfl, ⟨dx, hq⟩, hb, ok, low, m0, m1, h⟩ := h
    refine ⟨_, (pss_cons (ps_set (i := 2) sc_straight_times.nd rfl (Or.inl rfl) (pe_op op_sub (pe_fld (pv 0) rfl) (pe_fld (pv 0) rfl)))
      (pss_cons (ps_set (i := 3) sc_straight_times.nd rfl (Or.inl rfl) (pe_op op_sub (pe_fld (pv 0) rfl) (pe_op op_mulW (pe_op op_sub (pv 1) pe_int) (pe_callB  call_abs (by rfl) T.b_abs (by decide +kernel) (pa_cons (pv 2) pa_nil)))))
      (pss_cons (ps_set (i := 4) sc_straight_times.nd rfl (Or.inl rfl) (pe_op op_add (pe_fld (pv 0) rfl) (pe_op op_mulW (pe_op op_sub (pv 1) pe_int) (pe_callB  (call_max2 rfl) (by rfl) T.b_max (by decide +kernel) (pa_cons pe_int (pa_cons (pe_un un_neg (pv 2)) pa_nil))))))
      (pss_one (ps_ret (pe_call (ok_times T) (hr.mono (by decide)) rfl T.g_times T.k_times T.bn_times .nil (passes_call (takes_of rfl rfl rfl rfl) (fun _ _ _ _ h => h)) (pa_cons (pv 0) (pa_cons (pv 1) (pa_cons (pv 4) (pa_cons (pe_op op_add (pv 4) (pe_op op_mulW (pv 1) (pv 2))) (pa_cons (pv 3) pa_nil))))))))))), ?_⟩
    have f0 := ok.f0; have s0 := ok.s0; have l0 := ok.l0; have fe := ok.fe; have se := ok.se
    have m30 : (10 : Int) ^ 30 < 10 ^ 31 := by decide +kernel
    have hb' : ¬ r.b = true := by rw [hb]; decide
    have gp := r.gap0
    have gb : r.gap < 10 ^ 31 := by
      unfold Row.gap
      split <;> omega
    refine ⟨_, rfl, q, _, dx, _, _, rfl, hq, T.cl, T.n_second, tfs_second r, _, rfl, q, _, dx, _, _, rfl, hq, T.cl, T.n_first, tfs_first r, _, _, rfl, rfl, ?_⟩
    have w1 : CMulW (m - 1) r.gap := wide_mul (big31 (by omega) (by omega)) (big31 (by omega) gb) (by decide) (by decide) (by decide)
    have w2 : CMulW (m - 1) (if -(r.s - r.f) > 0 then -(r.s - r.f) else 0) := wide_mul (big31 (by omega) (by omega)) (big31 (by split <;> omega) (by split <;> omega)) (by decide) (by decide) (by decide)
    have w3 : CMulW m (r.s - r.f) := wide_mul (big31 (by omega) (by omega)) (big31 (by omega) (by omega)) (by decide) (by decide) (by decide)
    refine ⟨_, rfl, q, _, dx, _, _, rfl, hq, T.cl, T.n_length, tfs_length r, _, rfl, _, _, rfl, rfl, _, rfl, _, rfl, _, _, rfl, rfl, w1, _, _, rfl, rfl, ?_⟩
    refine ⟨_, rfl, q, _, dx, _, _, rfl, hq, T.cl, T.n_first, tfs_first r, _, rfl, _, _, rfl, rfl, _, rfl, _, rfl, _, _, rfl, _, _, rfl, rfl, w2, _, _, rfl, rfl, ?_⟩
    refine ⟨_, rfl, _, rfl, _, rfl, _, rfl, _, rfl, _, rfl, _, _, rfl, rfl, w3, _, _, rfl, rfl, _, rfl, ?_⟩
    have el : r.ml m = r.l - (m - 1) * r.gap := if_neg hb'
    have ef : r.mf m = r.f + (m - 1) * (if -(r.s - r.f) > 0 then -(r.s - r.f) else 0) := if_neg hb'
    have es : r.ms m = r.mf m + m * (r.s - r.f) := if_neg hb'
    refine ⟨q, r, m, r.mf m, r.ms m, r.ml m, by rw [es, ef, el] <;> rfl, ⟨dx, hq⟩, low, m0, m1, ?_⟩
    rcases h with ⟨c, k⟩ | ⟨c, k⟩
    · exact .inl ⟨c, k⟩
    · exact .inr ⟨c, r.many m, ok.many low m0 m1 c, rfl, rfl, rfl, rfl, rfl, rfl, k⟩
theorem ok_backward_times (T : Txt K mg Z) : FnOk P w K mg base (L2.CX P w) 7 Z.f_backward_times Z.d_backward_times ["tie", "many"] (sp_some_times Z true K) := by
  refine T.F_backward_times.okX sc_backward_times (fun vs H Q E h => ?_) (fun cdv A outer s H vs Q E hr h => ?_)
  · obtain ⟨q, r, m, rfl, _⟩ := h
    rfl
  · obtain ⟨q, r, m, rfl, ⟨dx, hq⟩, hb, ok, low, m0, m1, h⟩ := h
    refine ⟨_, (pss_cons (ps_set (i := 2) sc_backward_times.nd rfl (Or.inl rfl) (pe_callB  (call_max2 rfl) (by rfl) T.b_max (by decide +kernel) (pa_cons (pe_fld (pv 0) rfl) (pa_cons (pe_fld (pv 0) rfl) pa_nil))))
      (pss_cons (ps_set (i := 3) sc_backward_times.nd rfl (Or.inl rfl) (pe_op op_sub (pe_fld (pv 0) rfl) (pe_callB  call_abs (by rfl) T.b_abs (by decide +kernel) (pa_cons (pe_op op_sub (pe_fld (pv 0) rfl) (pe_fld (pv 0) rfl)) pa_nil))))
      (pss_one (ps_ret (pe_call (ok_times T) (hr.mono (by decide)) rfl T.g_times T.k_times T.bn_times .nil (passes_call (takes_of rfl rfl rfl rfl) (fun _ _ _ _ h => h)) (pa_cons (pv 0) (pa_cons (pv 1) (pa_cons (pv 2) (pa_cons (pv 2) (pa_cons (pv 3) pa_nil)))))))))), ?_⟩
    refine ⟨_, rfl, q, _, dx, _, _, rfl, hq, T.cl, T.n_first, tfs_first r, _, rfl, q, _, dx, _, _, rfl, hq, T.cl, T.n_second, tfs_second r, _, _, rfl, ?_⟩
    refine ⟨_, rfl, q, _, dx, _, _, rfl, hq, T.cl, T.n_length, tfs_length r, _, rfl, q, _, dx, _, _, rfl, hq, T.cl, T.n_second, tfs_second r, _, rfl, q, _, dx, _, _, rfl, hq, T.cl, T.n_first, tfs_first r, _, _, rfl, rfl, _, rfl, _, _, rfl, rfl, ?_⟩
    refine ⟨_, rfl, _, rfl, _, rfl, _, rfl, _, rfl, ?_⟩
    have el : r.ml m = r.l - r.gap := if_pos hb
    have ef : r.mf m = (if r.s > r.f then r.s else r.f) := if_pos hb
    have es : r.ms m = (if r.s > r.f then r.s else r.f) := if_pos hb
    refine ⟨q, r, m, r.mf m, r.ms m, r.ml m, by rw [es, ef, el] <;> rfl, ⟨dx, hq⟩, low, m0, m1, ?_⟩
    rcases h with ⟨c, k⟩ | ⟨c, k⟩
    · exact .inl ⟨c, k⟩
    · exact .inr ⟨c, r.many m, ok.many low m0 m1 c, rfl, rfl, rfl, rfl, rfl, rfl, k⟩
theorem ok_T_mul (T : Txt K mg Z) : FnOk P w K mg base (L2.CX P w) 8 Z.f_T_mul Z.d_T_mul ["self", "other"] (sp_T_mul Z K) := by
  refine T.F_T_mul.okX sc_T_mul (fun vs H Q E h => ?_) (fun cdv A outer s H vs Q E hr h => ?_)
  · obtain ⟨q, r, v, rfl, _⟩ := h
    rfl
  · obtain ⟨q, r, v, rfl, ⟨dx, hq⟩, ok, low, h⟩ := h
    refine ⟨_, (pss_cons (ps_if (pt_not (pt_val (pe_call (ok_is_between T) (hr.mono (by decide)) rfl T.g_is_between T.k_is_between T.bn_is_between .nil pass0 (pa_cons (pv 1) (pa_cons pe_int (pa_cons (pe_glob (v := .int 1000000000000000000000000000000) rfl T.c_GREATEST ⟨_, rfl⟩) pa_nil)))))) (pss_one (ps_raise rfl (takes_of rfl rfl rfl rfl) (pmk_oex (T.ex 0 (by decide)).ox (T.ex 0 (by decide)).ini T.t_E_init (ok_E_init T) (hr.mono (by decide)) T.bn_E_init .nil pass0 rfl T.g_BadNumber (pa_cons (pv 1) pa_nil)))) pss_nil)
      (pss_cons (ps_if (pt_cmpR op_eq (pv 1) pe_int (nomark _)) (pss_one (ps_ret (pv 0))) pss_nil)
      (pss_cons (ps_if (pt_val (pe_fld (pv 0) rfl)) (pss_one (ps_ret (pe_call (ok_backward_times T) (hr.mono (by decide)) rfl T.g_backward_times T.k_backward_times T.bn_backward_times .nil (passes_call (takes_of rfl rfl rfl rfl) (fun _ _ _ _ h => h)) (pa_cons (pv 0) (pa_cons (pv 1) pa_nil))))) pss_nil)
      (pss_one (ps_ret (pe_call (ok_straight_times T) (hr.mono (by decide)) rfl T.g_straight_times T.k_straight_times T.bn_straight_times .nil (passes_call (takes_of rfl rfl rfl rfl) (fun _ _ _ _ h => h)) (pa_cons (pv 0) (pa_cons (pv 1) pa_nil)))))))), ?_⟩
    have e30 : (10 : Int) ^ 30 = 1000000000000000000000000000000 := by decide +kernel
    rcases h with ⟨m, rfl, m0, m1, h⟩ | ⟨no, iv, out⟩
    · refine ⟨_, rfl, .inl ⟨m, 1, _, rfl, true, by rw [decide_eq_true m0, decide_eq_true (by omega)] <;> rfl, iteF ?_⟩⟩
      refine ⟨_, rfl, rfl, _, rfl, ?_⟩
      rcases h with ⟨rfl, k⟩ | ⟨ne, h⟩
      · rw [decide_eq_true rfl]
        exact iteT ⟨_, rfl, k⟩
      · rw [decide_eq_false (fun z => ne (V.int.inj z))]
        refine iteF ⟨_, rfl, q, _, dx, _, _, rfl, hq, T.cl, T.n_backward, tfs_backward r, r.b, rfl, ?_⟩
        refine ite2 (fun c => ?_) (fun c => ?_)
        · exact ⟨_, rfl, _, rfl, q, r, m, rfl, ⟨dx, hq⟩, c, ok, low, m0, m1, h⟩
        · exact ⟨_, rfl, _, rfl, q, r, m, rfl, ⟨dx, hq⟩, by simpa using c, ok, low, m0, m1, h⟩
    · by_cases ci : ∃ m, v = .int m
      · obtain ⟨m, rfl⟩ := ci
        have := no m rfl
        refine ⟨_, rfl, .inl ⟨m, 1, _, rfl, false, ?_, iteT ⟨_, rfl, mkR (T.ex 0 (by decide)) out⟩⟩⟩
        by_cases c1 : 1 ≤ m
        · rw [decide_eq_true c1, decide_eq_false (by omega)] <;> rfl
        · rw [decide_eq_false c1] <;> rfl
      · have nv : isInt v = none := by
          cases v <;> first | rfl | exact absurd ⟨_, rfl⟩ ci
        rw [nv] at iv
        cases iv with
        | no hv => exact ⟨_, rfl, .inr ⟨v, _, _, rfl, hv, false, rfl, iteT ⟨_, rfl, mkR (T.ex 0 (by decide)) out⟩⟩⟩
end
end TT

namespace TT
open PySem PySem.Spec PyProof.Rows L2
/-! ### parts of ties -/
def Row.part (r : Row) (s l : Int) : Row := ⟨r.f + s, r.s + (if r.b = true then r.l - s - l else s), l, r.a, r.d, r.b && decide (1 < l)⟩
theorem Row.Ok.part {r : Row} (h : r.Ok) {s l : Int} (s0 : 0 ≤ s) (l0 : 1 ≤ l) (e : s + l ≤ r.l) : (r.part s l).Ok := by
  obtain ⟨f0, g0, h0, fe, se, al, ah, bk⟩ := h
  refine ⟨by show 0 ≤ r.f + s; omega, ?_, l0, by show r.f + s + l ≤ 10 ^ 30; omega, ?_, al, ah, fun b => ?_⟩
  · show 0 ≤ r.s + (if r.b = true then r.l - s - l else s)
    split <;> omega
  · show r.s + (if r.b = true then r.l - s - l else s) + l ≤ 10 ^ 30
    split <;> omega
  · have b' : (r.b && decide (1 < l)) = true := b
    rw [Bool.and_eq_true] at b'
    exact of_decide_eq_true b'.2
def sp_T_part (Z : Zs) : PySem.W.Frag → Sp := fun K vs H Q E => ∃ (q : Addr) (r : Row) (v u : V) (o1 o2 : Option Int), vs = [.ref q, v, u] ∧ TieAt Z.cC H q r ∧ r.Ok ∧ IsI K H v o1 ∧ IsI K H u o2 ∧
  ((∃ s l, o1 = some s ∧ o2 = some l ∧ 0 ≤ s ∧ 1 ≤ l ∧ s + l ≤ r.l ∧ ∀ x H', H x = none → Same H H' → TieAt Z.cC H' x (r.part s l) → Q (.ref x) H') ∨
   ((∀ s l, o1 = some s → o2 = some l → ¬ (0 ≤ s ∧ 1 ≤ l ∧ s + l ≤ r.l)) ∧ ∀ t, H t = none → Out E (Z.c 2) (.ref t) (upd H t (.tup [v, u]))))
section
variable {P : Program} {w : World} {K : PySem.W.Frag} {mg : Str → Option Value} {base : Heap} {Z : Zs}
theorem ok_T_part (T : Txt K mg Z) : FnOk P w K mg base (L2.CX P w) 6 Z.f_T_part Z.d_T_part ["self", "start", "length"] (sp_T_part Z K) := by
  refine T.F_T_part.okX sc_T_part (fun vs H Q E h => ?_) (fun cdv A outer s H vs Q E hr h => ?_)
  · obtain ⟨q, r, v, u, o1, o2, rfl, _⟩ := h
    rfl
  · obtain ⟨q, r, v, u, o1, o2, rfl, ⟨dx, hq⟩, ok, iv, iu, h⟩ := h
    obtain ⟨its, mv, kb⟩ := kb_tie T
    refine ⟨_, (pss_cons (ps_if (PW.pt (pw_or (pt_not (pt_val (pe_call (ok_is_from T) (hr.mono (by decide)) rfl T.g_is_from T.k_is_from T.bn_is_from .nil pass0 (pa_cons (pv 1) (pa_cons pe_int pa_nil))))) (pw_or (pt_not (pt_val (pe_call (ok_is_from T) (hr.mono (by decide)) rfl T.g_is_from T.k_is_from T.bn_is_from .nil pass0 (pa_cons (pv 2) (pa_cons pe_int pa_nil))))) (pw_or1 (pt_cmpR op_gt (pe_op op_add (pv 1) (pv 2)) (pe_fld (pv 0) rfl) (nomark _)))))) (pss_one (ps_raise rfl (takes_of rfl rfl rfl rfl) (pmk_oex (T.ex 2 (by decide)).ox (T.ex 2 (by decide)).ini T.t_E_init (ok_E_init T) (hr.mono (by decide)) T.bn_E_init .nil pass0 rfl T.g_BadPart (pa_cons (pe_tup (pa_cons (pv 1) (pa_cons (pv 2) pa_nil))) pa_nil)))) pss_nil)
      (pss_cons (ps_set (i := 3) sc_T_part.nd rfl (Or.inl rfl) (pe_op op_add (pe_fld (pv 0) rfl) (pv 1)))
      (pss_cons (ps_set (i := 4) sc_T_part.nd rfl (Or.inl rfl) (pe_op op_add (pe_fld (pv 0) rfl) (pe_ifExp (pt_val (pe_fld (pv 0) rfl)) (pe_op op_sub (pe_op op_sub (pe_fld (pv 0) rfl) (pv 1)) (pv 2)) (pv 1))))
      (pss_one (ps_ret (pe_makeK (mkT T) (ok_T_init T) (hr.mono (by decide)) rfl T.g_C kb pass0 (pa_cons (pv 3) (pa_cons (pv 4) (pa_cons (pv 2) (pa_cons (pe_fld (pv 0) rfl) pa_nil)))) (pk_cons (pe_fld (pv 0) rfl) (pk_cons (pe_fld (pv 0) rfl) pk_nil)))))))), ?_⟩
    rcases h with ⟨st, l, rfl, rfl, s0, l0, e, k⟩ | ⟨out, k⟩
    · cases iv
      cases iu
      have okp := ok.part s0 l0 e
      refine ⟨_, rfl, .inl ⟨st, 0, rfl, true, by rw [decide_eq_true s0], iteF ?_⟩⟩
      refine ⟨_, rfl, .inl ⟨l, 1, rfl, true, by rw [decide_eq_true l0], iteF ?_⟩⟩
      refine ⟨_, rfl, _, rfl, _, _, rfl, rfl, _, rfl, q, _, dx, _, _, rfl, hq, T.cl, T.n_length, tfs_length r, _, _, rfl, rfl, _, rfl, ?_⟩
      rw [decide_eq_false (by omega)]
      refine iteF ?_
      refine ⟨_, rfl, q, _, dx, _, _, rfl, hq, T.cl, T.n_first, tfs_first r, _, rfl, _, _, rfl, rfl, ?_⟩
      refine ⟨_, rfl, q, _, dx, _, _, rfl, hq, T.cl, T.n_second, tfs_second r, _, rfl, q, _, dx, _, _, rfl, hq, T.cl, T.n_backward, tfs_backward r, r.b, rfl, ?_⟩
      refine' share0 (fun tail => ite2 (fun c => ?b1) (fun c => ?b2)) ?b3
      case b1 =>
        refine ⟨_, rfl, q, _, dx, _, _, rfl, hq, T.cl, T.n_length, tfs_length r, _, rfl, _, _, rfl, rfl, _, rfl, _, _, rfl, rfl, _, _, rfl, rfl, ?_⟩
        have e1 : r.s + (r.l - st - l) = (r.part st l).s := by
          show _ = r.s + (if r.b = true then r.l - st - l else st)
          rw [if_pos c]
        dsimp only
        rw [e1]
        exact tail
      case b2 =>
        refine ⟨_, rfl, _, _, rfl, rfl, ?_⟩
        have e1 : r.s + st = (r.part st l).s := by
          show _ = r.s + (if r.b = true then r.l - st - l else st)
          rw [if_neg c]
        dsimp only
        rw [e1]
        exact tail
      case b3 =>
        refine ⟨_, rfl, _, rfl, _, rfl, _, rfl, q, _, dx, _, _, rfl, hq, T.cl, T.n_amount, tfs_amount r, ?_⟩
        refine ⟨_, rfl, q, _, dx, _, _, rfl, hq, T.cl, T.n_down, tfs_down r, _, rfl, q, _, dx, _, _, rfl, hq, T.cl, T.n_backward, tfs_backward r, rfl, rfl, fun x dx2 nx nd ne => ?_⟩
        exact ⟨x, dx2, r.part st l, r.b, rfl, okp, rfl, upd_same, fun H' hx kp => ⟨rfl, k x H' nx (made nx nd kp) ⟨dx2, hx⟩⟩⟩
    · cases iv with
      | no hv => exact ⟨_, rfl, .inr ⟨v, _, rfl, hv, false, rfl, iteT (iteT ⟨_, rfl, _, rfl, by show 2 ≤ sizeLine; decide, fun t ht => mkR (T.ex 2 (by decide)) (k t ht)⟩)⟩⟩
      | int st =>
        refine ⟨_, rfl, .inl ⟨st, 0, rfl, _, rfl, ?_⟩⟩
        by_cases c1 : 0 ≤ st
        · rw [decide_eq_true c1]
          refine iteF ?_
          cases iu with
          | no hu => exact ⟨_, rfl, .inr ⟨u, _, rfl, hu, false, rfl, iteT (iteT ⟨_, rfl, _, rfl, by show 2 ≤ sizeLine; decide, fun t ht => mkR (T.ex 2 (by decide)) (k t ht)⟩)⟩⟩
          | int l =>
            refine ⟨_, rfl, .inl ⟨l, 1, rfl, _, rfl, ?_⟩⟩
            by_cases c2 : 1 ≤ l
            · rw [decide_eq_true c2]
              have := out st l rfl rfl
              refine iteF ⟨_, rfl, _, rfl, _, _, rfl, rfl, _, rfl, q, _, dx, _, _, rfl, hq, T.cl, T.n_length, tfs_length r, _, _, rfl, rfl, _, rfl, ?_⟩
              rw [decide_eq_true (by omega)]
              exact iteT ⟨_, rfl, _, rfl, by show 2 ≤ sizeLine; decide, fun t ht => mkR (T.ex 2 (by decide)) (k t ht)⟩
            · rw [decide_eq_false c2]
              exact iteT (iteT ⟨_, rfl, _, rfl, by show 2 ≤ sizeLine; decide, fun t ht => mkR (T.ex 2 (by decide)) (k t ht)⟩)
        · rw [decide_eq_false c1]
          exact iteT (iteT ⟨_, rfl, _, rfl, by show 2 ≤ sizeLine; decide, fun t ht => mkR (T.ex 2 (by decide)) (k t ht)⟩)
end
end TT

namespace TT
open PySem PySem.Spec PyProof.Rows L2 LamX
/-! ### heaps in which tables may have grown, and the pot drawn from -/
/-- all but the pot and the tables stays -/
def KeepN (p : Addr) (H H' : Hp) : Prop := ∀ b o, b ≠ p → H b = some o → (∀ ps, o ≠ .tbl ps) → H' b = some o
theorem KeepN.of {p : Addr} {H H' : Hp} (k : Keep p H H') : KeepN p H H' := fun b o n e _ => k b o n e
theorem KeepN.then {p : Addr} {H H1 H2 : Hp} (a : KeepN p H H1) (b : KeepN p H1 H2) : KeepN p H H2 := fun c o n e t => b c o n (a c o n e t) t
theorem KeepN.ext {p : Addr} {H H1 : Hp} (e : ExtN H H1) : KeepN p H H1 := fun c o _ h t => e c o h t
theorem Tabs.keep {p : Addr} {n : Nat} {T : List (Addr × Str)} {H H' : Hp} (k : Keep p H H') (hp : Pot H p n) (t : Tabs T H) : Tabs T H' := fun q hq => by
  obtain ⟨own, mix, hpp, _⟩ := hp
  obtain ⟨ps, h1, h2, h3⟩ := t q hq
  refine ⟨ps, k _ _ (ne_of h1 hpp fun z => by cases z) h1, h2, fun pos cv hc => ?_⟩
  obtain ⟨c, e1, e2⟩ := h3 pos cv hc
  exact ⟨c, e1, k _ _ (ne_of e2 hpp fun z => by unfold CodeO at z; cases z) e2⟩
/-- a list's object is written: the tables stay -/
theorem Tabs.lst {T : List (Addr × Str)} {H : Hp} {D : Addr} {xs : List V} {o : HO} (hD : H D = some (.lst xs)) (t : Tabs T H) : Tabs T (upd H D o) := fun q hq => by
  obtain ⟨ps, h1, h2, h3⟩ := t q hq
  refine ⟨ps, by rw [upd_ne (ne_of h1 hD fun z => by cases z)]; exact h1, h2, fun pos cv hc => ?_⟩
  obtain ⟨c, e1, e2⟩ := h3 pos cv hc
  exact ⟨c, e1, by rw [upd_ne (ne_of e2 hD fun z => by unfold CodeO at z; cases z)]; exact e2⟩
theorem Pot.extN {H H' : Hp} {p : Addr} {n : Nat} (e : ExtN H H') (hp : Pot H p n) : Pot H' p n := by
  obtain ⟨own, mix, h, r⟩ := hp
  exact ⟨own, mix, e _ _ h (fun ps z => nomatch z), r⟩
theorem shareT {T : Addr → Hp → Prop} {G : Prop} (C : Addr → Hp → Prop) (h : (∀ q H, C q H → T q H) → G) (t : ∀ q H, C q H → T q H) : G := h t
theorem shareB {T : Bool → Prop} {G : Prop} (C : Bool → Prop) (h : (∀ b, C b → T b) → G) (t : ∀ b, C b → T b) : G := h t
theorem Row.Ok.far {r : Row} (h : r.Ok) {z : Int} (z0 : 0 ≤ z) (hf : r.f + z + r.l ≤ 10 ^ 30) (hs : r.s + z + r.l ≤ 10 ^ 30) : Row.Ok { r with f := r.f + z, s := r.s + z } :=
  ⟨by show 0 ≤ r.f + z; have := h.f0; omega, by show 0 ≤ r.s + z; have := h.s0; omega, h.l0, hf, hs, h.al, h.ah, h.bk⟩
theorem Pot.off {H : Hp} {p q : Addr} {n : Nat} {o : HO} (hp : Pot H p n) (hq : H q = some o) (h : ∀ xs, o ≠ .lst xs) : q ≠ p := by
  rintro rfl
  obtain ⟨a, m, e, _⟩ := hp
  rw [hq] at e
  exact h _ (Option.some.inj e)
theorem rg_mem {a b : Int} {x : V} (h : x ∈ rgV a b) : ∃ z : Int, x = .int z ∧ a ≤ z ∧ z < b := by
  unfold rgV at h
  obtain ⟨j, hj, rfl⟩ := List.mem_map.mp h
  have := List.mem_range.mp hj
  exact ⟨a + (j : Int), rfl, by omega, by omega⟩
/-- the error that is met, since H -/
def Caught (H : Hp) (C : Addr) (v : V) : VK := fun u H2 => ∃ a, u = V.ref a ∧ Same H H2 ∧ Met H2 a C [("value", v)]
/-- what look's reading is asked, so that met_error gives G -/
def met (K : PySem.W.Frag) (CE : Addr) (tl : XK → Hp → VK → Prop) (H : Hp) (G : VK) : Prop := tl (fun cls dd H' => PySem.W.exmOne K cls (.ref CE) = some true ∧ ∀ a, H' a = none → G (.ref a) (upd H' a (exk a cls dd))) H (fun _ H' => G .non H')
end TT

namespace TT
open PySem PySem.Spec PyProof.Rows L2
/-! ### whole ties joined -/
def Row.st (r q : Row) : Int := if r.s < q.f then q.f else r.s
def Row.en (r q : Row) : Int := if q.f + q.l < r.s + r.l then q.f + q.l else r.s + r.l
def Row.ahead (r q : Row) : Int := if r.b = true then r.s + r.l - r.en q else r.st q - r.s
def Row.behind (r q : Row) : Row := ⟨r.f, q.s, r.l, if q.d = true then q.a - r.a else q.a + r.a, r.d != q.d, (r.b != q.b) && decide (1 < r.l)⟩
def Row.join (r q : Row) : Row := (r.part (r.ahead q) (r.en q - r.st q)).behind (q.part (r.st q - q.f) (r.en q - r.st q))
theorem Row.ahead_in {r q : Row} (h : r.Ok) (g : q.Ok) (c : r.st q < r.en q) : 0 ≤ r.ahead q ∧ 1 ≤ r.en q - r.st q ∧ r.ahead q + (r.en q - r.st q) ≤ r.l ∧ 0 ≤ r.st q - q.f ∧ r.st q - q.f + (r.en q - r.st q) ≤ q.l := by
  have h1 := h.l0
  have h2 := g.l0
  have a1 : r.s ≤ r.st q ∧ q.f ≤ r.st q := by
    unfold Row.st
    split <;> omega
  have a2 : r.en q ≤ r.s + r.l ∧ r.en q ≤ q.f + q.l := by
    unfold Row.en
    split <;> omega
  unfold Row.ahead
  split <;> omega
structure Row.Small (r : Row) : Prop where
  lo : -(10 ^ 59) < r.a
  hi : r.a < 10 ^ 59
theorem Row.Ok.behind {r q : Row} (h : r.Ok) (g : q.Ok) (e : q.l = r.l) (a : r.Small) (b : q.Small) : (r.behind q).Ok := by
  have t : (10 : Int) ^ 60 = 10 * 10 ^ 59 := by decide +kernel
  obtain ⟨a1, a2⟩ := a
  obtain ⟨b1, b2⟩ := b
  refine ⟨h.f0, g.s0, h.l0, h.fe, by have := g.se; show q.s + r.l ≤ 10 ^ 30; omega, ?_, ?_, fun k => ?_⟩
  · show -(10 ^ 60) < if q.d = true then q.a - r.a else q.a + r.a
    split <;> omega
  · show (if q.d = true then q.a - r.a else q.a + r.a) < 10 ^ 60
    split <;> omega
  · have k' : ((r.b != q.b) && decide (1 < r.l)) = true := k
    rw [Bool.and_eq_true] at k'
    exact of_decide_eq_true k'.2
theorem bl_ne (a b : Bool) : (!decide (V.bl a = V.bl b)) = (a != b) := by cases a <;> cases b <;> simp
theorem tfs_part (r : Row) : (tfs r).lookup ("part" : Str) = none := tfs_none r (by decide +kernel) (by decide +kernel) (by decide +kernel) (by decide +kernel) (by decide +kernel) (by decide +kernel) (by decide +kernel)
def sp_behind (C : Addr) : Sp := fun vs H Q _ => ∃ (q1 q2 : Addr) (r1 r2 : Row), vs = [.ref q1, .ref q2] ∧ TieAt C H q1 r1 ∧ TieAt C H q2 r2 ∧ (r1.behind r2).Ok ∧ ∀ x H', H x = none → Same H H' → TieAt C H' x (r1.behind r2) → Q (.ref x) H'
def sp_T_rshift (Z : Zs) : PySem.W.Frag → Sp := fun _ vs H Q E => ∃ (q1 q2 : Addr) (r1 r2 : Row), vs = [.ref q1, .ref q2] ∧ TieAt Z.cC H q1 r1 ∧ TieAt Z.cC H q2 r2 ∧ r1.Ok ∧ r2.Ok ∧ r1.Small ∧ r2.Small ∧
  ((r1.st r2 < r1.en r2 ∧ ∀ x H', H x = none → Same H H' → TieAt Z.cC H' x (r1.join r2) → Q (.ref x) H') ∨ (r1.en r2 ≤ r1.st r2 ∧ ∀ t, H t = none → Out E (Z.c 1) (.ref t) (upd H t (.tup [.ref q1, .ref q2]))))
section
variable {P : Program} {w : World} {K : PySem.W.Frag} {mg : Str → Option Value} {base : Heap} {Z : Zs}
theorem ok_one_behind_other (T : Txt K mg Z) : FnOk P w K mg base CX0 6 Z.f_one_behind_other Z.d_one_behind_other ["one", "other"] (sp_behind Z.cC) := by
  refine T.F_one_behind_other.ok sc_one_behind_other (fun vs H Q E h => ?_) (fun cdv A outer s H vs Q E hr h => ?_)
  · obtain ⟨q1, q2, r1, r2, rfl, _⟩ := h
    rfl
  · obtain ⟨q1, q2, r1, r2, rfl, ⟨d1, h1⟩, ⟨d2, h2⟩, ok, k⟩ := h
    obtain ⟨its, mv, kb⟩ := kb_tie T
    refine ⟨_, (pss_cons (ps_set (i := 2) sc_one_behind_other.nd rfl (Or.inl rfl) (pe_ifExp (pt_val (pe_fld (pv 1) rfl)) (pe_op op_sub (pe_fld (pv 1) rfl) (pe_fld (pv 0) rfl)) (pe_op op_add (pe_fld (pv 1) rfl) (pe_fld (pv 0) rfl))))
      (pss_one (ps_ret (pe_makeK (mkT T) (ok_T_init T) (hr.mono (by decide)) rfl T.g_C kb pass0 (pa_cons (pe_fld (pv 0) rfl) (pa_cons (pe_fld (pv 1) rfl) (pa_cons (pe_fld (pv 0) rfl) (pa_cons (pv 2) pa_nil)))) (pk_cons (pe_cmpR op_ne (pe_fld (pv 0) rfl) (pe_fld (pv 1) rfl) (nomark _)) (pk_cons (pe_cmpR op_ne (pe_fld (pv 0) rfl) (pe_fld (pv 1) rfl) (nomark _)) pk_nil)))))), ?_⟩
    refine ⟨_, rfl, q2, _, d2, _, _, rfl, h2, T.cl, T.n_down, tfs_down r2, r2.d, rfl, ?_⟩
    refine' share0 (fun tail => ite2 (fun c => ?b1) (fun c => ?b2)) ?b3
    case b1 =>
      refine ⟨_, rfl, q2, _, d2, _, _, rfl, h2, T.cl, T.n_amount, tfs_amount r2, _, rfl, q1, _, d1, _, _, rfl, h1, T.cl, T.n_amount, tfs_amount r1, _, _, rfl, rfl, ?_⟩
      have e : r2.a - r1.a = (r1.behind r2).a := by
        show _ = if r2.d = true then r2.a - r1.a else r2.a + r1.a
        rw [if_pos c]
      dsimp only
      rw [e]
      exact tail
    case b2 =>
      refine ⟨_, rfl, q2, _, d2, _, _, rfl, h2, T.cl, T.n_amount, tfs_amount r2, _, rfl, q1, _, d1, _, _, rfl, h1, T.cl, T.n_amount, tfs_amount r1, _, _, rfl, rfl, ?_⟩
      have e : r2.a + r1.a = (r1.behind r2).a := by
        show _ = if r2.d = true then r2.a - r1.a else r2.a + r1.a
        rw [if_neg c]
      dsimp only
      rw [e]
      exact tail
    case b3 =>
      refine ⟨_, rfl, q1, _, d1, _, _, rfl, h1, T.cl, T.n_first, tfs_first r1, _, rfl, q2, _, d2, _, _, rfl, h2, T.cl, T.n_second, tfs_second r2, _, rfl, q1, _, d1, _, _, rfl, h1, T.cl, T.n_length, tfs_length r1, _, rfl, ?_⟩
      refine ⟨_, rfl, q1, _, d1, _, _, rfl, h1, T.cl, T.n_down, tfs_down r1, _, rfl, q2, _, d2, _, _, rfl, h2, T.cl, T.n_down, tfs_down r2, rfl, ?_⟩
      refine ⟨_, rfl, q1, _, d1, _, _, rfl, h1, T.cl, T.n_backward, tfs_backward r1, _, rfl, q2, _, d2, _, _, rfl, h2, T.cl, T.n_backward, tfs_backward r2, rfl, ?_⟩
      rw [bl_ne, bl_ne]
      refine ⟨rfl, rfl, fun x dx nx nd ne => ?_⟩
      exact ⟨x, dx, r1.behind r2, r1.b != r2.b, rfl, ok, rfl, upd_same, fun H' hx kp => ⟨rfl, k x H' nx (made nx nd kp) ⟨dx, hx⟩⟩⟩
theorem ok_T_rshift (T : Txt K mg Z) : FnOk P w K mg base (L2.CX P w) 7 Z.f_T_rshift Z.d_T_rshift ["self", "other"] (sp_T_rshift Z K) := by
  refine T.F_T_rshift.okX sc_T_rshift (fun vs H Q E h => ?_) (fun cdv A outer s H vs Q E hr h => ?_)
  · obtain ⟨q1, q2, r1, r2, rfl, _⟩ := h
    rfl
  · obtain ⟨q1, q2, r1, r2, rfl, ⟨d1, h1⟩, ⟨d2, h2⟩, ok1, ok2, sm1, sm2, h⟩ := h
    refine ⟨_, (pss_cons (ps_if (pt_not (pt_val (pe_callB  call_isi (by rfl) T.b_isinstance (by decide +kernel) (pa_cons (pv 1) (pa_cons (pe_glob (v := .ref Z.cC) rfl T.g_C rfl) pa_nil))))) (pss_one ps_never) pss_nil)
      (pss_cons (ps_set (i := 2) sc_T_rshift.nd rfl (Or.inl rfl) (pe_callB  (call_max2 rfl) (by rfl) T.b_max (by decide +kernel) (pa_cons (pe_fld (pv 0) rfl) (pa_cons (pe_fld (pv 1) rfl) pa_nil))))
      (pss_cons (ps_set (i := 3) sc_T_rshift.nd rfl (Or.inl rfl) (pe_callB  (call_min2 rfl) (by rfl) T.b_min (by decide +kernel) (pa_cons (pe_op op_add (pe_fld (pv 0) rfl) (pe_fld (pv 0) rfl)) (pa_cons (pe_op op_add (pe_fld (pv 1) rfl) (pe_fld (pv 1) rfl)) pa_nil))))
      (pss_cons (ps_if (pt_cmpR op_ge (pv 2) (pv 3) (nomark _)) (pss_one (ps_raise rfl (takes_of rfl rfl rfl rfl) (pmk_oex (T.ex 1 (by decide)).ox (T.ex 1 (by decide)).ini T.t_E_init (ok_E_init T) (hr.mono (by decide)) T.bn_E_init .nil pass0 rfl T.g_NoJoint (pa_cons (pe_tup (pa_cons (pv 0) (pa_cons (pv 1) pa_nil))) pa_nil)))) pss_nil)
      (pss_cons (ps_set (i := 4) sc_T_rshift.nd rfl (Or.inl rfl) (pe_ifExp (pt_val (pe_fld (pv 0) rfl)) (pe_op op_sub (pe_op op_add (pe_fld (pv 0) rfl) (pe_fld (pv 0) rfl)) (pv 3)) (pe_op op_sub (pv 2) (pe_fld (pv 0) rfl))))
      (pss_one (ps_ret (pe_call (ok_one_behind_other T) (hr.mono (by decide)) rfl T.g_one_behind_other T.k_one_behind_other T.bn_one_behind_other .nil pass0 (pa_cons (pe_meth (pv 0) T.cl ⟨T.a_T_part, T.i_T_part, T.k_T_part⟩ (ok_T_part T) (hr.mono (by decide)) T.bn_T_part .nil (passes_call (takes_of rfl rfl rfl rfl) (fun _ _ _ _ h => h)) (pa_cons (pv 4) (pa_cons (pe_op op_sub (pv 3) (pv 2)) pa_nil))) (pa_cons (pe_meth (pv 1) T.cl ⟨T.a_T_part, T.i_T_part, T.k_T_part⟩ (ok_T_part T) (hr.mono (by decide)) T.bn_T_part .nil (passes_call (takes_of rfl rfl rfl rfl) (fun _ _ _ _ h => h)) (pa_cons (pe_op op_sub (pv 2) (pe_fld (pv 1) rfl)) (pa_cons (pe_op op_sub (pv 3) (pv 2)) pa_nil))) pa_nil)))))))))), ?_⟩
    refine ⟨_, rfl, _, _, _, _, true, rfl, .own Z.cC, .base (.ins h2 T.cl T.z_cls T.z_get T.z_tk T.z_mro), T.z_kit, true, rfl, iteF ?_⟩
    refine ⟨_, rfl, q1, _, d1, _, _, rfl, h1, T.cl, T.n_second, tfs_second r1, _, rfl, q2, _, d2, _, _, rfl, h2, T.cl, T.n_first, tfs_first r2, _, _, rfl, ?_⟩
    refine ⟨_, rfl, q1, _, d1, _, _, rfl, h1, T.cl, T.n_second, tfs_second r1, _, rfl, q1, _, d1, _, _, rfl, h1, T.cl, T.n_length, tfs_length r1, _, _, rfl, rfl, _, rfl, q2, _, d2, _, _, rfl, h2, T.cl, T.n_first, tfs_first r2, _, rfl, q2, _, d2, _, _, rfl, h2, T.cl, T.n_length, tfs_length r2, _, _, rfl, rfl, _, _, rfl, ?_⟩
    refine ⟨_, rfl, _, rfl, _, _, rfl, rfl, _, rfl, ?_⟩
    have es : (if r2.f > r1.s then r2.f else r1.s) = r1.st r2 := rfl
    have ee : (if r2.f + r2.l < r1.s + r1.l then r2.f + r2.l else r1.s + r1.l) = r1.en r2 := rfl
    rw [es, ee]
    rcases h with ⟨c, k⟩ | ⟨c, k⟩
    · obtain ⟨a0, n0, a1, b0, b1⟩ := Row.ahead_in ok1 ok2 c
      have okp := ok1.part a0 n0 a1
      have okq := ok2.part b0 n0 b1
      rw [decide_eq_false (by omega)]
      refine iteF ?_
      refine ⟨_, rfl, q1, _, d1, _, _, rfl, h1, T.cl, T.n_backward, tfs_backward r1, r1.b, rfl, ?_⟩
      refine' share0 (fun tail => ite2 (fun cb => ?b1) (fun cb => ?b2)) ?b3
      case b1 =>
        refine ⟨_, rfl, q1, _, d1, _, _, rfl, h1, T.cl, T.n_second, tfs_second r1, _, rfl, q1, _, d1, _, _, rfl, h1, T.cl, T.n_length, tfs_length r1, _, _, rfl, rfl, _, rfl, _, _, rfl, rfl, ?_⟩
        have e : r1.s + r1.l - r1.en r2 = r1.ahead r2 := by
          unfold Row.ahead
          rw [if_pos cb]
        dsimp only
        rw [e]
        exact tail
      case b2 =>
        refine ⟨_, rfl, _, rfl, q1, _, d1, _, _, rfl, h1, T.cl, T.n_second, tfs_second r1, _, _, rfl, rfl, ?_⟩
        have e : r1.st r2 - r1.s = r1.ahead r2 := by
          unfold Row.ahead
          rw [if_neg cb]
        dsimp only
        rw [e]
        exact tail
      case b3 =>
        refine ⟨_, rfl, q1, d1, _, rfl, h1, tfs_part r1, _, rfl, _, rfl, _, rfl, _, _, rfl, rfl, q1, r1, .int (r1.ahead r2), .int (r1.en r2 - r1.st r2), some _, some _, rfl, ⟨d1, h1⟩, ok1, .int _, .int _, .inl ⟨_, _, rfl, rfl, a0, n0, a1, fun x H1 nx s1 hx => ?_⟩⟩
        have h2' := s1 _ _ h2
        refine ⟨_, rfl, q2, d2, _, rfl, h2', tfs_part r2, _, rfl, _, rfl, q2, _, d2, _, _, rfl, h2', T.cl, T.n_first, tfs_first r2, _, _, rfl, rfl, _, rfl, _, rfl, _, _, rfl, rfl, q2, r2, .int (r1.st r2 - r2.f), .int (r1.en r2 - r1.st r2), some _, some _, rfl, ⟨d2, h2'⟩, ok2, .int _, .int _, .inl ⟨_, _, rfl, rfl, b0, n0, b1, fun y H2 ny s2 hy => ?_⟩⟩
        refine ⟨x, y, _, _, rfl, Same.tie s2 hx, hy, Row.Ok.behind okp okq rfl ⟨sm1.lo, sm1.hi⟩ ⟨sm2.lo, sm2.hi⟩, fun z H3 nz s3 hz => ?_⟩
        exact k z H3 (Same.fresh (s1.trans s2) nz) ((s1.trans s2).trans s3) hz
    · rw [decide_eq_true (show r1.st r2 ≥ r1.en r2 from c)]
      exact iteT ⟨_, rfl, _, rfl, by show 2 ≤ sizeLine; decide, fun t ht => mkR (T.ex 1 (by decide)) (k t ht)⟩
end
end TT

namespace TT
open PySem PySem.Spec PyProof.Rows L2
/-! ### the law's own joining, place by place -/
theorem Row.join_b {r q : Row} : (r.join q).b = ((r.b != q.b) && decide (1 < r.en q - r.st q)) := by
  show (((r.b && decide (1 < r.en q - r.st q)) != (q.b && decide (1 < r.en q - r.st q))) && decide (1 < r.en q - r.st q)) = _
  cases r.b <;> cases q.b <;> cases decide (1 < r.en q - r.st q) <;> rfl
section
variable {P : Program} {w : World} {K : PySem.W.Frag} {mg : Str → Option Value} {base : Heap} {Z : Zs}
end
end TT


namespace TT
open PySem PySem.Spec PyProof.Rows L2
/-! ### joined again and again -/
theorem Row.same {r q : Row} (h1 : r.f = q.f) (h2 : r.s = q.s) (h3 : r.l = q.l) (h4 : r.a = q.a) (h5 : r.d = q.d) (h6 : r.b = q.b) : r = q := by
  cases r
  cases q
  simp_all
theorem odd_iff (m : Int) : odd m = decide (m % 2 = 1) := by
  unfold odd
  by_cases c : m % 2 = 1
  · rw [c]
    rfl
  · rw [decide_eq_false c, decide_eq_false fun z => c (V.int.inj z)]
theorem odd_next (m : Int) : odd (m + 1) = !odd m := by
  rw [odd_iff, odd_iff]
  rcases (show m % 2 = 0 ∨ m % 2 = 1 by omega) with c | c
  · rw [decide_eq_true (show (m + 1) % 2 = 1 by omega), decide_eq_false (by omega)]
    rfl
  · rw [decide_eq_false (show ¬ (m + 1) % 2 = 1 by omega), decide_eq_true c]
    rfl
theorem Row.ma_one (r : Row) : r.ma 1 = r.a := by
  unfold Row.ma
  split <;> simp
theorem Row.ma_next (r : Row) (m : Int) : (if r.d = true then r.a - r.ma m else r.a + r.ma m) = r.ma (m + 1) := by
  unfold Row.ma
  by_cases d : r.d = true
  · simp only [if_pos d]
    rcases (show m % 2 = 0 ∨ m % 2 = 1 by omega) with c | c
    · have e : (m + 1) % 2 = 1 := by omega
      rw [c, e]
      omega
    · have e : (m + 1) % 2 = 0 := by omega
      rw [c, e]
      omega
  · simp only [if_neg d]
    rw [Int.mul_add, Int.mul_one]
    omega
/-- a row before the m-th one was made of it -/
def At (r : Row) (m : Int) (t : Row) : Prop := (m = 1 ∧ t = r) ∨ (2 ≤ m ∧ t = r.many m ∧ 1 ≤ r.ml m)
theorem At.a {r t : Row} {m : Int} (h : At r m t) : t.a = r.ma m := by
  rcases h with ⟨rfl, rfl⟩ | ⟨_, rfl, _⟩
  · exact (Row.ma_one _).symm
  · rfl
theorem At.d {r t : Row} {m : Int} (h : At r m t) : t.d = (r.d && odd m) := by
  rcases h with ⟨rfl, rfl⟩ | ⟨_, rfl, _⟩
  · rw [show odd 1 = true from rfl, Bool.and_true]
  · rfl
/-- straight on -/
theorem At.straight {r t : Row} {m : Int} (h : At r m t) (ok : r.Ok) (b : r.b = false) : 1 ≤ m ∧ t.f = r.mf m ∧ t.s = r.ms m ∧ t.l = r.ml m ∧ 1 ≤ t.l ∧ t.b = false := by
  have l0 := ok.l0
  rcases h with ⟨rfl, rfl⟩ | ⟨c, rfl, l⟩
  · have nb : ¬ t.b = true := by rw [b]; decide
    refine ⟨by decide, ?_, ?_, ?_, l0, b⟩
    · unfold Row.mf
      rw [if_neg nb]
      omega
    · unfold Row.ms Row.mf
      rw [if_neg nb, if_neg nb]
      omega
    · unfold Row.ml
      rw [if_neg nb]
      omega
  · refine ⟨by omega, rfl, rfl, rfl, l, ?_⟩
    show ((r.b && odd m) && decide (1 < r.ml m)) = false
    rw [b]
    rfl
theorem next_s {r t : Row} {m : Int} (h : At r m t) (ok : r.Ok) (b : r.b = false) : t.en r - t.st r = r.ml (m + 1) ∧ (1 ≤ r.ml (m + 1) → t.f + t.ahead r = r.mf (m + 1) ∧ r.s + (t.st r - r.f) = r.ms (m + 1)) := by
  obtain ⟨m0, hf, hs, hl, l1, tb⟩ := h.straight ok b
  have nb : ¬ r.b = true := by rw [b]; decide
  have ntb : ¬ t.b = true := by rw [tb]; decide
  have e1 : (m + 1 - 1) * r.gap = (m - 1) * r.gap + r.gap := by
    rw [show m + 1 - 1 = (m - 1) + 1 by omega, Int.add_mul, Int.one_mul]
  have e2 : (m + 1) * (r.s - r.f) = m * (r.s - r.f) + (r.s - r.f) := by rw [Int.add_mul, Int.one_mul]
  have e3 : m * (r.s - r.f) = (m - 1) * (r.s - r.f) + (r.s - r.f) := by
    rw [show m * (r.s - r.f) = ((m - 1) + 1) * (r.s - r.f) by rw [show m - 1 + 1 = m by omega], Int.add_mul, Int.one_mul]
  have t0 : 0 ≤ (m - 1) * r.gap := Int.mul_nonneg (by omega) r.gap0
  unfold Row.ml Row.mf Row.ms at *
  unfold Row.ahead Row.st Row.en
  unfold Row.mf at hs ⊢
  simp only [if_neg nb, if_neg ntb] at *
  rw [hs, hl, hf]
  by_cases c : r.s - r.f < 0
  · have g : r.gap = -(r.s - r.f) := if_pos c
    have k1 : (if -(r.s - r.f) > 0 then -(r.s - r.f) else 0) = r.gap := by rw [if_pos (by omega), g]
    have k2 : (m - 1) * (r.s - r.f) = -((m - 1) * r.gap) := by rw [g, Int.mul_neg]; omega
    rw [k1, e1, e2, e3, k2]
    generalize (m - 1) * r.gap = x at *
    refine ⟨?_, fun q => ⟨?_, ?_⟩⟩ <;> (repeat' split) <;> omega
  · have g : r.gap = r.s - r.f := if_neg c
    have k1 : (if -(r.s - r.f) > 0 then -(r.s - r.f) else 0) = 0 := if_neg (by omega)
    have k2 : (m - 1) * (r.s - r.f) = (m - 1) * r.gap := by rw [g]
    rw [k1, e1, e2, e3, k2, Int.mul_zero, Int.mul_zero]
    generalize (m - 1) * r.gap = x at *
    refine ⟨?_, fun q => ⟨?_, ?_⟩⟩ <;> (repeat' split) <;> omega
theorem next_b {r t : Row} {m : Int} (h : At r m t) (ok : r.Ok) (b : r.b = true) : t.en r - t.st r = r.ml (m + 1) ∧ (1 ≤ r.ml (m + 1) → t.f + t.ahead r = r.mf (m + 1) ∧ r.s + (r.l - (t.st r - r.f) - (t.en r - t.st r)) = r.ms (m + 1)) := by
  have f0 := ok.f0; have s0 := ok.s0; have l0 := ok.l0
  rcases h with ⟨rfl, rfl⟩ | ⟨c, rfl, l⟩
  · unfold Row.ml Row.mf Row.ms Row.ahead Row.st Row.en Row.gap
    simp only [if_pos b]
    refine ⟨?_, fun q => ⟨?_, ?_⟩⟩ <;> (repeat' split) <;> omega
  · have ef : (r.many m).f = (if r.s > r.f then r.s else r.f) := if_pos b
    have es : (r.many m).s = (if r.s > r.f then r.s else r.f) := if_pos b
    have el : (r.many m).l = r.l - r.gap := if_pos b
    have el2 : r.ml m = r.l - r.gap := if_pos b
    rw [el2] at l
    unfold Row.ml Row.mf Row.ms Row.ahead Row.st Row.en
    simp only [if_pos b, ef, es, el]
    unfold Row.gap at *
    refine ⟨?_, fun q => ⟨?_, ?_⟩⟩ <;> (repeat' split) <;> omega
theorem next_bk {r t : Row} {m : Int} (h : At r m t) (ok : r.Ok) : ((t.b != r.b) && decide (1 < r.ml (m + 1))) = ((r.b && odd (m + 1)) && decide (1 < r.ml (m + 1))) := by
  have e : r.b = true → r.ml (m + 1) = r.ml m := fun b => by
    unfold Row.ml
    rw [if_pos b, if_pos b]
  rcases h with ⟨rfl, rfl⟩ | ⟨c, rfl, l⟩
  · rw [show odd (1 + 1) = false from rfl]
    cases t.b <;> rfl
  · show ((((r.b && odd m) && decide (1 < r.ml m)) != r.b) && decide (1 < r.ml (m + 1))) = _
    rw [odd_next]
    cases b : r.b with
    | false => simp
    | true =>
      rw [e b]
      cases odd m <;> cases decide (1 < r.ml m) <;> rfl
theorem join_next {r t : Row} {m : Int} (h : At r m t) (ok : r.Ok) (l : 1 ≤ r.ml (m + 1)) : t.join r = r.many (m + 1) := by
  have a : (t.join r).a = r.ma (m + 1) := by
    rw [← Row.ma_next, ← h.a]
    rfl
  have d : (t.join r).d = (r.d && odd (m + 1)) := by
    show (t.d != r.d) = _
    rw [h.d, odd_next]
    cases r.d <;> cases odd m <;> rfl
  have bk : (t.join r).b = ((r.b && odd (m + 1)) && decide (1 < r.ml (m + 1))) := by
    rw [Row.join_b, ← next_bk h ok]
    congr 2
    cases b : r.b with
    | false => rw [(next_s h ok b).1]
    | true => rw [(next_b h ok b).1]
  cases b : r.b with
  | false =>
    obtain ⟨n1, n2⟩ := next_s h ok b
    obtain ⟨n2, n3⟩ := n2 l
    refine Row.same n2 ?_ n1 a d bk
    show r.s + (if r.b = true then r.l - (t.st r - r.f) - (t.en r - t.st r) else t.st r - r.f) = r.ms (m + 1)
    rw [if_neg (by rw [b]; decide)]
    exact n3
  | true =>
    obtain ⟨n1, n2⟩ := next_b h ok b
    obtain ⟨n2, n3⟩ := n2 l
    refine Row.same n2 ?_ n1 a d bk
    show r.s + (if r.b = true then r.l - (t.st r - r.f) - (t.en r - t.st r) else t.st r - r.f) = r.ms (m + 1)
    rw [if_pos b]
    exact n3
theorem joins_iff {r t : Row} {m : Int} (h : At r m t) (ok : r.Ok) : t.st r < t.en r ↔ 1 ≤ r.ml (m + 1) := by
  cases b : r.b with
  | false =>
    have := (next_s h ok b).1
    omega
  | true =>
    have := (next_b h ok b).1
    omega
theorem ml_down {r : Row} {m : Int} (h : 1 ≤ m) : r.ml (m + 1) ≤ r.ml m := by
  have e1 : (m + 1 - 1) * r.gap = (m - 1) * r.gap + r.gap := by
    rw [show m + 1 - 1 = (m - 1) + 1 by omega, Int.add_mul, Int.one_mul]
  have := r.gap0
  unfold Row.ml
  split <;> omega
end TT

namespace TT
open PySem PySem.Spec PyProof.Rows L2 LamX
/-! ### == of ties, with either answer -/
def eqB (r r' : Row) : Bool := PyData.eqv r.dat r'.dat
theorem eqB_eq (r r' : Row) : eqB r r' = ((r.f == r'.f) && ((r.s == r'.s) && ((r.l == r'.l) && ((r.a == r'.a) && ((r.d == r'.d) && ((r.b == r'.b) && true)))))) := by
  unfold eqB Row.dat
  simp only [PyData.eqv, PyData.eqvAll]
theorem dec_int (i j : Int) : decide (V.int i = V.int j) = (i == j) := by
  by_cases c : i = j
  · subst c
    simp
  · rw [decide_eq_false (fun e => c (V.int.inj e))]
    simp [c]
theorem dec_bl (i j : Bool) : decide (V.bl i = V.bl j) = (i == j) := by cases i <;> cases j <;> simp
def sp_T_eqB (Z : Zs) : Sp := fun vs H Q _ => ∃ (a : Addr) (y : V) (r : Row), vs = [.ref a, y] ∧ TieAt Z.cC H a r ∧ ((∃ b r', y = .ref b ∧ TieAt Z.cC H b r' ∧ Q (.bl (eqB r r')) H) ∨ ∃ b xs, y = .ref b ∧ H b = some (.tup xs) ∧ Q (.bl false) H)
section
variable {P : Program} {w : World} {K : PySem.W.Frag} {mg : Str → Option Value} {base : Heap} {Z : Zs}
theorem ok_T_eqB (T : Txt K mg Z) : FnOk P w K mg base CX0 1 Z.f_T_eq Z.d_T_eq ["self", "other"] (sp_T_eqB Z) := by
  refine T.F_T_eq.ok sc_T_eq (fun vs H Q E h => ?_) (fun cdv A outer s H vs Q E hr h => ?_)
  · obtain ⟨a, y, r, rfl, _⟩ := h
    rfl
  · obtain ⟨a, y, r, rfl, ⟨da, ha⟩, h⟩ := h
    refine ⟨_, (pss_one (ps_ret (pe_and (pe_callB  call_isi (by rfl) T.b_isinstance (by decide +kernel) (pa_cons (pv 1) (pa_cons (pe_glob (v := .ref Z.cC) rfl T.g_C rfl) pa_nil))) (pe_and (pe_cmpR op_eq (pe_fld (pv 0) rfl) (pe_fld (pv 1) rfl) (nomark _)) (pe_and (pe_cmpR op_eq (pe_fld (pv 0) rfl) (pe_fld (pv 1) rfl) (nomark _)) (pe_and (pe_cmpR op_eq (pe_fld (pv 0) rfl) (pe_fld (pv 1) rfl) (nomark _)) (pe_and (pe_cmpR op_eq (pe_fld (pv 0) rfl) (pe_fld (pv 1) rfl) (nomark _)) (pe_and (pe_cmpR op_eq (pe_fld (pv 0) rfl) (pe_fld (pv 1) rfl) (nomark _)) (pe_one (pe_cmpR op_eq (pe_fld (pv 0) rfl) (pe_fld (pv 1) rfl) (nomark _))))))))))), ?_⟩
    rcases h with ⟨b, r', rfl, ⟨db, hb⟩, k⟩ | ⟨b, xs, rfl, hb, k⟩
    · rw [eqB_eq] at k
      refine ⟨_, rfl, _, _, _, _, true, rfl, .own Z.cC, .base (.ins hb T.cl T.z_cls T.z_get T.z_tk T.z_mro), T.z_kit, true, rfl, iteT ?_⟩
      refine ⟨_, rfl, a, _, da, _, _, rfl, ha, T.cl, T.n_first, tfs_first r, _, rfl, b, _, db, _, _, rfl, hb, T.cl, T.n_first, tfs_first r', rfl, _, rfl, ?_⟩
      rw [dec_int]
      cases c1 : (r.f == r'.f)
      · rw [c1] at k
        exact iteF k
      rw [c1] at k
      refine iteT ⟨_, rfl, a, _, da, _, _, rfl, ha, T.cl, T.n_second, tfs_second r, _, rfl, b, _, db, _, _, rfl, hb, T.cl, T.n_second, tfs_second r', rfl, _, rfl, ?_⟩
      rw [dec_int]
      cases c2 : (r.s == r'.s)
      · rw [c2] at k
        exact iteF k
      rw [c2] at k
      refine iteT ⟨_, rfl, a, _, da, _, _, rfl, ha, T.cl, T.n_length, tfs_length r, _, rfl, b, _, db, _, _, rfl, hb, T.cl, T.n_length, tfs_length r', rfl, _, rfl, ?_⟩
      rw [dec_int]
      cases c3 : (r.l == r'.l)
      · rw [c3] at k
        exact iteF k
      rw [c3] at k
      refine iteT ⟨_, rfl, a, _, da, _, _, rfl, ha, T.cl, T.n_amount, tfs_amount r, _, rfl, b, _, db, _, _, rfl, hb, T.cl, T.n_amount, tfs_amount r', rfl, _, rfl, ?_⟩
      rw [dec_int]
      cases c4 : (r.a == r'.a)
      · rw [c4] at k
        exact iteF k
      rw [c4] at k
      refine iteT ⟨_, rfl, a, _, da, _, _, rfl, ha, T.cl, T.n_down, tfs_down r, _, rfl, b, _, db, _, _, rfl, hb, T.cl, T.n_down, tfs_down r', rfl, _, rfl, ?_⟩
      rw [dec_bl]
      cases c5 : (r.d == r'.d)
      · rw [c5] at k
        exact iteF k
      rw [c5] at k
      refine iteT ⟨_, rfl, a, _, da, _, _, rfl, ha, T.cl, T.n_backward, tfs_backward r, _, rfl, b, _, db, _, _, rfl, hb, T.cl, T.n_backward, tfs_backward r', rfl, ?_⟩
      rw [dec_bl]
      cases c6 : (r.b == r'.b)
      · rw [c6] at k
        exact k
      · rw [c6] at k
        exact k
    · exact ⟨_, rfl, _, _, _, _, false, rfl, .own Z.cC, .base (.tup hb), T.z_kitT, false, rfl, iteF k⟩
end
end TT

set_option maxHeartbeats 4000000
namespace TT
open PySem PySem.Spec PyProof.Rows L2 LamX TL
/-! ### numbers read -/
def sp_number_of : Sp := fun vs H Q _ => ∃ d : Str, vs = [.str d] ∧ allDig (tl d) = true ∧ d.length ≤ 63 ∧ Q (.int ((NumText.digitsVal (tl d) : Nat) : Int)) H
/-- a number, or None -/
def numV : Option Int → V
  | some n => .int n
  | none => .non
def sp_number_in : Sp := fun vs H Q _ => ∃ w : Str, vs = [.str w] ∧ w.length ≤ 63 ∧ Q (numV (numRead w)) H
theorem small_none : ∀ n : Nat, n < 65 → Builtin.Range.small (n : Int) (n : Int) 64 = true := by decide +kernel
theorem range_none {n : Int} (h0 : 0 ≤ n) (h1 : n ≤ 64) : RgC n n 64 0 := by
  obtain ⟨m, rfl⟩ : ∃ m : Nat, n = (m : Int) := ⟨n.toNat, by omega⟩
  refine ⟨by decide, by decide, small_none m (by omega), ?_⟩
  unfold Builtin.Range.rangeSize
  simp
theorem shareS {T : Str → Prop} {G : Prop} (C : Str → Prop) (h : (∀ g, C g → T g) → G) (t : ∀ g, C g → T g) : G := h t
theorem cut_all {d : Str} {n : Int} (h : n = (d.length : Int)) : cutS d none (some n) = d := by
  subst h
  refine ext_tl ?_
  have hl := len_tl d
  have e2 : HT.sIx d.length d.length (some (d.length : Int)) = d.length := by
    show (if ((d.length : Nat) : Int) < 0 then (((d.length : Nat) : Int) + (d.length : Int)).toNat else min ((d.length : Nat) : Int).toNat d.length) = d.length
    rw [if_neg (by omega)]
    omega
  unfold cutS
  show (((tl d).drop (HT.sIx d.length 0 none)).take (HT.sIx d.length d.length (some (d.length : Int)) - HT.sIx d.length 0 none)) = tl d
  rw [e2]
  show ((tl d).drop 0).take (d.length - 0) = tl d
  rw [List.drop_zero]
  exact List.take_of_length_le (by omega)
section
variable {P : Program} {w : World} {K : PySem.W.Frag} {mg : Str → Option Value} {base : Heap} {Z : Zs}
theorem ok_number_of (T : Txt K mg Z) : FnOk P w K mg base CX0 1 Z.f_number_of Z.d_number_of ["digits"] sp_number_of := by
  refine T.F_number_of.ok sc_number_of (fun vs H Q E h => ?_) (fun cdv A outer s H vs Q E hr h => ?_)
  · obtain ⟨d, rfl, _⟩ := h
    rfl
  · obtain ⟨d, rfl, hd, hl, k⟩ := h
    have sl : sizeLine = 16777216 := sizeLine_eq
    refine ⟨_, (pss_cons (ps_set (i := 1) sc_number_of.nd rfl (Or.inl rfl) (pe_op op_mod (pe_callB  call_len_str (by rfl) T.b_len (by decide +kernel) (pa_cons (pv 0) pa_nil)) (pe_glob (v := .int 64) rfl T.c__DIGITS ⟨_, rfl⟩)))
      (pss_cons (ps_set (i := 2) sc_number_of.nd rfl (Or.inl rfl) (pe_callTy call_int_str (by rfl) T.b_int (by decide +kernel) (pa_cons (pe_op op_add_str pe_str (pe_slice sl_str (pv 0) po_none (po_some (pv 1)))) pa_nil)))
      (pss_cons (ps_for PassesOwn.never rfl (pi_range3 rfl T.b_range (pa_cons (pv 1) (pa_cons (pe_callB  call_len_str (by rfl) T.b_len (by decide +kernel) (pa_cons (pv 0) pa_nil)) (pa_cons (pe_glob (v := .int 64) rfl T.c__DIGITS ⟨_, rfl⟩) pa_nil)))) (pg_name (i := 3) sc_number_of.nd rfl (Or.inl rfl)) (pss_one (ps_set (i := 2) sc_number_of.nd rfl (Or.inl rfl) (pe_op op_add (pe_op op_mul (pv 2) (pe_glob (v := .int 10000000000000000000000000000000000000000000000000000000000000000) rfl T.c__CHUNK ⟨_, rfl⟩)) (pe_callTy call_int_str (by rfl) T.b_int (by decide +kernel) (pa_cons (pe_slice sl_str (pv 0) (po_some (pv 3)) (po_some (pe_op op_add (pv 3) (pe_glob (v := .int 64) rfl T.c__DIGITS ⟨_, rfl⟩)))) pa_nil))))))
      (pss_one (ps_ret (pv 2)))))), ?_⟩
    refine ⟨_, rfl, _, rfl, by omega, _, _, rfl, rfl, by show (0 : Int) < 64; decide, ?_⟩
    have hm : ((d.length : Nat) : Int) % 64 = (d.length : Int) := by omega
    have l0 : (Str.ofString "0").length = 1 := by decide
    refine ⟨_, rfl, _, rfl, _, rfl, d, rfl, by omega, ?_⟩
    rw [cut_all hm]
    refine ⟨_, _, rfl, rfl, by omega, _, _, rfl, int_zero hd (by omega), by rw [Str.length_append]; omega, ?_⟩
    refine ⟨_, rfl, _, rfl, _, rfl, by omega, _, _, _, 0, rfl, by rw [hm]; exact range_none (by omega) (by omega), ?_⟩
    refine for_rangeC (n := 0) (fun _ σ H' => σ = [some (.str d), some (.int (((d.length : Nat) : Int) % 64)), some (.int ((NumText.digitsVal (tl d) : Nat) : Int)), none] ∧ H' = H) ⟨rfl, rfl⟩ (fun i σ H' hi => absurd hi (Nat.not_lt_zero i)) ?_
    rintro σ H' ⟨rfl, rfl⟩
    exact ⟨_, rfl, k⟩
theorem ok_number_in (T : Txt K mg Z) : FnOk P w K mg base CX0 2 Z.f_number_in Z.d_number_in ["word"] sp_number_in := by
  refine T.F_number_in.ok sc_number_in (fun vs H Q E h => ?_) (fun cdv A outer s H vs Q E hr h => ?_)
  · obtain ⟨d, rfl, _⟩ := h
    rfl
  · obtain ⟨d, rfl, hl, k⟩ := h
    have sl : sizeLine = 16777216 := sizeLine_eq
    refine ⟨_, (pss_cons (ps_set (i := 1) sc_number_in.nd rfl (Or.inl rfl) (pe_ifExp (pt_val (pe_m1 PySem.F.slot_str_startswith PySem.F.type_str_startswith mt_startswith (pv 0) pe_str)) (pe_slice sl_str (pv 0) (po_some pe_int) po_none) (pv 0)))
      (pss_cons (ps_if (PW.pt (pw_or (pt_not (pt_val (pe_m0 PySem.F.slot_str_isascii PySem.F.type_str_isascii mt_isascii (pv 1)))) (pw_or1 (pt_not (pt_val (pe_m0 PySem.F.slot_str_isdigit PySem.F.type_str_isdigit mt_isdigit (pv 1))))))) (pss_one (ps_ret pe_non)) pss_nil)
      (pss_cons (ps_if (PW.pt (pw_and (pt_val (pe_m1 PySem.F.slot_str_startswith PySem.F.type_str_startswith mt_startswith (pv 1) pe_str)) (pw_and1 (pt_cmpR op_ne (pv 0) pe_str (nomark _))))) (pss_one (ps_ret pe_non)) pss_nil)
      (pss_cons (ps_set (i := 2) sc_number_in.nd rfl (Or.inl rfl) (pe_call (ok_number_of T) (hr.mono (by decide)) rfl T.g_number_of T.k_number_of T.bn_number_of .nil pass0 (pa_cons (pv 1) pa_nil)))
      (pss_one (ps_ret (pe_ifExp (pt_cmpR op_eq (pv 1) (pv 0) (nomark _)) (pv 2) (pe_un un_neg (pv 2))))))))), ?_⟩
    have sm : Txt.startswith d (Str.ofString "-") = ((tl d).head? == some 45) := by
      rw [show Str.ofString "-" = ⟨#[45]⟩ by decide +kernel]
      exact starts_one d 45
    refine ⟨_, rfl, ⟨_, rfl⟩, _, _, rfl, rfl, _, rfl, ?_⟩
    refine' shareS (fun g => tl g = digs d) (fun tail => ite2 (fun c => ?b1) (fun c => ?b2)) ?b3
    case b1 =>
      rw [sm] at c
      refine ⟨_, rfl, _, rfl, d, rfl, by omega, ?_⟩
      obtain ⟨g, hg⟩ : ∃ g, g = cutS d (some 1) none := ⟨_, rfl⟩
      rw [← hg]
      refine tail g ?_
      rw [hg, cut_one]
      unfold digs
      rw [if_pos (by simpa using c)]
    case b2 =>
      rw [sm] at c
      refine ⟨_, rfl, tail d ?_⟩
      unfold digs
      rw [if_neg (by simpa using c)]
    case b3 =>
      intro g hg
      have hlg : g.length ≤ 63 := by
        rw [len_tl, hg]
        have := len_tl d
        unfold digs
        split
        · rw [List.length_drop]
          omega
        · omega
      have same : decide (V.str g = V.str d) = !decide ((tl d).head? = some 45) := by
        rw [str_eq_tl, hg]
        unfold digs
        by_cases c : (tl d).head? = some 45
        · rw [if_pos c, decide_eq_true c]
          rw [decide_eq_false]
          · rfl
          · intro z
            have := congrArg List.length z
            rw [List.length_drop] at this
            cases e : tl d with
            | nil => rw [e] at c; simp at c
            | cons a l => rw [e] at this; simp at this
        · rw [if_neg c, decide_eq_false c, decide_eq_true rfl]
          rfl
      refine ⟨_, rfl, ⟨_, rfl⟩, _, rfl, rfl, trivial, _, rfl, ?_⟩
      by_cases ad : allDig (tl g) = true
      case neg =>
        have nr : numRead d = none := by
          unfold numRead
          rw [← hg, if_neg ad]
        rw [nr] at k
        cases ha : Txt.isascii g with
        | false => exact iteT (iteT k)
        | true =>
          refine iteF ⟨_, rfl, ⟨_, rfl⟩, _, rfl, rfl, trivial, _, rfl, ?_⟩
          rw [isdigit_ascii g ha, show allDig (tl g) = false by simpa using ad]
          exact iteT k
      case pos =>
        rw [ascii_of ad]
        refine iteF ⟨_, rfl, ⟨_, rfl⟩, _, rfl, rfl, trivial, _, rfl, ?_⟩
        rw [isdigit_ascii g (ascii_of ad), ad]
        have s0 : Txt.startswith g (Str.ofString "0") = ((tl g).head? == some 48) := by
          rw [show Str.ofString "0" = ⟨#[48]⟩ by decide +kernel]
          exact starts_one g 48
        have e0 : decide (V.str d = V.str (Str.ofString "0")) = decide (tl d = [48]) := by
          rw [str_eq_tl]
          rfl
        refine iteF ⟨_, rfl, ⟨_, rfl⟩, _, _, rfl, rfl, _, rfl, ?_⟩
        rw [s0]
        have fin : ¬ ((digs d).head? = some 48 ∧ tl d ≠ [48]) → Q (.int (if (tl d).head? = some 45 then -((NumText.digitsVal (tl g) : Nat) : Int) else ((NumText.digitsVal (tl g) : Nat) : Int))) H := fun no => by
          unfold numRead at k
          rw [← hg, if_pos ad, if_neg (by rw [hg]; exact no)] at k
          exact k
        by_cases c45 : (tl d).head? = some 45
        all_goals
          have same' := same
          first
            | rw [decide_eq_true c45] at same'
            | rw [decide_eq_false c45] at same'
          first
            | rw [if_pos c45] at fin
            | rw [if_neg c45] at fin
          by_cases z : (tl g).head? = some 48
          · rw [show ((tl g).head? == some 48) = true by rw [z]; rfl]
            refine iteT ⟨_, rfl, rfl, _, rfl, ?_⟩
            rw [e0]
            by_cases z2 : tl d = [48]
            · rw [decide_eq_true z2]
              refine iteF ⟨_, rfl, g, rfl, ad, hlg, _, rfl, _, rfl, rfl, _, rfl, ?_⟩
              rw [same']
              first
                | exact iteF ⟨_, rfl, _, rfl, fin fun q => q.2 z2⟩
                | exact iteT ⟨_, rfl, fin fun q => q.2 z2⟩
            · rw [decide_eq_false z2]
              have nr : numRead d = none := by
                unfold numRead
                rw [← hg, if_pos ad, if_pos ⟨z, z2⟩]
              rw [nr] at k
              exact iteT k
          · rw [show ((tl g).head? == some 48) = false by simpa using z]
            refine iteF (iteF ⟨_, rfl, g, rfl, ad, hlg, _, rfl, _, rfl, rfl, _, rfl, ?_⟩)
            rw [same']
            first
              | exact iteF ⟨_, rfl, _, rfl, fin fun q => z (hg ▸ q.1)⟩
              | exact iteT ⟨_, rfl, fin fun q => z (hg ▸ q.1)⟩
end
end TT

set_option maxHeartbeats 4000000
namespace TT
open PySem PySem.Spec PyProof.Rows L2 LamX TL
/-! ### texts of ties read -/
def six (r : Row) (bk : Bool) : List V := [.int r.f, .int r.s, .int r.l, .int r.a, .bl r.d, .bl bk]
def wordsOf (r : Row) (bk : Bool) : List Str := [Str.ofString (toString r.f), Str.ofString (toString r.s), Str.ofString (toString r.l), way r.d, shownInt r.a] ++ (if bk = true then [Str.ofString "back"] else [])
def rowText (r : Row) (bk : Bool) : Str := Txt.join (Str.ofString " ") (wordsOf r bk)
theorem nat_of {n : Int} (h : 0 ≤ n) : ∃ m : Nat, n = (m : Int) := ⟨n.toNat, by omega⟩
theorem tl_int {n : Int} (h : 0 ≤ n) : tl (Str.ofString (toString n)) = numL n.toNat := by
  obtain ⟨m, rfl⟩ := nat_of h
  rw [tl_num] <;> rfl
theorem read_int {n : Int} (h : 0 ≤ n) : numRead (Str.ofString (toString n)) = some n := by
  obtain ⟨m, rfl⟩ := nat_of h
  exact numRead_nat m
theorem read_shown (n : Int) : numRead (shownInt n) = some n := by
  unfold shownInt
  split
  · obtain ⟨m, hm⟩ := nat_of (n := -n) (by omega)
    rw [hm, numRead_neg (by omega)]
    congr 1
    omega
  · exact read_int (by omega)
theorem shown_free {n : Int} {c : Nat} (h : c < 45 ∨ 57 < c) : c ∉ tl (shownInt n) := by
  unfold shownInt
  split
  · rw [tl_append, tl_int (by omega)]
    intro z
    rcases List.mem_append.mp z with z | z
    · have : tl (Str.ofString "-") = [45] := by decide +kernel
      rw [this] at z
      simp at z
      omega
    · exact numL_free (by omega) z
  · rw [tl_int (by omega)]
    exact numL_free (by omega)
theorem shown_len60 {n : Int} (h0 : -(10 ^ 60) < n) (h1 : n < 10 ^ 60) : (shownInt n).length ≤ 61 := by
  unfold shownInt
  split
  · have := toString_length_le (v := -n) (by omega) (k := 60) (by decide) (by omega)
    have e : (Str.ofString "-").length = 1 := by decide
    rw [Str.length_append]
    omega
  · have := toString_length_le (v := n) (by omega) (k := 60) (by decide) h1
    omega
theorem tieText_eq (r : Row) : tieText r = rowText r r.b := by
  refine ext_tl ?_
  unfold tieText rowText wordsOf backs
  rw [show Txt.join (Str.ofString " ") ([Str.ofString (toString r.f), Str.ofString (toString r.s), Str.ofString (toString r.l), way r.d, shownInt r.a] ++ (if r.b = true then [Str.ofString "back"] else [])) = _ from join_eq _ _, tl_join]
  have e0 : tl Str.empty = [] := rfl
  have e1 : tl (Str.ofString " back") = tl (Str.ofString " ") ++ tl (Str.ofString "back") := by decide +kernel
  cases r.b <;> simp [tl_append, joinL, e0, e1, show tl (Str.ofString "") = [] from rfl]
theorem word_free {r : Row} (ok : r.Ok) {bk : Bool} {c : Nat} (hc : c = 32 ∨ c = 10) : ∀ p ∈ wordsOf r bk, c ∉ tl p := by
  intro p hp
  have hf := ok.f0; have hs := ok.s0; have hl := ok.l0
  have fr : ∀ {n : Int}, 0 ≤ n → c ∉ tl (Str.ofString (toString n)) := fun h => by
    rw [tl_int h]
    exact numL_free (by omega)
  unfold wordsOf at hp
  rcases List.mem_append.mp hp with hp | hp
  · simp only [List.mem_cons, List.not_mem_nil, or_false] at hp
    rcases hp with rfl | rfl | rfl | rfl | rfl
    · exact fr hf
    · exact fr hs
    · exact fr (by omega)
    · unfold way
      split <;> rcases hc with rfl | rfl <;> decide +kernel
    · exact shown_free (by omega)
  · split at hp
    · rw [List.mem_singleton.mp hp]
      rcases hc with rfl | rfl <;> decide +kernel
    · cases hp
theorem sp_tl : tl (Str.ofString " ") = [32] := by decide +kernel
theorem split_row {r : Row} (ok : r.Ok) (bk : Bool) : Txt.split (rowText r bk) (Str.ofString " ") = wordsOf r bk :=
  split_join (s := 32) (S := []) sp_tl (by decide +kernel) (by unfold wordsOf; simp) (word_free ok (.inl rfl))
def sp_values_in : Sp := fun vs H Q _ => ∃ (r : Row) (bk : Bool), vs = [.str (rowText r bk)] ∧ r.Ok ∧ ∀ x H', H x = none → Same H H' → H' x = some (.tup (six r bk)) → Q (.ref x) H'
theorem row_len {r : Row} (ok : r.Ok) (bk : Bool) : (rowText r bk).length ≤ 200 := by
  have j := StrLaws.join_length_le (Str.ofString " ") (wordsOf r bk)
  have e : rowText r bk = (Str.ofString " ").join (wordsOf r bk) := join_eq _ _
  have hf := ok.f0; have hs := ok.s0; have hl := ok.l0; have hfe := ok.fe; have hse := ok.se
  have l30 : (10 : Int) ^ 30 < 10 ^ 31 := by decide +kernel
  have zf : (Str.ofString (toString r.f)).length ≤ 31 := toString_length_le hf (by decide) (by omega)
  have zs : (Str.ofString (toString r.s)).length ≤ 31 := toString_length_le hs (by decide) (by omega)
  have zl : (Str.ofString (toString r.l)).length ≤ 31 := toString_length_le (by omega) (by decide) (by omega)
  have za := shown_len60 ok.al ok.ah
  have zw : (way r.d).length ≤ 4 := by
    unfold way
    split <;> decide
  have z1 : (Str.ofString " ").length = 1 := by decide
  have zb : (Str.ofString "back").length = 4 := by decide
  rw [e]
  refine Nat.le_trans j ?_
  rw [z1]
  unfold wordsOf
  cases bk <;> simp only [Bool.false_eq_true, if_true, if_false, List.cons_append, List.nil_append, List.append_nil, List.map_cons, List.map_nil, List.sum_cons, List.sum_nil, List.length_cons, List.length_nil] <;> omega
/-- Tie.of, of a text that tells a tie -/
def sp_T_of (C : Addr) : Sp := fun vs H Q _ => ∃ (r : Row) (bk : Bool), vs = [.str (rowText r bk)] ∧ r.Ok ∧ r.b = (bk && decide (1 < r.l)) ∧ ∀ x H', H x = none → Same H H' → TieAt C H' x r → Q (.ref x) H'
section
variable {P : Program} {w : World} {K : PySem.W.Frag} {mg : Str → Option Value} {base : Heap} {Z : Zs}
theorem ok_values_in (T : Txt K mg Z) : FnOk P w K mg base CX0 3 Z.f_values_in Z.d_values_in ["text"] sp_values_in := by
  refine T.F_values_in.ok sc_values_in (fun vs H Q E h => ?_) (fun cdv A outer s H vs Q E hr h => ?_)
  · obtain ⟨r, bk, rfl, _⟩ := h
    rfl
  · obtain ⟨r, bk, rfl, ok, k⟩ := h
    have sl : sizeLine = 16777216 := sizeLine_eq
    have rl := row_len ok bk
    refine ⟨_, (pss_cons (ps_if (pt_not (pt_val (pe_callB  call_isi (by rfl) T.b_isinstance (by decide +kernel) (pa_cons (pv 0) (pa_cons (pe_bltn (v := .ty "str") rfl T.b_str (by decide +kernel) rfl) pa_nil))))) (pss_one (ps_ret pe_non)) pss_nil)
      (pss_cons (ps_set (i := 1) sc_values_in.nd rfl (Or.inl rfl) (pe_split (pv 0) pe_str))
      (pss_cons (ps_set (i := 2) sc_values_in.nd rfl (Or.inl rfl) (pe_and (pe_cmpR op_eq (pe_callB  call_len (by rfl) T.b_len (by decide +kernel) (pa_cons (pv 1) pa_nil)) pe_int (nomark _)) (pe_one (pe_cmpR op_eq (pe_ix ix_list (pv 1) pe_int (fun _ _ => rfl)) pe_str (nomark _)))))
      (pss_cons (ps_if (PW.pt (pw_or (PW.pt (pw_and (pt_cmpR op_ne (pe_callB  call_len (by rfl) T.b_len (by decide +kernel) (pa_cons (pv 1) pa_nil)) pe_int (nomark _)) (pw_and1 (pt_not (pt_val (pv 2)))))) (pw_or1 (pt_cmpR op_notIn_seq (pe_ix ix_list (pv 1) pe_int (fun _ _ => rfl)) (pe_tup (pa_cons pe_str (pa_cons pe_str pa_nil))) (by with_unfolding_all rfl))))) (pss_one (ps_ret pe_non)) pss_nil)
      (pss_cons (ps_setLc (i := 3) (own := [("word", 4)]) rfl sc_values_in.nd rfl rfl (sw_true rfl rfl rfl (by decide +kernel)) (pi_tup (pe_tup (pa_cons (pe_ix ix_list (pv 1) pe_int (fun _ _ => rfl)) (pa_cons (pe_ix ix_list (pv 1) pe_int (fun _ _ => rfl)) (pa_cons (pe_ix ix_list (pv 1) pe_int (fun _ _ => rfl)) (pa_cons (pe_ix ix_list (pv 1) pe_int (fun _ _ => rfl)) pa_nil)))))) (blkOk_by (own := [("word", 4)]) (N := ["text", "words", "backward", "numbers", "word"]) (sc := defScope s_values_in) (by decide +kernel)) (fun _ _ _ _ _ => (pg_name (i := 4) sc_values_in.nd rfl (Or.inl rfl))) (fun _ _ _ _ _ => pts_nil) (fun _ _ _ _ _ => (pe_call (ok_number_in T) (hr.mono (by decide)) rfl T.g_number_in T.k_number_in T.bn_number_in .nil pass0 (pa_cons (pv 4) pa_nil))))
      (pss_cons (ps_if (pt_cmpR op_in_seq pe_non (pv 3) (by with_unfolding_all rfl)) (pss_one (ps_ret pe_non)) pss_nil)
      (pss_one (ps_ret (pe_tup (StX.pa_star (pv 3) (pa_cons (pe_cmpR op_eq (pe_ix ix_list (pv 1) pe_int (fun _ _ => rfl)) pe_str (nomark _)) (pa_cons (pv 2) pa_nil)))))))))))), ?_⟩
    refine ⟨_, rfl, _, _, _, _, true, rfl, .ty "str", .base (.str _), kit_ty (by decide +kernel), true, rfl, iteF ?_⟩
    have l1 : (Str.ofString " ").length = 1 := by decide
    refine ⟨_, rfl, ⟨_, rfl⟩, _, _, rfl, rfl, by decide, by omega, fun wl hwl => ?_⟩
    rw [split_row ok bk]
    have hf := ok.f0; have hs := ok.s0; have hl := ok.l0; have hfe := ok.fe; have hse := ok.se
    have l30 : (10 : Int) ^ 30 < 10 ^ 31 := by decide +kernel
    have zf : (Str.ofString (toString r.f)).length ≤ 31 := toString_length_le hf (by decide) (by omega)
    have zs : (Str.ofString (toString r.s)).length ≤ 31 := toString_length_le hs (by decide) (by omega)
    have zl : (Str.ofString (toString r.l)).length ≤ 31 := toString_length_le (by omega) (by decide) (by omega)
    have za := shown_len60 ok.al ok.ah
    have dn : decide (V.str (way r.d) = V.str (Str.ofString "down")) = r.d := by
      unfold way
      cases r.d
      · decide +kernel
      · decide +kernel
    have nw : (!inV (V.str (way r.d)) [V.str (Str.ofString "up"), V.str (Str.ofString "down")]) = false := by
      unfold way
      cases r.d
      · decide +kernel
      · decide +kernel
    have sW := Same.new (o := .lst ((wordsOf r bk).map V.str)) (Same.refl H) hwl
    have atW : upd H wl (.lst ((wordsOf r bk).map V.str)) wl = some (.lst ((wordsOf r bk).map V.str)) := upd_same
    generalize upd H wl (.lst ((wordsOf r bk).map V.str)) = H1 at sW atW ⊢
    have b5 : ∀ n : Nat, n = 5 → V.bl (decide (V.int (n : Int) = V.int 6)) = V.bl false := fun n e => by subst e; decide
    have b6 : ∀ n : Nat, n = 6 → V.bl (decide (V.int (n : Int) = V.int 6)) = V.bl true := fun n e => by subst e; decide
    have c5 : ∀ n : Nat, n = 5 → (V.bl !decide (V.int (n : Int) = V.int 5)) = V.bl false := fun n e => by subst e; decide
    have c6 : ∀ n : Nat, n = 6 → (V.bl !decide (V.int (n : Int) = V.int 5)) = V.bl true := fun n e => by subst e; decide
    cases bk
    case' false =>
      refine ⟨_, rfl, _, _, rfl, .inl ⟨_, SqL.of atW, rfl⟩, rfl, false, b5 _ rfl, iteF ?_⟩
      refine ⟨_, rfl, _, _, rfl, .inl ⟨_, SqL.of atW, rfl⟩, rfl, false, c5 _ rfl, iteF ?_⟩
    case' true =>
      refine ⟨_, rfl, _, _, rfl, .inl ⟨_, SqL.of atW, rfl⟩, rfl, true, b6 _ rfl, iteT ⟨_, rfl, wl, _, _, _, rfl, rfl, SqL.of atW, rfl, rfl, ?_⟩⟩
      rw [show decide (V.str (Str.ofString "back") = V.str (Str.ofString "back")) = true by decide +kernel]
      refine ⟨_, rfl, _, _, rfl, .inl ⟨_, SqL.of atW, rfl⟩, rfl, true, c6 _ rfl, iteT ⟨_, rfl, true, rfl, ?_⟩⟩
      show if false = true then _ else _
      refine iteF ?_
    all_goals
      refine ⟨_, rfl, wl, _, _, _, rfl, rfl, SqL.of atW, rfl, by show 2 ≤ sizeLine; decide, fun t0 ht0 => ⟨t0, _, rfl, .inr (SqT.of upd_same), rfl, rfl, false, by rw [← nw] <;> rfl, iteF ?_⟩⟩
      have s2 := Same.new (o := .tup [.str (Str.ofString "up"), .str (Str.ofString "down")]) (Same.refl H1) ht0
      have at2 := s2 _ _ atW
      generalize upd H1 t0 (.tup [.str (Str.ofString "up"), .str (Str.ofString "down")]) = H2 at s2 at2 ⊢
      refine ⟨_, rfl, wl, _, _, _, rfl, rfl, SqL.of at2, rfl, _, rfl, wl, _, _, _, rfl, rfl, SqL.of at2, rfl, _, rfl, wl, _, _, _, rfl, rfl, SqL.of at2, rfl, _, rfl, wl, _, _, _, rfl, rfl, SqL.of at2, rfl, by show 4 ≤ sizeLine; decide, fun t1 ht1 => ⟨t1, rfl, ⟨_, SqT.of upd_same⟩, fun D hD => ?_⟩⟩
      have s3 := Same.new (o := .tup [.str (Str.ofString (toString r.f)), .str (Str.ofString (toString r.s)), .str (Str.ofString (toString r.l)), .str (shownInt r.a)]) (Same.refl H2) ht1
      have at3 : upd H2 t1 (.tup [.str (Str.ofString (toString r.f)), .str (Str.ofString (toString r.s)), .str (Str.ofString (toString r.l)), .str (shownInt r.a)]) t1 = some (.tup [.str (Str.ofString (toString r.f)), .str (Str.ofString (toString r.s)), .str (Str.ofString (toString r.l)), .str (shownInt r.a)]) := upd_same
      have hD' : upd H2 t1 (.tup [.str (Str.ofString (toString r.f)), .str (Str.ofString (toString r.s)), .str (Str.ofString (toString r.l)), .str (shownInt r.a)]) D = none := hD
      clear hD
      generalize upd H2 t1 (.tup [.str (Str.ofString (toString r.f)), .str (Str.ofString (toString r.s)), .str (Str.ofString (toString r.l)), .str (shownInt r.a)]) = H3 at s3 at3 hD' ⊢
      have sD := Same.new (o := .lst []) (Same.refl H3) hD'
      refine lc_tup (xs := [.str (Str.ofString (toString r.f)), .str (Str.ofString (toString r.s)), .str (Str.ofString (toString r.l)), .str (shownInt r.a)]) (fun i H' => H' D = some (.lst ([V.int r.f, V.int r.s, V.int r.l, V.int r.a].take i)) ∧ Same H3 H') ⟨upd_same, sD⟩ (fun i H' _ h => SqT.of (h.2 _ _ at3)) ?_ ?_
      · rintro i x H' hi ⟨hDi, sm⟩
        refine ⟨rfl, ?_⟩
        unfold tYes
        refine iteT ?_
        have step : ∀ (n : Int) (xs : List V), H' D = some (.lst xs) → xs.length < sizeLine → True := fun _ _ _ _ => trivial
        have i4 : i < 4 := (List.getElem?_eq_some_iff.mp hi).1
        have put : ∀ (o : HO) (b : Addr) (u : HO), H3 b = some u → upd H' D o b = some u := fun o b u eb => by
          rw [upd_ne (ne_of_none eb hD')]
          exact sm b u eb
        rcases i with _ | _ | _ | _ | i
        · obtain rfl := Option.some.inj hi
          refine ⟨_, rfl, _, rfl, by omega, ?_⟩
          rw [read_int hf]
          exact ⟨_, hDi, by show 0 < sizeLine; decide, upd_same, put _⟩
        · obtain rfl := Option.some.inj hi
          refine ⟨_, rfl, _, rfl, by omega, ?_⟩
          rw [read_int hs]
          exact ⟨_, hDi, by show 1 < sizeLine; decide, upd_same, put _⟩
        · obtain rfl := Option.some.inj hi
          refine ⟨_, rfl, _, rfl, by omega, ?_⟩
          rw [read_int (by omega)]
          exact ⟨_, hDi, by show 2 < sizeLine; decide, upd_same, put _⟩
        · obtain rfl := Option.some.inj hi
          refine ⟨_, rfl, _, rfl, by omega, ?_⟩
          rw [read_shown]
          exact ⟨_, hDi, by show 3 < sizeLine; decide, upd_same, put _⟩
        · omega
      · rintro H4 ⟨hD4, s4⟩
        have at4 := s4 _ _ (s3 _ _ at2)
        refine ⟨_, rfl, D, _, rfl, .inl (SqL.of hD4), rfl, rfl, false, rfl, iteF ?_⟩
        refine ⟨_, rfl, D, _, rfl, .inr (SqL.of hD4), _, rfl, wl, _, _, _, rfl, rfl, SqL.of at4, rfl, rfl, ?_⟩
        rw [dn]
        refine ⟨_, rfl, by show 6 ≤ sizeLine; decide, fun x hx => ?_⟩
        have sN := ((sW.trans s2).trans s3).trans s4
        exact k x _ (L2.Same.free sN hx) (Same.new sN hx) upd_same
theorem ok_T_of (T : Txt K mg Z) : FnOk P w K mg base CX0 6 Z.f_T_of Z.d_T_of ["text"] (sp_T_of Z.cC) := by
  refine T.F_T_of.ok sc_T_of (fun vs H Q E h => ?_) (fun cdv A outer s H vs Q E hr h => ?_)
  · obtain ⟨r, bk, rfl, _⟩ := h
    rfl
  · obtain ⟨r, bk, rfl, ok, hb, k⟩ := h
    obtain ⟨its, mv, kb⟩ := kb_tie T
    refine ⟨_, (pss_cons (ps_set (i := 1) sc_T_of.nd rfl (Or.inl rfl) (pe_call (ok_values_in T) (hr.mono (by decide)) rfl T.g_values_in T.k_values_in T.bn_values_in .nil pass0 (pa_cons (pv 0) pa_nil)))
      (pss_cons (ps_if (pt_cmpR op_isN (pv 1) pe_non (nomark _)) (pss_one ps_never) pss_nil)
      (pss_cons (ps_asg (pv 1) (pg_tup rfl (pgs_cons (pg_name (i := 2) sc_T_of.nd rfl (Or.inl rfl)) (pgs_cons (pg_name (i := 3) sc_T_of.nd rfl (Or.inl rfl)) (pgs_cons (pg_name (i := 4) sc_T_of.nd rfl (Or.inl rfl)) (pgs_cons (pg_name (i := 5) sc_T_of.nd rfl (Or.inl rfl)) (pgs_cons (pg_name (i := 6) sc_T_of.nd rfl (Or.inl rfl)) (pgs_cons (pg_name (i := 7) sc_T_of.nd rfl (Or.inl rfl)) pgs_nil))))))))
      (pss_cons (ps_try_thru0 (pss_one (ps_set (i := 8) sc_T_of.nd rfl (Or.inl rfl) (pe_makeK (mkT T) (ok_T_init T) (hr.mono (by decide)) rfl T.g_C kb pass0 (pa_cons (pv 2) (pa_cons (pv 3) (pa_cons (pv 4) (pa_cons (pv 5) pa_nil)))) (pk_cons (pv 6) (pk_cons (pv 7) pk_nil))))))
      (pss_one (ps_ret (pv 8))))))), ?_⟩
    refine ⟨_, rfl, r, bk, rfl, ok, fun x H1 nx s1 hx => ?_⟩
    refine ⟨_, rfl, rfl, _, rfl, iteF ?_⟩
    refine ⟨_, rfl, x, _, rfl, SqT.of hx, rfl, _, _, rfl, _, _, rfl, _, _, rfl, _, _, rfl, _, _, rfl, _, _, rfl, rfl, ?_⟩
    refine ⟨_, rfl, _, rfl, _, rfl, _, rfl, _, rfl, _, rfl, rfl, rfl, fun y dx ny nd ne => ?_⟩
    refine ⟨y, dx, r, bk, rfl, ok, hb, upd_same, fun H' hy kp => ⟨rfl, _, rfl, ?_⟩⟩
    have s2 : Same H1 H' := made ny nd kp
    exact k y H' (L2.Same.free s1 ny) (s1.trans s2) ⟨dx, hy⟩
end
end TT

set_option maxHeartbeats 4000000
namespace TT
open PySem PySem.Spec PyProof.Rows L2 LamX
/-! ### what a callable gives, or None where it cannot be joined -/
theorem ExcT.exmSelf {K : PySem.W.Frag} {cE fI C : Addr} (b : ExcT K cE fI C) : PySem.W.exmOne K (.ref C) (.ref C) = some true := by
  refine PySem.W.exm_ref b.ox.exC b.xf.hdC b.ox.tyC ?_
  rw [b.sub]
  congr 1
  simp
theorem takes_never {X : Cx} : Takes X (fun _ _ _ _ => False) := fun u s' ⟨_, _, _, _, _, _, _, _, _, _, _, _, _, _, _, _, w⟩ => w.elim
/-- what look's reading is asked -/
def sp_orn (K : PySem.W.Frag) (Z : Zs) : (XK → Hp → VK → Prop) → List V → Hp → VK → Prop := fun tl vs H Q =>
  vs = [] ∧ ∃ G : VK, (∀ v H', G v H' → Q v H') ∧ tl (fun cls d H' => PySem.W.exmOne K cls (.ref (Z.c 1)) = some true ∧ G .non H') H G
theorem Out.orn {C : Addr} {v : V} {H : Hp} {K : PySem.W.Frag} {cE fI : Addr} {G : VK} (T : ExcT K cE fI C) (h : ∀ H', Same H H' → G .non H') : Out (fun cls d H' => PySem.W.exmOne K cls (.ref C) = some true ∧ G .non H') C v H :=
  fun d H' s _ _ => ⟨T.exmSelf, h H' s⟩
section
variable {P : Program} {w : World} {K : PySem.W.Frag} {mg : Str → Option Value} {base : Heap} {Z : Zs} {k : Nat}
theorem ok_l_or_none (T : Txt K mg Z) : LOk P w K mg base (k + 2) k Z.f_l_or_none Z.d_l_or_none ["_law_look"] (sp_orn K Z) := by
  refine okL T.F_l_or_none sc_l_or_none (fun tl vs H Q h => ?_) (fun cdv A outer s H vs Q f tl g hr R h => ?_)
  · obtain ⟨rfl, _⟩ := h
    rfl
  · obtain ⟨rfl, G, hG, t⟩ := h
    refine ⟨_, pss_cons (ps_set (i := 1) sc_l_or_none.nd rfl (Or.inl rfl) pe_non)
      (pss_cons (ps_try_only (c := .ref (Z.c 1)) rfl rfl ⟨by rfl, by decide, .inl T.g_NoJoint⟩ takes_never (fun W pn xe tk _ => pss_one (ps_set (i := 1) sc_l_or_none.nd rfl (Or.inl rfl) (pe_lookS (i := 0) tk R rfl hr rfl (.inl rfl))))
        (fun a oe cls d pn _ _ => pss_one (ps_set (i := 1) sc_l_or_none.nd rfl (Or.inl rfl) pe_non)))
      (pss_one (ps_ret (pv 1)))), ?_⟩
    refine ⟨_, G, fun cls d H' e => ⟨true, e.1, fun _ a ha => ⟨_, rfl, hG _ _ e.2⟩, fun z => nomatch z⟩, fun v H' q => ⟨_, rfl, hG _ _ q⟩, rfl, t⟩
end
end TT

set_option maxHeartbeats 4000000
namespace TT
open PySem PySem.Spec PyProof.Rows L2
/-! ### the algebra of rows -/
theorem Row.part_all {r : Row} (ok : r.Ok) : r.part 0 r.l = r := by
  refine Row.same ?_ ?_ rfl rfl rfl ?_
  · show r.f + 0 = r.f
    omega
  · show r.s + (if r.b = true then r.l - 0 - r.l else 0) = r.s
    split <;> omega
  · show (r.b && decide (1 < r.l)) = r.b
    cases h : r.b with
    | false => rfl
    | true => rw [decide_eq_true (ok.bk h)] <;> rfl
theorem st_is (r q : Row) : (r.st q = r.s ∨ r.st q = q.f) ∧ r.s ≤ r.st q ∧ q.f ≤ r.st q := by
  unfold Row.st
  split <;> omega
theorem en_is (r q : Row) : (r.en q = r.s + r.l ∨ r.en q = q.f + q.l) ∧ r.en q ≤ r.s + r.l ∧ r.en q ≤ q.f + q.l := by
  unfold Row.en
  split <;> omega
theorem Row.back_joins {r q : Row} : q.back.st r.back = r.st q ∧ q.back.en r.back = r.en q := by
  have e1 : q.back.s = q.f := rfl
  have e2 : r.back.f = r.s := rfl
  have e3 : q.back.l = q.l := rfl
  have e4 : r.back.l = r.l := rfl
  unfold Row.st Row.en
  rw [e1, e2, e3, e4]
  constructor <;> split <;> split <;> omega
theorem Row.back_join {r q : Row} : (r.join q).back = q.back.join r.back := by
  obtain ⟨h1, h2⟩ := Row.back_joins (r := r) (q := q)
  have e1 : q.back.s = q.f := rfl
  have e2 : r.back.f = r.s := rfl
  have e3 : q.back.l = q.l := rfl
  have e5 : q.back.b = q.b := rfl
  have e6 : r.back.b = r.b := rfl
  have e7 : r.back.l = r.l := rfl
  refine Row.same ?_ ?_ ?_ ?_ ?_ ?_
  · show q.s + (if q.b = true then q.l - (r.st q - q.f) - (r.en q - r.st q) else r.st q - q.f) = q.s + q.back.ahead r.back
    unfold Row.ahead
    rw [h1, h2, e1, e3, e5]
    split <;> omega
  · show r.f + r.ahead q = r.f + (if r.back.b = true then r.back.l - (q.back.st r.back - r.back.f) - (q.back.en r.back - q.back.st r.back) else q.back.st r.back - r.back.f)
    unfold Row.ahead
    rw [h1, h2, e2, e6, e7]
    split <;> omega
  · show r.en q - r.st q = q.back.en r.back - q.back.st r.back
    rw [h1, h2]
  · show (if (r.d != q.d) = true then (if q.d = true then q.a - r.a else q.a + r.a) else -(if q.d = true then q.a - r.a else q.a + r.a)) = (if r.d = true then (if r.d = true then r.a else -r.a) - (if q.d = true then q.a else -q.a) else (if r.d = true then r.a else -r.a) + (if q.d = true then q.a else -q.a))
    cases r.d <;> cases q.d <;> simp <;> omega
  · show (r.d != q.d) = (q.d != r.d)
    cases r.d <;> cases q.d <;> rfl
  · have a := Row.join_b (r := q.back) (q := r.back)
    have b := Row.join_b (r := r) (q := q)
    show (r.join q).b = _
    rw [a, b, h1, h2, e5, e6]
    cases r.b <;> cases q.b <;> rfl
/-! ### joining three -/
theorem join_f (r q : Row) : (r.join q).f = r.f + (if r.b = true then r.s + r.l - r.en q else r.st q - r.s) := rfl
theorem join_s (r q : Row) : (r.join q).s = q.s + (if q.b = true then q.l - (r.st q - q.f) - (r.en q - r.st q) else r.st q - q.f) := rfl
theorem join_l (r q : Row) : (r.join q).l = r.en q - r.st q := rfl
theorem join_a (r q : Row) : (r.join q).a = if q.d = true then q.a - r.a else q.a + r.a := rfl
theorem join_d (r q : Row) : (r.join q).d = (r.d != q.d) := rfl
/-- where a straight or backward part begins, whatever it is called if it is one place -/
theorem ahead_of (r q : Row) (b : Bool) (h : r.b = b ∨ r.l = 1) (p : r.st q < r.en q) : r.ahead q = if b = true then r.s + r.l - r.en q else r.st q - r.s := by
  have s := st_is r q
  have e := en_is r q
  unfold Row.ahead
  rcases h with h | h
  · rw [h]
  · cases b <;> split <;> simp <;> omega
theorem tail_of (r q : Row) (b : Bool) (h : q.b = b ∨ q.l = 1) (p : r.st q < r.en q) : (r.join q).s = q.s + (if b = true then q.l - (r.st q - q.f) - (r.en q - r.st q) else r.st q - q.f) := by
  have s := st_is r q
  have e := en_is r q
  rw [join_s]
  rcases h with h | h
  · rw [h]
  · cases b <;> split <;> simp <;> omega
theorem join_bx (r q : Row) : (r.join q).b = (r.b != q.b) ∨ (r.join q).l ≤ 1 := by
  rw [Row.join_b, join_l]
  by_cases c : 1 < r.en q - r.st q
  · exact .inl (by rw [decide_eq_true c, Bool.and_true])
  · exact .inr (by omega)
theorem one_place {r : Row} (h : r.b = false ∨ 1 < r.l) (b : Bool) (g : r.b = b ∨ r.l ≤ 1) (p : 1 ≤ r.l) : r.b = b ∨ r.l = 1 := by
  rcases g with g | g
  · exact .inl g
  · exact .inr (by omega)
section
variable {r q t : Row}
theorem assoc_ends (h1 : 1 ≤ r.l) (h2 : 1 ≤ q.l) (h3 : 1 ≤ t.l) : ((r.st q < r.en q ∧ (r.join q).st t < (r.join q).en t) ↔ (q.st t < q.en t ∧ r.st (q.join t) < r.en (q.join t))) ∧
    (r.st q < r.en q → (r.join q).st t < (r.join q).en t → (r.join q).en t - (r.join q).st t = r.en (q.join t) - r.st (q.join t)) := by
  have s1 := st_is r q; have e1 := en_is r q
  have s2 := st_is (r.join q) t; have e2 := en_is (r.join q) t
  have s3 := st_is q t; have e3 := en_is q t
  have s4 := st_is r (q.join t); have e4 := en_is r (q.join t)
  rw [join_s] at s2
  rw [join_s, join_l] at e2
  rw [join_f] at s4
  rw [join_f, join_l] at e4
  generalize r.st q = a1 at *
  generalize r.en q = b1 at *
  generalize (r.join q).st t = a2 at *
  generalize (r.join q).en t = b2 at *
  generalize q.st t = a3 at *
  generalize q.en t = b3 at *
  generalize r.st (q.join t) = a4 at *
  generalize r.en (q.join t) = b4 at *
  cases hb : q.b
  · simp only [hb, Bool.false_eq_true, if_false] at s2 e2 s4 e4
    refine ⟨⟨fun h => ⟨?_, ?_⟩, fun h => ⟨?_, ?_⟩⟩, fun p g => ?_⟩ <;> omega
  · simp only [hb, if_true] at s2 e2 s4 e4
    refine ⟨⟨fun h => ⟨?_, ?_⟩, fun h => ⟨?_, ?_⟩⟩, fun p g => ?_⟩ <;> omega
theorem assoc_f (h1 : 1 ≤ r.l) (h2 : 1 ≤ q.l) (h3 : 1 ≤ t.l) (p : r.st q < r.en q) (g : (r.join q).st t < (r.join q).en t) : (r.join q).f + (r.join q).ahead t = r.f + r.ahead (q.join t) := by
  obtain ⟨i1, i2⟩ := assoc_ends h1 h2 h3
  have l12 : 1 ≤ (r.join q).l := by rw [join_l]; omega
  have bb : (r.join q).b = (r.b != q.b) ∨ (r.join q).l = 1 := (join_bx r q).imp id fun z => by omega
  rw [ahead_of (r.join q) t _ bb g]
  have s1 := st_is r q; have e1 := en_is r q
  have s2 := st_is (r.join q) t; have e2 := en_is (r.join q) t
  have s3 := st_is q t; have e3 := en_is q t
  have s4 := st_is r (q.join t); have e4 := en_is r (q.join t)
  have k3 := (i1.mp ⟨p, g⟩).1
  have k4 := (i1.mp ⟨p, g⟩).2
  clear i1 i2 bb
  unfold Row.ahead
  rw [join_f, join_s, join_l]
  rw [join_s] at s2
  rw [join_s, join_l] at e2
  rw [join_f] at s4
  rw [join_f, join_l] at e4
  clear l12
  generalize r.st q = a1 at *
  generalize r.en q = b1 at *
  generalize (r.join q).st t = a2 at *
  generalize (r.join q).en t = b2 at *
  generalize q.st t = a3 at *
  generalize q.en t = b3 at *
  generalize r.st (q.join t) = a4 at *
  generalize r.en (q.join t) = b4 at *
  cases hr : r.b <;> cases hb : q.b
  all_goals
    simp only [hr, hb, Bool.false_eq_true, if_false, if_true, bne_self_eq_false, Bool.true_bne, Bool.false_bne, Bool.not_false, Bool.not_true] at s2 e2 s4 e4 ⊢
    omega
theorem assoc_s (h1 : 1 ≤ r.l) (h2 : 1 ≤ q.l) (h3 : 1 ≤ t.l) (p : r.st q < r.en q) (g : (r.join q).st t < (r.join q).en t) : ((r.join q).join t).s = (r.join (q.join t)).s := by
  obtain ⟨i1, i2⟩ := assoc_ends h1 h2 h3
  have k3 := (i1.mp ⟨p, g⟩).1
  have k4 := (i1.mp ⟨p, g⟩).2
  have l23 : 1 ≤ (q.join t).l := by rw [join_l]; omega
  have bb : (q.join t).b = (q.b != t.b) ∨ (q.join t).l = 1 := (join_bx q t).imp id fun z => by omega
  rw [tail_of r (q.join t) _ bb k4]
  rw [join_s (r.join q) t]
  have s1 := st_is r q; have e1 := en_is r q
  have s2 := st_is (r.join q) t; have e2 := en_is (r.join q) t
  have s3 := st_is q t; have e3 := en_is q t
  have s4 := st_is r (q.join t); have e4 := en_is r (q.join t)
  clear i1 i2 bb
  rw [join_f, join_s, join_l]
  rw [join_s] at s2
  rw [join_s, join_l] at e2
  rw [join_f] at s4
  rw [join_f, join_l] at e4
  clear l23
  generalize r.st q = a1 at *
  generalize r.en q = b1 at *
  generalize (r.join q).st t = a2 at *
  generalize (r.join q).en t = b2 at *
  generalize q.st t = a3 at *
  generalize q.en t = b3 at *
  generalize r.st (q.join t) = a4 at *
  generalize r.en (q.join t) = b4 at *
  cases hr : t.b <;> cases hb : q.b
  all_goals
    simp only [hr, hb, Bool.false_eq_true, if_false, if_true, bne_self_eq_false, Bool.true_bne, Bool.false_bne, Bool.not_false, Bool.not_true] at s2 e2 s4 e4 ⊢
    omega
theorem Row.assoc (h1 : 1 ≤ r.l) (h2 : 1 ≤ q.l) (h3 : 1 ≤ t.l) (p : r.st q < r.en q) (g : (r.join q).st t < (r.join q).en t) : (r.join q).join t = r.join (q.join t) := by
  obtain ⟨i1, i2⟩ := assoc_ends h1 h2 h3
  have el := i2 p g
  refine Row.same (assoc_f h1 h2 h3 p g) (assoc_s h1 h2 h3 p g) el ?_ ?_ ?_
  · rw [join_a, join_a, join_a, join_a, join_d]
    cases q.d <;> cases t.d <;> simp <;> omega
  · rw [join_d, join_d, join_d, join_d]
    cases r.d <;> cases q.d <;> cases t.d <;> rfl
  · rw [Row.join_b (r := r.join q) (q := t), Row.join_b (r := r) (q := q.join t), el]
    by_cases c : 1 < r.en (q.join t) - r.st (q.join t)
    · have s2 := st_is (r.join q) t; have e2 := en_is (r.join q) t
      have s4 := st_is r (q.join t); have e4 := en_is r (q.join t)
      have b1 : (r.join q).b = (r.b != q.b) := (join_bx r q).resolve_right (by omega)
      have b2 : (q.join t).b = (q.b != t.b) := (join_bx q t).resolve_right (by omega)
      rw [b1, b2, decide_eq_true c]
      cases r.b <;> cases q.b <;> cases t.b <;> rfl
    · rw [decide_eq_false c, Bool.and_false, Bool.and_false]
end
/-! ### one place of both -/
theorem part_join {r q : Row} (h1 : 1 ≤ r.l) (h2 : 1 ≤ q.l) (p : r.st q < r.en q) {j : Int} (j0 : 0 ≤ j) (j1 : j < r.en q - r.st q) :
    0 ≤ r.ahead q + j ∧ r.ahead q + j + 1 ≤ r.l ∧ (r.part (r.ahead q + j) 1).st q < (r.part (r.ahead q + j) 1).en q ∧ (r.part (r.ahead q + j) 1).join q = (r.join q).part j 1 := by
  have s1 := st_is r q; have e1 := en_is r q
  have s2 := st_is (r.part (r.ahead q + j) 1) q; have e2 := en_is (r.part (r.ahead q + j) 1) q
  have pl : (r.part (r.ahead q + j) 1).l = 1 := rfl
  have pf : (r.part (r.ahead q + j) 1).f = r.f + (r.ahead q + j) := rfl
  have ps : (r.part (r.ahead q + j) 1).s = r.s + (if r.b = true then r.l - (r.ahead q + j) - 1 else r.ahead q + j) := rfl
  have pa : (r.part (r.ahead q + j) 1).a = r.a := rfl
  have pd : (r.part (r.ahead q + j) 1).d = r.d := rfl
  have ah : r.ahead q = if r.b = true then r.s + r.l - r.en q else r.st q - r.s := rfl
  rw [ps] at s2
  rw [ps, pl] at e2
  have key : 0 ≤ r.ahead q + j ∧ r.ahead q + j + 1 ≤ r.l ∧ (r.part (r.ahead q + j) 1).en q - (r.part (r.ahead q + j) 1).st q = 1 ∧ (r.part (r.ahead q + j) 1).st q = r.s + (if r.b = true then r.l - (r.ahead q + j) - 1 else r.ahead q + j) := by
    generalize (r.part (r.ahead q + j) 1).st q = a2 at *
    generalize (r.part (r.ahead q + j) 1).en q = b2 at *
    generalize r.ahead q = x at *
    generalize r.st q = a1 at *
    generalize r.en q = b1 at *
    cases hb : r.b
    · simp only [hb, Bool.false_eq_true, if_false] at s2 e2 ah ⊢
      refine ⟨?_, ?_, ?_, ?_⟩ <;> omega
    · simp only [hb, if_true] at s2 e2 ah ⊢
      refine ⟨?_, ?_, ?_, ?_⟩ <;> omega
  obtain ⟨k1, k2, k3, k4⟩ := key
  refine ⟨k1, k2, by omega, ?_⟩
  have pb : (r.part (r.ahead q + j) 1).b = false := by
    show (r.b && decide (1 < (1 : Int))) = false
    rw [decide_eq_false (by decide), Bool.and_false]
  refine Row.same ?_ ?_ ?_ ?_ ?_ ?_
  · rw [join_f, pb, ps, pf]
    show r.f + (r.ahead q + j) + (if false = true then _ else _) = r.f + r.ahead q + j
    rw [if_neg (by decide), k4]
    omega
  · rw [join_s, k3]
    show _ = (r.join q).s + (if (r.join q).b = true then (r.join q).l - j - 1 else j)
    have bb := join_bx r q
    rw [join_s, join_l] at *
    rw [k4, ah]
    rw [Row.join_b]
    by_cases c : 1 < r.en q - r.st q
    · rw [decide_eq_true c, Bool.and_true]
      cases r.b <;> cases q.b <;> simp <;> omega
    · rw [decide_eq_false c, Bool.and_false]
      cases r.b <;> cases q.b <;> simp <;> omega
  · rw [join_l, k3]
    rfl
  · rw [join_a, pa]
    rfl
  · rw [join_d, pd]
    rfl
  · rw [Row.join_b, k3]
    show _ = ((r.join q).b && decide (1 < (1 : Int)))
    rw [decide_eq_false (show ¬ (1 : Int) < 1 by decide), Bool.and_false, Bool.and_false]
/-! ### times add up -/
theorem At.bk {r t : Row} {m : Int} (h : At r m t) (ok : r.Ok) : t.b = ((r.b && odd m) && decide (1 < t.l)) := by
  rcases h with ⟨rfl, rfl⟩ | ⟨c, rfl, l⟩
  · rw [show odd 1 = true from rfl, Bool.and_true]
    cases hb : t.b with
    | false => rfl
    | true => rw [decide_eq_true (ok.bk hb)] <;> rfl
  · rfl
theorem odd_add (m k : Int) : odd (m + k) = (odd m != odd k) := by
  rw [odd_iff, odd_iff, odd_iff]
  rcases (show m % 2 = 0 ∨ m % 2 = 1 by omega) with c | c <;> rcases (show k % 2 = 0 ∨ k % 2 = 1 by omega) with d | d
  · rw [decide_eq_false (show ¬ (m + k) % 2 = 1 by omega), decide_eq_false (show ¬ m % 2 = 1 by omega), decide_eq_false (show ¬ k % 2 = 1 by omega)] <;> rfl
  · rw [decide_eq_true (show (m + k) % 2 = 1 by omega), decide_eq_false (show ¬ m % 2 = 1 by omega), decide_eq_true d] <;> rfl
  · rw [decide_eq_true (show (m + k) % 2 = 1 by omega), decide_eq_true c, decide_eq_false (show ¬ k % 2 = 1 by omega)] <;> rfl
  · rw [decide_eq_false (show ¬ (m + k) % 2 = 1 by omega), decide_eq_true c, decide_eq_true d] <;> rfl
theorem ma_add {r : Row} (m k : Int) : (if (r.d && odd k) = true then r.ma k - r.ma m else r.ma k + r.ma m) = r.ma (m + k) := by
  unfold Row.ma
  cases hd : r.d
  · simp only [Bool.false_and, Bool.false_eq_true, if_false]
    rw [Int.mul_add]
    omega
  · simp only [Bool.true_and, if_true]
    rw [odd_iff]
    rcases (show m % 2 = 0 ∨ m % 2 = 1 by omega) with c | c <;> rcases (show k % 2 = 0 ∨ k % 2 = 1 by omega) with d | d
    · rw [c, d, show (m + k) % 2 = 0 by omega]
      simp
    · rw [c, d, show (m + k) % 2 = 1 by omega]
      simp
    · rw [c, d, show (m + k) % 2 = 1 by omega]
      simp
    · rw [c, d, show (m + k) % 2 = 0 by omega]
      simp
theorem many_s {r t u : Row} {m k : Int} (h : At r m t) (g : At r k u) (ok : r.Ok) (b : r.b = false) : t.en u - t.st u = r.ml (m + k) ∧ (1 ≤ r.ml (m + k) → t.f + t.ahead u = r.mf (m + k) ∧ u.s + (t.st u - u.f) = r.ms (m + k)) ∧ u.b = false := by
  obtain ⟨m0, hf, hs, hl, l1, tb⟩ := h.straight ok b
  obtain ⟨k0, gf, gs, gl, l2, ub⟩ := g.straight ok b
  have nb : ¬ r.b = true := by rw [b]; decide
  have ntb : ¬ t.b = true := by rw [tb]; decide
  have e1 : (m + k - 1) * r.gap = (m - 1) * r.gap + (k - 1) * r.gap + r.gap := by
    rw [show m + k - 1 = (m - 1) + (k - 1) + 1 by omega, Int.add_mul, Int.add_mul, Int.one_mul]
  have e2 : (m + k) * (r.s - r.f) = m * (r.s - r.f) + k * (r.s - r.f) := by rw [Int.add_mul]
  have e3 : ∀ j : Int, j * (r.s - r.f) = (j - 1) * (r.s - r.f) + (r.s - r.f) := fun j => by
    rw [show j * (r.s - r.f) = ((j - 1) + 1) * (r.s - r.f) by rw [show j - 1 + 1 = j by omega], Int.add_mul, Int.one_mul]
  have t0 : 0 ≤ (m - 1) * r.gap := Int.mul_nonneg (by omega) r.gap0
  have t1 : 0 ≤ (k - 1) * r.gap := Int.mul_nonneg (by omega) r.gap0
  have gp := r.gap0
  have s1 := st_is t u; have n1 := en_is t u
  rw [← and_assoc]
  refine ⟨?_, ub⟩
  have ml : ∀ j, r.ml j = r.l - (j - 1) * r.gap := fun j => if_neg nb
  have mf : ∀ j, r.mf j = r.f + (j - 1) * (if -(r.s - r.f) > 0 then -(r.s - r.f) else 0) := fun j => if_neg nb
  have ms : ∀ j, r.ms j = r.mf j + j * (r.s - r.f) := fun j => if_neg nb
  have ah : t.ahead u = t.st u - t.s := if_neg ntb
  rw [ah]
  rw [ml, ms, mf]
  rw [ml] at hl gl
  rw [ms, mf] at hs gs
  rw [mf] at hf gf
  rw [e1, e2]
  by_cases c : r.s - r.f < 0
  · have gg : r.gap = -(r.s - r.f) := if_pos c
    have k1 : (if -(r.s - r.f) > 0 then -(r.s - r.f) else 0) = r.gap := by rw [if_pos (by omega), gg]
    have k2 : ∀ j : Int, (j - 1) * (r.s - r.f) = -((j - 1) * r.gap) := fun j => by rw [gg, Int.mul_neg]; omega
    rw [k1] at hf gf hs gs ⊢
    rw [e3 m, k2] at hs
    rw [e3 k, k2] at gs
    rw [e3 m, e3 k, k2, k2, e1]
    generalize (m - 1) * r.gap = x at *
    generalize (k - 1) * r.gap = y at *
    refine ⟨?_, fun q => ⟨?_, ?_⟩⟩ <;> omega
  · have gg : r.gap = r.s - r.f := if_neg c
    have k1 : (if -(r.s - r.f) > 0 then -(r.s - r.f) else 0) = 0 := if_neg (by omega)
    have k2 : ∀ j : Int, (j - 1) * (r.s - r.f) = (j - 1) * r.gap := fun j => by rw [gg]
    rw [k1] at hf gf hs gs ⊢
    rw [e3 m, k2, Int.mul_zero] at hs
    rw [e3 k, k2, Int.mul_zero] at gs
    rw [Int.mul_zero] at hf gf
    rw [e3 m, e3 k, k2, k2, Int.mul_zero]
    generalize (m - 1) * r.gap = x at *
    generalize (k - 1) * r.gap = y at *
    refine ⟨?_, fun q => ⟨?_, ?_⟩⟩ <;> omega
theorem many_b {r t u : Row} {m k : Int} (h : At r m t) (g : At r k u) (ok : r.Ok) (b : r.b = true) (l : 1 ≤ r.ml (m + k)) : t.en u - t.st u = r.ml (m + k) ∧ t.f + t.ahead u = r.mf (m + k) ∧ u.s + (if u.b = true then u.l - (t.st u - u.f) - (t.en u - t.st u) else t.st u - u.f) = r.ms (m + k) := by
  have f0 := ok.f0; have s0 := ok.s0; have l0 := ok.l0
  have ml : ∀ j, r.ml j = r.l - r.gap := fun j => if_pos b
  have mf : ∀ j, r.mf j = (if r.s > r.f then r.s else r.f) := fun j => if_pos b
  have ms : ∀ j, r.ms j = (if r.s > r.f then r.s else r.f) := fun j => if_pos b
  obtain ⟨mx, hmx, hg⟩ : ∃ mx, (if r.s > r.f then r.s else r.f) = mx ∧ (mx = r.s ∧ r.gap = r.s - r.f ∧ r.f ≤ r.s ∨ mx = r.f ∧ r.gap = r.f - r.s ∧ r.s ≤ r.f) := by
    refine ⟨_, rfl, ?_⟩
    unfold Row.gap
    split <;> split <;> omega
  have fields : ∀ {j : Int} {v : Row}, At r j v → (v = r) ∨ (v.f = mx ∧ v.s = mx ∧ v.l = r.l - r.gap) := fun {j v} a => by
    rcases a with ⟨_, rfl⟩ | ⟨_, rfl, _⟩
    · exact .inl rfl
    · exact .inr ⟨(mf j).trans hmx, (ms j).trans hmx, ml j⟩
  rw [ml] at l
  rw [ml, mf, ms, hmx]
  have s1 := st_is t u; have n1 := en_is t u
  have ah : t.ahead u = if t.b = true then t.s + t.l - t.en u else t.st u - t.s := rfl
  rw [ah]
  clear ah ml mf ms
  rcases fields h with rfl | ⟨a1, a2, a3⟩ <;> rcases fields g with rfl | ⟨c1, c2, c3⟩
  · rw [if_pos b, if_pos b]
    refine ⟨?_, ?_, ?_⟩ <;> omega
  · rw [if_pos b]
    rw [c1, c2, c3]
    rw [c1, c3] at n1
    rw [c1] at s1
    refine ⟨?_, ?_, ?_⟩
    · omega
    · omega
    · split <;> omega
  · rw [if_pos b]
    rw [a1, a2, a3]
    rw [a2, a3] at n1
    rw [a2] at s1
    refine ⟨?_, ?_, ?_⟩
    · omega
    · split <;> omega
    · omega
  · rw [a1, a2, a3, c1, c2, c3]
    rw [a2, a3, c1, c3] at n1
    rw [a2, c1] at s1
    refine ⟨?_, ?_, ?_⟩
    · omega
    · split <;> omega
    · split <;> omega
theorem join_many {r t u : Row} {m k : Int} (h : At r m t) (g : At r k u) (ok : r.Ok) (l : 1 ≤ r.ml (m + k)) : t.st u < t.en u ∧ t.join u = r.many (m + k) := by
  have key : t.en u - t.st u = r.ml (m + k) ∧ t.f + t.ahead u = r.mf (m + k) ∧ u.s + (if u.b = true then u.l - (t.st u - u.f) - (t.en u - t.st u) else t.st u - u.f) = r.ms (m + k) := by
    cases b : r.b with
    | true => exact many_b h g ok b l
    | false =>
      obtain ⟨k1, k2, k3⟩ := many_s h g ok b
      obtain ⟨k2, k4⟩ := k2 l
      refine ⟨k1, k2, ?_⟩
      rw [if_neg (by rw [k3]; decide)]
      exact k4
  obtain ⟨k1, k2, k3⟩ := key
  refine ⟨by omega, Row.same k2 k3 k1 ?_ ?_ ?_⟩
  · rw [join_a, g.d, g.a, h.a]
    exact ma_add m k
  · rw [join_d, h.d, g.d]
    show _ = (r.d && odd (m + k))
    rw [odd_add]
    cases r.d <;> cases odd m <;> cases odd k <;> rfl
  · rw [Row.join_b, k1]
    show _ = ((r.b && odd (m + k)) && decide (1 < r.ml (m + k)))
    have s1 := st_is t u; have n1 := en_is t u
    by_cases c : 1 < r.ml (m + k)
    · rw [h.bk ok, g.bk ok, odd_add, decide_eq_true c, decide_eq_true (show 1 < t.l by omega), decide_eq_true (show 1 < u.l by omega)]
      cases r.b <;> cases odd m <;> cases odd k <;> rfl
    · rw [decide_eq_false c, Bool.and_false, Bool.and_false]
theorem ml_mono {r : Row} {m k : Int} (m0 : 1 ≤ m) (h : m ≤ k) : r.ml k ≤ r.ml m := by
  have e1 : (k - 1) * r.gap = (m - 1) * r.gap + (k - m) * r.gap := by
    rw [show k - 1 = (m - 1) + (k - m) by omega, Int.add_mul]
  have := Int.mul_nonneg (show 0 ≤ k - m by omega) r.gap0
  unfold Row.ml
  split <;> omega
end TT

set_option maxHeartbeats 4000000
namespace TT
open PySem PySem.Spec PyProof.Rows L2 LamX
/-! ### rows joined, or none -/
theorem Row.join_ok {r q : Row} (h : r.Ok) (g : q.Ok) (c : r.st q < r.en q) (a : r.Small) (b : q.Small) : (r.join q).Ok := by
  obtain ⟨a0, n0, a1, b0, b1⟩ := Row.ahead_in h g c
  exact Row.Ok.behind (h.part a0 n0 a1) (g.part b0 n0 b1) rfl ⟨a.lo, a.hi⟩ ⟨b.lo, b.hi⟩
def jo : Option Row → Option Row → Option Row
  | some r, some q => if r.st q < r.en q then some (r.join q) else none
  | _, _ => none
theorem jo_yes {r q : Row} (c : r.st q < r.en q) : jo (some r) (some q) = some (r.join q) := if_pos c
theorem jo_no {r q : Row} (c : ¬ r.st q < r.en q) : jo (some r) (some q) = none := if_neg c
theorem jo_right (o : Option Row) : jo o none = none := by cases o <;> rfl
theorem jo_left (o : Option Row) : jo none o = none := rfl
theorem jo_some {r q d : Row} (h : jo (some r) (some q) = some d) : r.st q < r.en q ∧ d = r.join q := by
  by_cases c : r.st q < r.en q
  · rw [jo_yes c] at h
    exact ⟨c, (Option.some.inj h).symm⟩
  · rw [jo_no c] at h
    cases h
theorem jo_back (r q : Row) : jo (some q.back) (some r.back) = (jo (some r) (some q)).map Row.back := by
  obtain ⟨h1, h2⟩ := Row.back_joins (r := r) (q := q)
  by_cases c : r.st q < r.en q
  · rw [jo_yes c, jo_yes (by omega), Option.map_some, Row.back_join]
  · rw [jo_no c, jo_no (by omega)]
    rfl
theorem jo_assoc {r q t : Row} (h1 : 1 ≤ r.l) (h2 : 1 ≤ q.l) (h3 : 1 ≤ t.l) : jo (jo (some r) (some q)) (some t) = jo (some r) (jo (some q) (some t)) := by
  obtain ⟨i1, _⟩ := assoc_ends h1 h2 h3
  by_cases p : r.st q < r.en q
  · rw [jo_yes p]
    by_cases g : (r.join q).st t < (r.join q).en t
    · obtain ⟨k3, k4⟩ := i1.mp ⟨p, g⟩
      rw [jo_yes g, jo_yes k3, jo_yes k4, Row.assoc h1 h2 h3 p g]
    · rw [jo_no g]
      by_cases k3 : q.st t < q.en t
      · rw [jo_yes k3, jo_no (fun k4 => g (i1.mpr ⟨k3, k4⟩).2)]
      · rw [jo_no k3]
        rfl
  · rw [jo_no p]
    by_cases k3 : q.st t < q.en t
    · rw [jo_yes k3, jo_no (fun k4 => p (i1.mpr ⟨k3, k4⟩).1)]
      rfl
    · rw [jo_no k3]
      rfl
/-! ### so often -/
def Row.due (r : Row) (m : Int) : Option Row := if m = 1 then some r else if 1 ≤ r.ml m then some (r.many m) else none
theorem Row.due_at {r t : Row} {m : Int} (m1 : 1 ≤ m) (h : r.due m = some t) : At r m t := by
  unfold Row.due at h
  by_cases c : m = 1
  · rw [if_pos c] at h
    exact .inl ⟨c, (Option.some.inj h).symm⟩
  · rw [if_neg c] at h
    by_cases l : 1 ≤ r.ml m
    · rw [if_pos l] at h
      exact .inr ⟨by omega, (Option.some.inj h).symm, l⟩
    · rw [if_neg l] at h
      cases h
theorem Row.due_is {r : Row} {m : Int} (l : m = 1 ∨ 1 ≤ r.ml m) : ∃ t, r.due m = some t := by
  unfold Row.due
  by_cases c : m = 1
  · exact ⟨_, if_pos c⟩
  · rw [if_neg c, if_pos (l.resolve_left c)]
    exact ⟨_, rfl⟩
theorem due_add {r d : Row} {m k : Int} (m1 : 1 ≤ m) (k1 : 1 ≤ k) (ok : r.Ok) (h : r.due (m + k) = some d) : jo (r.due m) (r.due k) = some d := by
  rcases Row.due_at (by omega) h with ⟨c, _⟩ | ⟨_, rfl, l⟩
  · omega
  · obtain ⟨t, ht⟩ := Row.due_is (r := r) (m := m) (.inr (by have := ml_mono (r := r) m1 (show m ≤ m + k by omega); omega))
    obtain ⟨u, hu⟩ := Row.due_is (r := r) (m := k) (.inr (by have := ml_mono (r := r) k1 (show k ≤ m + k by omega); omega))
    obtain ⟨a, b⟩ := join_many (Row.due_at m1 ht) (Row.due_at k1 hu) ok l
    rw [ht, hu, jo_yes a, b]
/-! ### fit to be joined -/
structure Row.Fit (r : Row) (n : Int) : Prop where
  ok : r.Ok
  lo : -(n * 10 ^ 36) < r.a
  hi : r.a < n * 10 ^ 36
theorem Row.Fit.small {r : Row} {n : Int} (h : r.Fit n) (n1 : n ≤ 5000) : r.Small := by
  have t : (10 : Int) ^ 59 = 10 ^ 23 * 10 ^ 36 := by decide +kernel
  have u : (5000 : Int) * 10 ^ 36 ≤ 10 ^ 23 * 10 ^ 36 := by decide +kernel
  have v : n * 10 ^ 36 ≤ 5000 * 10 ^ 36 := Int.mul_le_mul_of_nonneg_right n1 (by decide +kernel)
  have := h.lo
  have := h.hi
  exact ⟨by omega, by omega⟩
theorem Row.Fit.join {r q : Row} {n m : Int} (h : r.Fit n) (g : q.Fit m) (n1 : n ≤ 5000) (m1 : m ≤ 5000) {d : Row} (e : jo (some r) (some q) = some d) : d.Fit (n + m) := by
  obtain ⟨c, rfl⟩ := jo_some e
  have h1 := h.lo; have h2 := h.hi; have g1 := g.lo; have g2 := g.hi
  refine ⟨Row.join_ok h.ok g.ok c (h.small n1) (g.small m1), ?_, ?_⟩
  · rw [join_a, Int.add_mul]
    split <;> omega
  · rw [join_a, Int.add_mul]
    split <;> omega
theorem Row.Fit.back {r : Row} {n : Int} (h : r.Fit n) : r.back.Fit n := by
  have h1 := h.lo; have h2 := h.hi
  refine ⟨h.ok.back, ?_, ?_⟩
  · show _ < (if r.d = true then r.a else -r.a)
    split <;> omega
  · show (if r.d = true then r.a else -r.a) < _
    split <;> omega
theorem Row.Fit.low {r : Row} (h : r.Fit 1) : r.Low := by
  have h1 := h.lo; have h2 := h.hi
  rw [Int.one_mul] at h1 h2
  exact ⟨h1, h2⟩
theorem Row.Fit.due {r t : Row} {m : Int} (h : r.Fit 1) (m1 : 1 ≤ m) (m2 : m ≤ 1000) (e : r.due m = some t) : t.Fit (m + 1) := by
  have a := Row.due_at m1 e
  have h1 := h.low.lo; have h2 := h.low.hi
  have ok : t.Ok := by
    rcases a with ⟨_, rfl⟩ | ⟨_, rfl, l⟩
    · exact h.ok
    · exact h.ok.many h.low m1 m2 l
  obtain ⟨b1, b2⟩ := mul_bd h1 h2 (show 0 ≤ m by omega) (Int.le_refl m)
  have ea := a.a
  refine ⟨ok, ?_, ?_⟩
  · rw [ea, Int.add_mul, Int.one_mul]
    rw [Int.mul_comm (10 ^ 36) m] at b1 b2
    unfold Row.ma
    have hm : 0 ≤ m * 10 ^ 36 := Int.mul_nonneg (by omega) (by decide +kernel)
    split
    · rcases (show m % 2 = 0 ∨ m % 2 = 1 by omega) with c | c
      · rw [c, Int.mul_zero]
        have : (0 : Int) < 10 ^ 36 := by decide +kernel
        omega
      · rw [c, Int.mul_one]
        omega
    · omega
  · rw [ea, Int.add_mul, Int.one_mul]
    rw [Int.mul_comm (10 ^ 36) m] at b1 b2
    unfold Row.ma
    have hm : 0 ≤ m * 10 ^ 36 := Int.mul_nonneg (by omega) (by decide +kernel)
    split
    · rcases (show m % 2 = 0 ∨ m % 2 = 1 by omega) with c | c
      · rw [c, Int.mul_zero]
        have : (0 : Int) < 10 ^ 36 := by decide +kernel
        omega
      · rw [c, Int.mul_one]
        omega
    · omega
/-! ### what stands where -/
def tabs (Z : Zs) : List (Addr × Str) := [(Z.t_l_right, lamN "_law_right")]
theorem tabs_mem (Z : Zs) : (Z.t_l_right, lamN "_law_right") ∈ tabs Z := List.mem_singleton.mpr rfl
theorem tabs_one (Z : Zs) : ∀ p ∈ tabs Z, p.1 = Z.t_l_right → p.2 = lamN "_law_right" := fun p hp _ => by rw [List.mem_singleton.mp hp]
def TOr (Z : Zs) (H : Hp) (v : V) : Option Row → Prop
  | some t => ∃ x, v = .ref x ∧ TieAt Z.cC H x t
  | none => v = .non
theorem TieAt.keepN {C p x : Addr} {n : Nat} {H H' : Hp} {t : Row} (hp : Pot H p n) (k : KeepN p H H') (h : TieAt C H x t) : TieAt C H' x t := by
  obtain ⟨dx, e⟩ := h
  exact ⟨dx, k _ _ (hp.off e fun _ z => nomatch z) e (fun _ z => nomatch z)⟩
theorem TOr.keepN {Z : Zs} {p : Addr} {n : Nat} {H H' : Hp} {v : V} (hp : Pot H p n) (k : KeepN p H H') : ∀ {o : Option Row}, TOr Z H v o → TOr Z H' v o
  | some _, ⟨x, e, h⟩ => ⟨x, e, h.keepN hp k⟩
  | none, h => h
theorem TOr.same {Z : Zs} {H H' : Hp} {v : V} (k : Same H H') : ∀ {o : Option Row}, TOr Z H v o → TOr Z H' v o
  | some _, ⟨x, e, h⟩ => ⟨x, e, Same.tie k h⟩
  | none, h => h
theorem TOr.isNone {Z : Zs} {H : Hp} {v : V} : ∀ {o : Option Row}, TOr Z H v o → decide (v = .non) = o.isNone
  | some _, ⟨x, e, h⟩ => by subst e; rfl
  | none, h => by
    obtain rfl : v = .non := h
    rfl
theorem TieAt.lst {C D x : Addr} {H : Hp} {xs : List V} {o : HO} {r : Row} (hD : H D = some (.lst xs)) (h : TieAt C H x r) : TieAt C (upd H D o) x r := by
  obtain ⟨dx, e⟩ := h
  exact ⟨dx, by rw [upd_ne (ne_of e hD fun z => by cases z)]; exact e⟩
theorem Pot.lst {p D : Addr} {n : Nat} {H : Hp} {o : HO} (hp : Pot H p n) (h : p ≠ D) : Pot (upd H D o) p n := by
  obtain ⟨x1, x2, e1, e2⟩ := hp
  exact ⟨x1, x2, by rw [upd_ne h]; exact e1, e2⟩
theorem Row.Fit.one {r : Row} {n : Int} (h : r.Fit n) (n1 : n ≤ 5000) : ∀ q, some r = some q → q.Ok ∧ q.Small := fun q e => by
  obtain rfl := Option.some.inj e
  exact ⟨h.ok, h.small n1⟩
theorem Row.Fit.two {r q : Row} {n m : Int} (h : r.Fit n) (g : q.Fit m) (n1 : n ≤ 2000) (m1 : m ≤ 2000) : ∀ d, jo (some r) (some q) = some d → d.Ok ∧ d.Small := fun d e => by
  have f := h.join g (by omega) (by omega) e
  exact ⟨f.ok, f.small (by omega)⟩
theorem Row.Fit.dues {r : Row} {m : Int} (h : r.Fit 1) (m1 : 1 ≤ m) (m2 : m ≤ 1000) : ∀ t, r.due m = some t → t.Ok ∧ t.Small := fun t e => by
  have f := h.due m1 m2 e
  exact ⟨f.ok, f.small (by omega)⟩
theorem shareH {T : Hp → Prop} {G : Prop} (C : Hp → Prop) (h : (∀ H, C H → T H) → G) (t : ∀ H, C H → T H) : G := h t
theorem seq_via {c : TT} {a a' b : TS} {D : _} {σ : L2.St} {H : Hp} (C : L2.St → Hp → Prop) (h : (∀ σ H, C σ H → b D σ H) → tSeq (tIfS c a a') b D σ H) (k : ∀ σ H, C σ H → b D σ H) : tSeq (tIfS c a a') b D σ H := h k
theorem name_via {c : TT} {a a' b : TS} {D : Ends} {rt : VK} {bk ct : L2.St → Hp → Prop} {i : Nat} {v : V} {σ : L2.St} {H : Hp} (C : L2.St → Hp → Prop) (h : (∀ σ H, C σ H → b D σ H) → gName i v σ H (Ends.nx { nx := tSeq (tIfS c a a') b D, rt := rt, bk := bk, ct := ct })) (k : ∀ σ H, C σ H → b D σ H) : gName i v σ H (Ends.nx { nx := tSeq (tIfS c a a') b D, rt := rt, bk := bk, ct := ct }) := h k
structure S8 (Z : Zs) (p : Addr) (n : Nat) (H0 H : Hp) (x1 x2 x3 : Addr) (r1 r2 r3 : Row) : Prop where
  hp : Pot H p n
  k : KeepN p H0 H
  hT : Tabs (tabs Z) H
  a : TieAt Z.cC H x1 r1
  b : TieAt Z.cC H x2 r2
  c : TieAt Z.cC H x3 r3
section
variable {Z : Zs} {p x1 x2 x3 : Addr} {n n' : Nat} {H0 H H' : Hp} {r1 r2 r3 : Row}
theorem S8.step (s : S8 Z p n H0 H x1 x2 x3 r1 r2 r3) (e : KeepN p H H') (hp' : Pot H' p n') (hT' : Tabs (tabs Z) H') : S8 Z p n' H0 H' x1 x2 x3 r1 r2 r3 :=
  ⟨hp', s.k.then e, hT', s.a.keepN s.hp e, s.b.keepN s.hp e, s.c.keepN s.hp e⟩
theorem S8.ext (s : S8 Z p n H0 H x1 x2 x3 r1 r2 r3) (e : ExtN H H') (hT' : Tabs (tabs Z) H') : S8 Z p n H0 H' x1 x2 x3 r1 r2 r3 := s.step (KeepN.ext e) (s.hp.extN e) hT'
theorem S8.same (s : S8 Z p n H0 H x1 x2 x3 r1 r2 r3) (e : Same H H') : S8 Z p n H0 H' x1 x2 x3 r1 r2 r3 := s.ext (ExtN.same e) (s.hT.ext e)
theorem S8.keep (s : S8 Z p n H0 H x1 x2 x3 r1 r2 r3) (e : Keep p H H') (hp' : Pot H' p n') : S8 Z p n' H0 H' x1 x2 x3 r1 r2 r3 := s.step (KeepN.of e) hp' (Tabs.keep e s.hp s.hT)
end
/-! the readings of the lambdas -/
section
variable (K : PySem.W.Frag) (Z : Zs)
abbrev jn (E : XK) (a b : TE) : TE := tOp (rBinO Z.cC (sp_T_rshift Z K) E) a b
abbrev bk (a : TE) : TE := tUn (fun x H Q => ∃ a dx fs, x = .ref a ∧ H a = some (.ins Z.cC dx fs) ∧ sp_T_invert Z.cC [.ref a] H Q E0) a
abbrev tm (E : XK) (a b : TE) : TE := tOp (rBinV K .Mult Z.cC (sp_T_mul Z K) E) a b
def t1 (E : XK) : TE := jn K Z E (tVar 3) (tVar 4)
def t2 (E : XK) : TE := jn K Z E (bk Z (tVar 4)) (bk Z (tVar 3))
def t3 (E : XK) : TE := jn K Z E (jn K Z E (tVar 3) (tVar 4)) (tVar 5)
def t4 (E : XK) : TE := jn K Z E (tVar 3) (jn K Z E (tVar 4) (tVar 5))
def t5 (E : XK) : TE := tm K Z E (tVar 3) (tOp (rI0 fun i j => .int (i + j)) (tVar 12) (tVar 13))
def t6 (E : XK) : TE := jn K Z E (tm K Z E (tVar 3) (tVar 12)) (tm K Z E (tVar 3) (tVar 13))
end
/-- a reading that gives the row's tie, or is refused -/
def Gv (Z : Zs) (E : XK) (t : TE) (σ : L2.St) (H : Hp) (o : Option Row) : Prop := ∀ Q : VK, (∀ x H' r, o = some r → Same H H' → TieAt Z.cC H' x r → Q (.ref x) H') → (o = none → ∀ v H', Same H H' → Out E (Z.c 1) v H') → t σ H Q
def GJ (Z : Zs) (H : Hp) (o : Option Row) : VK := fun v H' => Same H H' ∧ TOr Z H' v o
section
variable {P : Program} {w : World} {K : PySem.W.Frag} {mg : Str → Option Value} {base : Heap} {Z : Zs} {E : XK} {σ : L2.St} {H : Hp}
theorem right_int (T : Txt K mg Z) : RightT K .Mult Z.cC "int" := ⟨_, _, T.z_l_int, T.z_r_int, T.z_s_int⟩
theorem Gv.var {i : Nat} {x : Addr} {r : Row} (e : ∀ Q : VK, Q (.ref x) H → tVar i σ H Q) (h : TieAt Z.cC H x r) : Gv Z E (tVar i) σ H (some r) := fun _ hs _ => e _ (hs x H r rfl (Same.refl H) h)
theorem Gv.jn {a b : TE} {oa ob : Option Row} (ga : Gv Z E a σ H oa) (gb : ∀ H', Same H H' → Gv Z E b σ H' ob) (fa : ∀ r, oa = some r → r.Ok ∧ r.Small) (fb : ∀ q, ob = some q → q.Ok ∧ q.Small) : Gv Z E (jn K Z E a b) σ H (jo oa ob) := by
  intro Q hs hn
  refine ga _ (fun x H1 r er s1 hx => ?_) (fun e v H1 s1 => hn (by rw [e] <;> rfl) v H1 s1)
  refine gb H1 s1 _ (fun y H2 q eq s2 hy => ?_) (fun e v H2 s2 => hn (by rw [e, jo_right]) v H2 (s1.trans s2))
  obtain ⟨dx, ex⟩ := id (Same.tie s2 hx)
  obtain ⟨dy, ey⟩ := id hy
  refine ⟨x, y, rfl, rfl, ⟨_, _, ex⟩, ⟨_, _, ey⟩, x, y, r, q, rfl, Same.tie s2 hx, hy, (fa r er).1, (fb q eq).1, (fa r er).2, (fb q eq).2, ?_⟩
  subst er eq
  by_cases c : r.st q < r.en q
  · exact .inl ⟨c, fun z H3 nz s3 hz => ⟨⟨z, rfl⟩, hs z H3 _ (jo_yes c) ((s1.trans s2).trans s3) hz⟩⟩
  · exact .inr ⟨by omega, fun t ht => hn (jo_no c) _ _ ((s1.trans s2).trans (Same.new (Same.refl _) ht))⟩
theorem Gv.bk {a : TE} {r : Row} (ga : Gv Z E a σ H (some r)) (ok : r.Ok) : Gv Z E (bk Z a) σ H (some r.back) := by
  intro Q hs hn
  refine ga _ (fun x H1 r' er s1 hx => ?_) (fun e => nomatch e)
  obtain rfl := Option.some.inj er
  obtain ⟨dx, ex⟩ := id hx
  exact ⟨x, dx, _, rfl, ex, x, r, rfl, hx, ok, fun z H2 nz s2 hz => hs z H2 _ rfl (s1.trans s2) hz⟩
theorem Gv.tm (T : Txt K mg Z) {a b : TE} {r : Row} {m : Int} (ga : Gv Z E a σ H (some r)) (gb : ∀ H' (Q : VK), Q (.int m) H' → b σ H' Q) (f : r.Fit 1) (m1 : 1 ≤ m) (m2 : m ≤ 1000) : Gv Z E (tm K Z E a b) σ H (r.due m) := by
  intro Q hs hn
  refine ga _ (fun x H1 r' er s1 hx => ?_) (fun e => nomatch e)
  obtain rfl := Option.some.inj er
  obtain ⟨dx, ex⟩ := id hx
  refine gb H1 _ ?_
  refine ⟨x, dx, _, "int", rfl, ex, .int m, right_int T, x, r, .int m, rfl, hx, f.ok, f.low, .inl ⟨m, rfl, m1, m2, ?_⟩⟩
  rcases Classical.em (m = 1) with c | c
  · exact .inl ⟨c, ⟨x, rfl⟩, hs x H1 r (if_pos c) s1 hx⟩
  · refine .inr ⟨c, ?_⟩
    have e : r.due m = if 1 ≤ r.ml m then some (r.many m) else none := if_neg c
    by_cases l : 1 ≤ r.ml m
    · exact .inr ⟨l, fun z H2 nz s2 hz => ⟨⟨z, rfl⟩, hs z H2 _ (by rw [e, if_pos l]) (s1.trans s2) hz⟩⟩
    · exact .inl ⟨by omega, fun t ht => hn (by rw [e, if_neg l]) _ _ (s1.trans (Same.new (Same.refl _) ht))⟩
theorem Gv.orn (T : Txt K mg Z) {t : XK → TE} {o : Option Row} (g : ∀ E, Gv Z E (t E) σ H o) : t (fun cls _ H' => PySem.W.exmOne K cls (.ref (Z.c 1)) = some true ∧ GJ Z H o .non H') σ H (GJ Z H o) :=
  g _ _ (fun x H' r e s hx => ⟨s, by subst e; exact ⟨x, rfl, hx⟩⟩) (fun e v H' s => Out.orn (G := GJ Z H o) (T.ex 1 (by decide)) fun H'' s' => ⟨s.trans s', by subst e; rfl⟩)
theorem TOr.fld (T : Txt K mg Z) {v w : V} {r : Row} {f : Str} {Q : VK} (h : TOr Z H v (some r)) (no : NoAttr K Z.cC f) (l : (tfs r).lookup f = some w) (k : Q w H) : ∃ a C dx fs u, v = V.ref a ∧ H a = some (.ins C dx fs) ∧ Cls K C ∧ NoAttr K C f ∧ fs.lookup f = some u ∧ Q u H := by
  obtain ⟨a, e, dx, i⟩ := h
  exact ⟨a, _, dx, _, _, e, i, T.cl, no, l, k⟩
/-- == of two ties -/
theorem eq_ties {v u : V} {r q : Row} {Q : VK} (ha : TOr Z H v (some r)) (hb : TOr Z H u (some q)) (e : r = q) (k : Q (.bl true) H) : rEqO Z.cC (sp_T_eqB Z) E v u H Q := by
  subst e
  obtain ⟨a, rfl, ha⟩ := ha
  obtain ⟨b, rfl, hb⟩ := hb
  obtain ⟨dx, ea⟩ := id ha
  obtain ⟨dy, eb⟩ := id hb
  refine ⟨a, dx, _, rfl, ea, .ins eb, a, .ref b, r, rfl, ha, .inl ⟨b, r, rfl, hb, ⟨_, rfl⟩, ?_⟩⟩
  rw [show eqB r r = true by rw [eqB_eq]; simp]
  exact k
end
end TT

set_option maxHeartbeats 4000000
namespace TT
open PySem PySem.Spec PyProof.Rows L2 LamX
/-! ### the law's own check -/
def sp_l_right (Z : Zs) : Sp := fun vs H Q _ => ∃ (p : Addr) (n : Nat), vs = [.ref p] ∧ Pot H p n ∧ n + 40 < 1000000 ∧ Tabs (tabs Z) H ∧ ∀ (n' : Nat) (H' : Hp), n' ≤ n + 40 → Pot H' p n' → Tabs (tabs Z) H' → KeepN p H H' → Q (.bl true) H'
section
variable {P : Program} {w : World} {K : PySem.W.Frag} {mg : Str → Option Value} {base : Heap} {Z : Zs}
theorem ok_l_right (T : Txt K mg Z) (TB : TabB base mg Z.c_l_right Z.t_l_right) : GOk P w K mg base CX0 15 Z.f_l_right Z.d_l_right ["_law_pot_here"] (sp_l_right Z) := by
  refine okGC T.F_l_right sc_l_right (fun vs H Q E h => ?_) (fun A outer s H vs Q E g hr h => ?_)
  · obtain ⟨p, n, rfl, _⟩ := h
    rfl
  · obtain ⟨p, n, rfl, hp, hn, hT, k⟩ := h
    refine ⟨_, (pss_cons (ps_asg (pe_tup (pa_cons (pe_call (ok_l_of T) (hr.mono (by decide)) rfl T.g_l_of T.k_l_of T.bn_l_of .nil pass0 (pa_cons (pv 0) (pa_cons (pe_lst (pa_cons pe_int (pa_cons pe_int (pa_cons pe_int pa_nil)))) pa_nil))) (pa_cons (pe_call (ok_l_of T) (hr.mono (by decide)) rfl T.g_l_of T.k_l_of T.bn_l_of .nil pass0 (pa_cons (pv 0) (pa_cons (pe_lst (pa_cons pe_int (pa_cons (pe_op op_powW pe_int pe_int) pa_nil))) pa_nil))) pa_nil))) (pg_tup rfl (pgs_cons (pg_name (i := 1) sc_l_right.nd rfl (Or.inr rfl)) (pgs_cons (pg_name (i := 2) sc_l_right.nd rfl (Or.inr rfl)) pgs_nil))))
      (pss_cons (ps_asg (pe_lc (own := [("_law_lap", 16)]) rfl sc_l_right.nd (pi_range1 rfl T.b_range (pa_cons pe_int pa_nil)) (blkOk_by (own := [("_law_lap", 16)]) (N := ["_law_pot_here", "_law_size", "_law_far_here", "_law_one", "_law_other", "_law_third", "_law_both", "_law_turned", "_law_left", "_law_right_here", "_law_start", "_law_piece", "_law_few", "_law_more", "_law_mine", "_law_its", "_law_lap"]) (sc := defScope s_l_right) (by decide +kernel)) (fun _ _ _ _ _ => (pg_name (i := 16) sc_l_right.nd rfl (Or.inl rfl))) (fun _ _ _ _ _ => pts_nil) (fun _ _ _ _ _ => (pe_call (ok_l_tie T) (hr.mono (by decide)) rfl T.g_l_tie T.k_l_tie T.bn_l_tie .nil pass0 (pa_cons (pe_call (ok_l_far T) (hr.mono (by decide)) rfl T.g_l_far T.k_l_far T.bn_l_far .nil pass0 (pa_cons (pe_call (ok_l_row T) (hr.mono (by decide)) rfl T.g_l_row T.k_l_row T.bn_l_row .nil pass0 (pa_cons (pv 0) (pa_cons (pv 1) pa_nil))) (pa_cons (pv 2) pa_nil))) pa_nil)))) (pg_lst rfl (pgs_cons (pg_name (i := 3) sc_l_right.nd rfl (Or.inr rfl)) (pgs_cons (pg_name (i := 4) sc_l_right.nd rfl (Or.inr rfl)) (pgs_cons (pg_name (i := 5) sc_l_right.nd rfl (Or.inr rfl)) pgs_nil)))))
      (pss_cons (ps_set (i := 6) sc_l_right.nd rfl (Or.inl rfl) (pe_lam (T := tabs Z) (t := t1 K Z) (ok_l_or_none T) (by exact g) (hr.mono (by decide)) T.bn_l_or_none rfl T.g_l_or_none T.k_l_or_none pa_nil TB rfl (tabs_mem Z) (tabs_one Z) (lamS_by (sc := defScope s_l_right) (by decide +kernel)) rfl (fun _ _ _ _ _ => rfl) (fun A outer s H E f c' hr' => (pe_op (op_binO (ok_T_rshift T) (hr'.mono (k := 8) (by decide)) T.bn_T_rshift (passes_call (takes_of rfl rfl rfl rfl) (fun _ _ _ _ h => h)) T.z_first T.a_T_rshift T.i_T_rshift) (pv 3) (pv 4)))))
      (pss_cons (ps_set (i := 7) sc_l_right.nd rfl (Or.inl rfl) (pe_lam (T := tabs Z) (t := t2 K Z) (ok_l_or_none T) (by exact g) (hr.mono (by decide)) T.bn_l_or_none rfl T.g_l_or_none T.k_l_or_none pa_nil TB rfl (tabs_mem Z) (tabs_one Z) (lamS_by (sc := defScope s_l_right) (by decide +kernel)) rfl (fun _ _ _ _ _ => rfl) (fun A outer s H E f c' hr' => (pe_op (op_binO (ok_T_rshift T) (hr'.mono (k := 8) (by decide)) T.bn_T_rshift (passes_call (takes_of rfl rfl rfl rfl) (fun _ _ _ _ h => h)) T.z_first T.a_T_rshift T.i_T_rshift) (pe_un (un_own (ok_T_invert T) (hr'.mono (k := 8) (by decide)) T.bn_T_invert pass0 T.a_T_invert T.i_T_invert) (pv 4)) (pe_un (un_own (ok_T_invert T) (hr'.mono (k := 8) (by decide)) T.bn_T_invert pass0 T.a_T_invert T.i_T_invert) (pv 3))))))
      (pss_cons (ps_if (PW.pt (pw_or (pt_cmpR op_ne (pe_cmpR op_isN (pv 6) pe_non (nomark _)) (pe_cmpR op_isN (pv 7) pe_non (nomark _)) (nomark _)) (pw_or1 (PW.pt (pw_and (pt_cmpR op_notN (pv 6) pe_non (nomark _)) (pw_and1 (pt_not (pt_cmpR (op_eqO (E := E0) (ok_T_eqB T) (hr.mono (by decide)) T.bn_T_eq pass0 T.z_notT T.a_T_eq T.i_T_eq) (pe_un (un_own (ok_T_invert T) (hr.mono (by decide)) T.bn_T_invert pass0 T.a_T_invert T.i_T_invert) (pv 6)) (pv 7) (nomark _))))))))) (pss_one (ps_ret pe_bl)) pss_nil)
      (pss_cons (ps_set (i := 8) sc_l_right.nd rfl (Or.inl rfl) (pe_lam (T := tabs Z) (t := t3 K Z) (ok_l_or_none T) (by exact g) (hr.mono (by decide)) T.bn_l_or_none rfl T.g_l_or_none T.k_l_or_none pa_nil TB rfl (tabs_mem Z) (tabs_one Z) (lamS_by (sc := defScope s_l_right) (by decide +kernel)) rfl (fun _ _ _ _ _ => rfl) (fun A outer s H E f c' hr' => (pe_op (op_binO (ok_T_rshift T) (hr'.mono (k := 8) (by decide)) T.bn_T_rshift (passes_call (takes_of rfl rfl rfl rfl) (fun _ _ _ _ h => h)) T.z_first T.a_T_rshift T.i_T_rshift) (pe_op (op_binO (ok_T_rshift T) (hr'.mono (k := 8) (by decide)) T.bn_T_rshift (passes_call (takes_of rfl rfl rfl rfl) (fun _ _ _ _ h => h)) T.z_first T.a_T_rshift T.i_T_rshift) (pv 3) (pv 4)) (pv 5)))))
      (pss_cons (ps_set (i := 9) sc_l_right.nd rfl (Or.inl rfl) (pe_lam (T := tabs Z) (t := t4 K Z) (ok_l_or_none T) (by exact g) (hr.mono (by decide)) T.bn_l_or_none rfl T.g_l_or_none T.k_l_or_none pa_nil TB rfl (tabs_mem Z) (tabs_one Z) (lamS_by (sc := defScope s_l_right) (by decide +kernel)) rfl (fun _ _ _ _ _ => rfl) (fun A outer s H E f c' hr' => (pe_op (op_binO (ok_T_rshift T) (hr'.mono (k := 8) (by decide)) T.bn_T_rshift (passes_call (takes_of rfl rfl rfl rfl) (fun _ _ _ _ h => h)) T.z_first T.a_T_rshift T.i_T_rshift) (pv 3) (pe_op (op_binO (ok_T_rshift T) (hr'.mono (k := 8) (by decide)) T.bn_T_rshift (passes_call (takes_of rfl rfl rfl rfl) (fun _ _ _ _ h => h)) T.z_first T.a_T_rshift T.i_T_rshift) (pv 4) (pv 5))))))
      (pss_cons (ps_if (PW.pt (pw_or (pt_cmpR op_ne (pe_cmpR op_isN (pv 8) pe_non (nomark _)) (pe_cmpR op_isN (pv 9) pe_non (nomark _)) (nomark _)) (pw_or1 (PW.pt (pw_and (pt_cmpR op_notN (pv 8) pe_non (nomark _)) (pw_and1 (pt_not (pt_cmpR (op_eqO (E := E0) (ok_T_eqB T) (hr.mono (by decide)) T.bn_T_eq pass0 T.z_notT T.a_T_eq T.i_T_eq) (pv 8) (pv 9) (nomark _))))))))) (pss_one (ps_ret pe_bl)) pss_nil)
      (pss_cons (ps_if (PW.pt (pw_and (pt_cmpR op_notN (pv 6) pe_non (nomark _)) (pw_and1 (PW.pt (pw_or (pt_not (pt_cmpR (op_eqO (E := E0) (ok_T_eqB T) (hr.mono (by decide)) T.bn_T_eq pass0 T.z_notT T.a_T_eq T.i_T_eq) (pe_stat (mc := .type "type") (pe_glob (v := .ref Z.cC) rfl T.g_C rfl) T.z_read T.z_sta (ok_T_of T) (hr.mono (by decide)) T.bn_T_of pass0 (pa_cons (pe_fld (pv 6) rfl) pa_nil)) (pv 6) (nomark _))) (pw_or1 (pt_not (pt_cmpR (op_eqO (E := E0) (ok_T_eqB T) (hr.mono (by decide)) T.bn_T_eq pass0 T.z_notT T.a_T_eq T.i_T_eq) (pe_meth (pv 6) T.cl ⟨T.a_T_part, T.i_T_part, T.k_T_part⟩ (ok_T_part T) (hr.mono (by decide)) T.bn_T_part .nil passF (pa_cons pe_int (pa_cons (pe_fld (pv 6) rfl) pa_nil))) (pv 6) (nomark _))))))))) (pss_one (ps_ret pe_bl)) pss_nil)
      (pss_cons (ps_if (pt_cmpR op_notN (pv 6) pe_non (nomark _)) (pss_cons (ps_set (i := 10) sc_l_right.nd rfl (Or.inl rfl) (pe_call (ok_l_take T) (hr.mono (by decide)) rfl T.g_l_take T.k_l_take T.bn_l_take .nil pass0 (pa_cons (pv 0) (pa_cons (pe_fld (pv 6) rfl) pa_nil))))
      (pss_cons (ps_set (i := 11) sc_l_right.nd rfl (Or.inl rfl) (pe_op (op_binO (ok_T_rshift T) (hr.mono (by decide)) T.bn_T_rshift passF T.z_first T.a_T_rshift T.i_T_rshift) (pe_meth (pv 3) T.cl ⟨T.a_T_part, T.i_T_part, T.k_T_part⟩ (ok_T_part T) (hr.mono (by decide)) T.bn_T_part .nil passF (pa_cons (pe_op op_sub (pe_op op_add (pe_fld (pv 6) rfl) (pv 10)) (pe_fld (pv 3) rfl)) (pa_cons pe_int pa_nil))) (pv 4)))
      (pss_one (ps_if (pt_not (pt_cmpR (op_eqO (E := E0) (ok_T_eqB T) (hr.mono (by decide)) T.bn_T_eq pass0 T.z_notT T.a_T_eq T.i_T_eq) (pv 11) (pe_meth (pv 6) T.cl ⟨T.a_T_part, T.i_T_part, T.k_T_part⟩ (ok_T_part T) (hr.mono (by decide)) T.bn_T_part .nil passF (pa_cons (pv 10) (pa_cons pe_int pa_nil))) (nomark _))) (pss_one (ps_ret pe_bl)) pss_nil)))) pss_nil)
      (pss_cons (ps_asg (pe_tup (pa_cons (pe_op op_add pe_int (pe_call (ok_l_take T) (hr.mono (by decide)) rfl T.g_l_take T.k_l_take T.bn_l_take .nil pass0 (pa_cons (pv 0) (pa_cons pe_int pa_nil)))) (pa_cons (pe_op op_add pe_int (pe_call (ok_l_take T) (hr.mono (by decide)) rfl T.g_l_take T.k_l_take T.bn_l_take .nil pass0 (pa_cons (pv 0) (pa_cons pe_int pa_nil)))) pa_nil))) (pg_tup rfl (pgs_cons (pg_name (i := 12) sc_l_right.nd rfl (Or.inr rfl)) (pgs_cons (pg_name (i := 13) sc_l_right.nd rfl (Or.inr rfl)) pgs_nil))))
      (pss_cons (ps_set (i := 14) sc_l_right.nd rfl (Or.inl rfl) (pe_lam (T := tabs Z) (t := t5 K Z) (ok_l_or_none T) (by exact g) (hr.mono (by decide)) T.bn_l_or_none rfl T.g_l_or_none T.k_l_or_none pa_nil TB rfl (tabs_mem Z) (tabs_one Z) (lamS_by (sc := defScope s_l_right) (by decide +kernel)) rfl (fun _ _ _ _ _ => rfl) (fun A outer s H E f c' hr' => (pe_op (op_binV (ok_T_mul T) (hr'.mono (k := 8) (by decide)) T.bn_T_mul (passes_call (takes_of rfl rfl rfl rfl) (fun _ _ _ _ h => h)) T.z_first T.a_T_mul T.i_T_mul T.z_noR) (pv 3) (pe_op op_add (pv 12) (pv 13))))))
      (pss_cons (ps_set (i := 15) sc_l_right.nd rfl (Or.inl rfl) (pe_lam (T := tabs Z) (t := t6 K Z) (ok_l_or_none T) (by exact g) (hr.mono (by decide)) T.bn_l_or_none rfl T.g_l_or_none T.k_l_or_none pa_nil TB rfl (tabs_mem Z) (tabs_one Z) (lamS_by (sc := defScope s_l_right) (by decide +kernel)) rfl (fun _ _ _ _ _ => rfl) (fun A outer s H E f c' hr' => (pe_op (op_binO (ok_T_rshift T) (hr'.mono (k := 8) (by decide)) T.bn_T_rshift (passes_call (takes_of rfl rfl rfl rfl) (fun _ _ _ _ h => h)) T.z_first T.a_T_rshift T.i_T_rshift) (pe_op (op_binV (ok_T_mul T) (hr'.mono (k := 8) (by decide)) T.bn_T_mul (passes_call (takes_of rfl rfl rfl rfl) (fun _ _ _ _ h => h)) T.z_first T.a_T_mul T.i_T_mul T.z_noR) (pv 3) (pv 12)) (pe_op (op_binV (ok_T_mul T) (hr'.mono (k := 8) (by decide)) T.bn_T_mul (passes_call (takes_of rfl rfl rfl rfl) (fun _ _ _ _ h => h)) T.z_first T.a_T_mul T.i_T_mul T.z_noR) (pv 3) (pv 13))))))
      (pss_cons (ps_if (PW.pt (pw_and (pt_cmpR op_notN (pv 14) pe_non (nomark _)) (pw_and1 (pt_not (pt_cmpR (op_eqO (E := E0) (ok_T_eqB T) (hr.mono (by decide)) T.bn_T_eq pass0 T.z_notT T.a_T_eq T.i_T_eq) (pv 14) (pv 15) (nomark _)))))) (pss_one (ps_ret pe_bl)) pss_nil)
      (pss_one (ps_ret (pe_and (pe_cmpR (op_eqO (E := E0) (ok_T_eqB T) (hr.mono (by decide)) T.bn_T_eq pass0 T.z_notT T.a_T_eq T.i_T_eq) (pe_un (un_own (ok_T_invert T) (hr.mono (by decide)) T.bn_T_invert pass0 T.a_T_invert T.i_T_invert) (pe_un (un_own (ok_T_invert T) (hr.mono (by decide)) T.bn_T_invert pass0 T.a_T_invert T.i_T_invert) (pv 3))) (pv 3) (nomark _)) (pe_one (pe_cmpR (op_eqO (E := E0) (ok_T_eqB T) (hr.mono (by decide)) T.bn_T_eq pass0 T.z_notT T.a_T_eq T.i_T_eq) (pe_op (op_binV (ok_T_mul T) (hr.mono (by decide)) T.bn_T_mul passF T.z_first T.a_T_mul T.i_T_mul T.z_noR) (pv 3) pe_int) (pv 3) (nomark _)))))))))))))))))))), ?_⟩
    have U1 := T.ex 1 (by decide)
    refine ⟨_, rfl, by show 3 ≤ sizeLine; decide, fun a ha => ⟨p, a, n, _, rfl, hp.new ha, by omega, upd_same, (hp.ne ha).symm, by show 0 < 3; decide, by show 3 ≤ 1000; decide, fun v n1 H1 hv hn1 hp1 k1 => ?_⟩⟩
    have kp1 : Keep p H H1 := (Keep.rfl'.new ha).trans k1
    obtain ⟨z, rfl, z0, z1⟩ : ∃ z : Int, v = .int z ∧ 1 ≤ z ∧ z ≤ 20 := by
      simp only [List.mem_cons, List.not_mem_nil, or_false] at hv
      rcases hv with rfl | rfl | rfl <;> exact ⟨_, rfl, by decide, by decide⟩
    refine ⟨_, rfl, _, _, rfl, rfl, ⟨by decide, by decide +kernel⟩, by show 2 ≤ sizeLine; decide, fun b hb => ⟨p, b, n1, _, rfl, hp1.new hb, by omega, upd_same, (hp1.ne hb).symm, by show 0 < 2; decide, by show 2 ≤ 1000; decide, fun v n2 H2 hv2 hn2 hp2 k2 => ?_⟩⟩
    have kp2 : Keep p H H2 := kp1.trans ((Keep.rfl'.new hb).trans k2)
    have e30 : (10 : Int) ^ 30 = 10 * 10 ^ 29 := by decide +kernel
    have e29 : (1000 : Int) < 10 ^ 29 := by decide +kernel
    obtain ⟨y, rfl, y0, y1⟩ : ∃ y : Int, v = .int y ∧ 0 ≤ y ∧ y ≤ 10 ^ 29 := by
      simp only [List.mem_cons, List.not_mem_nil, or_false] at hv2
      rcases hv2 with rfl | rfl
      · exact ⟨_, rfl, by decide, by decide +kernel⟩
      · exact ⟨_, rfl, by decide +kernel, by decide +kernel⟩
    refine ⟨by show 2 ≤ sizeLine; decide, fun tt htt => ⟨tt, _, rfl, SqT.of upd_same, rfl, _, _, rfl, _, _, rfl, rfl, ?_⟩⟩
    have st := Same.new (o := .tup [.int z, .int y]) (Same.refl H2) htt
    generalize upd H2 tt (.tup [.int z, .int y]) = H3 at st ⊢
    have hp3 := hp2.same st
    have kp3 := kp2.same st
    have hT3 := Tabs.keep kp3 hp hT
    -- three ties
    refine ⟨3, rfl, by decide, by decide, fun D hD => ?_⟩
    have npD : p ≠ D := hp3.ne hD
    refine lc_range (n := 3) (fun i H' => ∃ n' xs, n' ≤ n + 2 + 6 * i ∧ Pot H' p n' ∧ xs.length = i ∧ H' D = some (.lst xs) ∧ (∀ v ∈ xs, ∃ x r, v = .ref x ∧ TieAt Z.cC H' x r ∧ r.Fit 1) ∧ Keep p H3 H') ⟨n2, [], by omega, hp3.new hD, rfl, upd_same, (fun _ h => nomatch h), Keep.rfl'.new hD⟩ ?_ ?_
    · rintro j H' hj ⟨n', xs, hn', hp', lx, hD', hx, k'⟩
      refine ⟨rfl, ?_⟩
      unfold tYes
      refine iteT ?_
      refine ⟨_, rfl, _, rfl, p, n', z, rfl, hp', by omega, z0, by omega, fun r q n5 H5 ok fz sz lo hi hn5 hp5 k5 hq nq => ⟨_, rfl, q, r, y, rfl, hq, fun x1 H6 nx s6 hx1 => ⟨x1, _, rfl, hx1, ?_, fun x2 H7 nx2 s7 hx2 => ?_⟩⟩⟩
      · exact ok.far y0 (by omega) (by omega)
      · have s67 := s6.trans s7
        have hD7 := s67 _ _ (k5 _ _ npD.symm hD')
        have hp7 := hp5.same s67
        refine ⟨xs, hD7, by rw [lx]; exact Nat.lt_trans hj (by decide), n5, xs ++ [.ref x2], by omega, hp7.lst npD, by rw [List.length_append, lx]; rfl, upd_same, fun v hv => ?_, fun b o nb e => ?_⟩
        · rcases List.mem_append.mp hv with hv | hv
          · obtain ⟨x, r', e, g1, g2⟩ := hx v hv
            exact ⟨x, r', e, TieAt.lst hD7 (Same.tie s67 (TieAt.keepN hp' (KeepN.of k5) g1)), g2⟩
          · rw [List.mem_singleton] at hv
            exact ⟨x2, _, hv, TieAt.lst hD7 hx2, ok.far y0 (by omega) (by omega), by rw [Int.one_mul]; exact lo, by rw [Int.one_mul]; exact hi⟩
        · rw [upd_ne (ne_of_none e hD)]
          exact s67 _ _ (k5 _ _ nb (k' _ _ nb e))
    · rintro H4 ⟨n4, xs, hn4, hp4, lx, hD4, hx, k4⟩
      obtain ⟨v1, v2, v3, rfl⟩ : ∃ a b c, xs = [a, b, c] := by
        match xs, lx with
        | [a, b, c], _ => exact ⟨a, b, c, rfl⟩
      obtain ⟨x1, r1, rfl, a1, f1⟩ := hx v1 (by simp)
      obtain ⟨x2, r2, rfl, a2, f2⟩ := hx v2 (by simp)
      obtain ⟨x3, r3, rfl, a3, f3⟩ := hx v3 (by simp)
      refine ⟨D, _, rfl, SqL.of hD4, rfl, _, _, rfl, _, _, rfl, _, _, rfl, rfl, ?_⟩
      have S1 : S8 Z p n4 H H4 x1 x2 x3 r1 r2 r3 := ⟨hp4, KeepN.of (kp3.trans k4), Tabs.keep k4 hp3 hT3, a1, a2, a3⟩
      have bn4 : n4 ≤ n + 20 := hn4
      clear hx hD4 a1 a2 a3 hp4 k4 hn4 hD hT3 kp3 hp3 st htt kp2 k2 hp2 hv hv2 kp1 k1 hp1 hT hp ha hb npD
      have l1 := f1.ok.l0; have l2 := f2.ok.l0; have l3 := f3.ok.l0
      refine ⟨S1.hT, fun H5 c1 e5 hT5 hc5 => ⟨rfl, GJ Z H5 (jo (some r1) (some r2)), fun v6 H6 g6 => ?_, hc5, Gv.orn T (t := t1 K Z) fun E => ?g1⟩⟩
      case g1 =>
        have S := S1.ext e5 hT5
        exact Gv.jn (Gv.var (fun _ q => ⟨_, rfl, q⟩) S.a) (fun H' s => Gv.var (fun _ q => ⟨_, rfl, q⟩) (Same.tie s S.b)) (f1.one (by decide)) (f2.one (by decide))
      obtain ⟨s6, t6⟩ := g6
      have S2 := (S1.ext e5 hT5).same s6
      clear S1 e5 hT5 hc5 s6
      refine ⟨S2.hT, fun H7 c2 e7 hT7 hc7 => ⟨rfl, GJ Z H7 (jo (some r2.back) (some r1.back)), fun v7 H8 g8 => ?_, hc7, Gv.orn T (t := t2 K Z) fun E => ?g2⟩⟩
      case g2 =>
        have S := S2.ext e7 hT7
        exact Gv.jn (Gv.bk (Gv.var (fun _ q => ⟨_, rfl, q⟩) S.b) f2.ok) (fun H' s => Gv.bk (Gv.var (fun _ q => ⟨_, rfl, q⟩) (Same.tie s S.a)) f1.ok) (f2.back.one (by decide)) (f1.back.one (by decide))
      obtain ⟨s8, t7⟩ := g8
      rw [jo_back] at t7
      have t6 := (t6.keepN S2.hp (KeepN.ext e7)).same s8
      have S3 := (S2.ext e7 hT7).same s8
      clear S2 e7 hT7 hc7 s8
      have f12 : ∀ d, jo (some r1) (some r2) = some d → d.Fit 2 := fun d e => f1.join f2 (by decide) (by decide) e
      have lo12 : ∀ d, jo (some r1) (some r2) = some d → d = r1.join r2 ∧ r1.st r2 < r1.en r2 := fun d e => ⟨(jo_some e).2, (jo_some e).1⟩
      obtain ⟨o6, ho6⟩ : ∃ o, jo (some r1) (some r2) = o := ⟨_, rfl⟩
      rw [ho6] at t6 t7
      have E67 : (!decide (V.bl (decide (v6 = V.non)) = V.bl (decide (v7 = V.non)))) = false := by
        rw [t6.isNone, t7.isNone]
        cases o6 <;> rfl
      refine name_via (fun σ H' => σ = [some (.ref p), some (.int z), some (.int y), some (.ref x1), some (.ref x2), some (.ref x3), some v6, some v7, none, none, none, none, none, none, none, none, none] ∧ S8 Z p n4 H H' x1 x2 x3 r1 r2 r3 ∧ TOr Z H' v6 o6) (fun tail => ?_) ?_
      · refine ⟨_, rfl, rfl, _, rfl, rfl, rfl, _, rfl, ?_⟩
        rw [E67]
        refine iteF ⟨_, rfl, rfl, _, rfl, ?_⟩
        rw [t6.isNone]
        cases o6 with
        | none => exact iteF (iteF (tail _ _ ⟨rfl, S3, t6⟩))
        | some d =>
          refine iteT ⟨_, rfl, ?_⟩
          obtain ⟨x6, e6, a6⟩ := id t6
          obtain ⟨dx6, i6⟩ := id a6
          exact ⟨x6, dx6, _, e6, i6, x6, d, rfl, a6, (f12 d ho6).ok, fun x9 H9 nx9 s9 a9 => ⟨_, rfl, eq_ties ⟨x9, rfl, a9⟩ (t7.same s9) rfl ⟨true, rfl, iteF (tail _ _ ⟨rfl, S3.same s9, t6.same s9⟩)⟩⟩⟩
      clear S3 t6 t7 E67
      rintro σ H9 ⟨rfl, S, t6⟩
      refine ⟨S.hT, fun H10 c3 e10 hT10 hc10 => ⟨rfl, GJ Z H10 (jo (jo (some r1) (some r2)) (some r3)), fun v8 H11 g11 => ?_, hc10, Gv.orn T (t := t3 K Z) fun E => ?g3⟩⟩
      case g3 =>
        have S := S.ext e10 hT10
        exact Gv.jn (Gv.jn (Gv.var (fun _ q => ⟨_, rfl, q⟩) S.a) (fun H' s => Gv.var (fun _ q => ⟨_, rfl, q⟩) (Same.tie s S.b)) (f1.one (by decide)) (f2.one (by decide))) (fun H' s => Gv.var (fun _ q => ⟨_, rfl, q⟩) (Same.tie s S.c)) (f1.two f2 (by decide) (by decide)) (f3.one (by decide))
      obtain ⟨s11, t8⟩ := g11
      have t6 := (t6.keepN S.hp (KeepN.ext e10)).same s11
      have S := (S.ext e10 hT10).same s11
      refine ⟨S.hT, fun H12 c4 e12 hT12 hc12 => ⟨rfl, GJ Z H12 (jo (some r1) (jo (some r2) (some r3))), fun v9 H13 g13 => ?_, hc12, Gv.orn T (t := t4 K Z) fun E => ?g4⟩⟩
      case g4 =>
        have S := S.ext e12 hT12
        exact Gv.jn (Gv.var (fun _ q => ⟨_, rfl, q⟩) S.a) (fun H' s => Gv.jn (Gv.var (fun _ q => ⟨_, rfl, q⟩) (Same.tie s S.b)) (fun H'' s' => Gv.var (fun _ q => ⟨_, rfl, q⟩) (Same.tie (s.trans s') S.c)) (f2.one (by decide)) (f3.one (by decide))) (f1.one (by decide)) (f2.two f3 (by decide) (by decide))
      obtain ⟨s13, t9⟩ := g13
      have t6 := (t6.keepN S.hp (KeepN.ext e12)).same s13
      have t8 := (t8.keepN S.hp (KeepN.ext e12)).same s13
      have S := (S.ext e12 hT12).same s13
      rw [← jo_assoc l1 l2 l3] at t9
      generalize jo (jo (some r1) (some r2)) (some r3) = o8 at t8 t9
      clear s11 s13 e10 hT10 hc10 e12 hT12 hc12
      refine name_via (fun σ H' => σ = [some (.ref p), some (.int z), some (.int y), some (.ref x1), some (.ref x2), some (.ref x3), some v6, some v7, some v8, some v9, none, none, none, none, none, none, none] ∧ S8 Z p n4 H H' x1 x2 x3 r1 r2 r3 ∧ TOr Z H' v6 o6) (fun tail => ?_) ?_
      · have E89 : (!decide (V.bl (decide (v8 = V.non)) = V.bl (decide (v9 = V.non)))) = false := by
          rw [t8.isNone, t9.isNone]
          cases o8 <;> rfl
        refine ⟨_, rfl, rfl, _, rfl, rfl, rfl, _, rfl, ?_⟩
        rw [E89]
        refine iteF ⟨_, rfl, rfl, _, rfl, ?_⟩
        rw [t8.isNone]
        cases o8 with
        | none => exact iteF (iteF (tail _ _ ⟨rfl, S, t6⟩))
        | some d => exact iteT ⟨_, rfl, _, rfl, eq_ties t8 t9 rfl ⟨true, rfl, iteF (tail _ _ ⟨rfl, S, t6⟩)⟩⟩
      clear S t6 t8 t9
      rintro σ H14 ⟨rfl, S, t6⟩
      refine seq_via (fun σ H' => σ = [some (.ref p), some (.int z), some (.int y), some (.ref x1), some (.ref x2), some (.ref x3), some v6, some v7, some v8, some v9, none, none, none, none, none, none, none] ∧ S8 Z p n4 H H' x1 x2 x3 r1 r2 r3 ∧ TOr Z H' v6 o6) (fun tail => ?_) ?_
      · refine ⟨_, rfl, rfl, _, rfl, ?_⟩
        rw [t6.isNone]
        cases o6 with
        | none => exact iteF (iteF (tail _ _ ⟨rfl, S, t6⟩))
        | some d =>
          have okd := (f12 d ho6).ok
          have hb : d.b = (d.b && decide (1 < d.l)) := by
            cases h : d.b with
            | false => rfl
            | true => rw [decide_eq_true (okd.bk h)] <;> rfl
          refine iteT ⟨rfl, _, rfl, t6.fld T T.n_text (tfs_text d) ⟨d, d.b, by rw [tieText_eq]; rfl, okd, hb, fun x H15 nx s15 a15 => ⟨_, rfl, eq_ties ⟨x, rfl, a15⟩ (t6.same s15) rfl ⟨true, rfl, iteF ?_⟩⟩⟩⟩
          have t6' := t6.same s15
          obtain ⟨x6, e6, a6⟩ := id t6'
          obtain ⟨dx6, i6⟩ := id a6
          exact ⟨_, rfl, x6, dx6, _, e6, i6, tfs_part d, _, rfl, t6'.fld T T.n_length (tfs_length d) ⟨x6, d, .int 0, .int d.l, some 0, some d.l, by rw [e6]; rfl, a6, okd, .int 0, .int d.l, .inl ⟨0, d.l, rfl, rfl, Int.le_refl 0, okd.l0, by omega, fun x' H16 nx' s16 a16 => ⟨_, rfl, eq_ties ⟨x', rfl, a16⟩ (t6'.same s16) (Row.part_all okd) ⟨true, rfl, iteF (tail _ _ ⟨rfl, (S.same s15).same s16, t6'.same s16⟩)⟩⟩⟩⟩⟩
      clear S t6
      rintro σ H17 ⟨rfl, S, t6⟩
      refine seq_via (fun σ H' => ∃ n' w10 w11, n' ≤ n + 21 ∧ σ = [some (.ref p), some (.int z), some (.int y), some (.ref x1), some (.ref x2), some (.ref x3), some v6, some v7, some v8, some v9, w10, w11, none, none, none, none, none] ∧ S8 Z p n' H H' x1 x2 x3 r1 r2 r3) (fun tail => ?_) ?_
      · refine ⟨_, rfl, rfl, _, rfl, ?_⟩
        rw [t6.isNone]
        cases o6 with
        | none => exact iteF (tail _ _ ⟨n4, _, _, by omega, rfl, S⟩)
        | some d =>
          have okd := (f12 d ho6).ok
          obtain ⟨ed, cd⟩ := lo12 d ho6
          have dl : d.l = r1.en r2 - r1.st r2 := by rw [ed, join_l]
          have df : d.f = r1.f + r1.ahead r2 := by rw [ed]; rfl
          have dl30 := okd.fe
          have dl0 := okd.l0
          have df0 := okd.f0
          have e60 : (10 : Int) ^ 30 < 10 ^ 60 := by decide +kernel
          refine iteT ⟨_, rfl, _, rfl, t6.fld T T.n_length (tfs_length d) ⟨p, n4, d.l, rfl, S.hp, by omega, by omega, by omega, fun j n5 H18 j0 j1 hn5 hp5 k5 => ?_⟩⟩
          have S5 := S.keep k5 hp5
          have t6' := t6.keepN S.hp (KeepN.of k5)
          obtain ⟨i1, i2, i3, i4⟩ := part_join l1 l2 cd j0 (by omega)
          have ef : d.f + j - r1.f = r1.ahead r2 + j := by omega
          obtain ⟨dx1, g1⟩ := id S5.a
          have okp := f1.ok.part (s := r1.ahead r2 + j) (l := 1) i1 (by decide) i2
          have sm1 := f1.small (by decide)
          obtain ⟨x5, e5, a5⟩ := id t6'
          obtain ⟨dx5, i5⟩ := id a5
          refine ⟨_, rfl, x1, dx1, _, rfl, g1, tfs_part r1, ?_⟩
          refine ⟨_, rfl, x5, _, dx5, _, _, e5, i5, T.cl, T.n_first, tfs_first d, ?_⟩
          refine ⟨_, rfl, _, _, rfl, rfl, ?_⟩
          refine ⟨_, rfl, x1, _, dx1, _, _, rfl, g1, T.cl, T.n_first, tfs_first r1, _, _, rfl, rfl, ?_⟩
          refine ⟨x1, r1, _, _, some (d.f + j - r1.f), some 1, rfl, S5.a, f1.ok, .int _, .int _, .inl ⟨d.f + j - r1.f, 1, rfl, rfl, by omega, by decide, (by omega), fun x H19 nx s19 a19 => ?_⟩⟩
          rw [ef] at a19
          obtain ⟨dx, gx⟩ := id a19
          have S6 := S5.same s19
          obtain ⟨dx2, g2⟩ := id S6.b
          refine ⟨_, rfl, x, x2, rfl, rfl, ⟨_, _, gx⟩, ⟨_, _, g2⟩, x, x2, _, r2, rfl, a19, S6.b, okp, f2.ok, ⟨sm1.lo, sm1.hi⟩, f2.small (by decide), .inl ⟨i3, fun y' H20 ny s20 a20 => ⟨⟨y', rfl⟩, ?_⟩⟩⟩
          rw [i4, ← ed] at a20
          have t6'' := (t6'.same s19).same s20
          obtain ⟨x6, e6, a6⟩ := id t6''
          obtain ⟨dx6, i6⟩ := id a6
          exact ⟨_, rfl, _, rfl, x6, dx6, _, e6, i6, tfs_part d, _, rfl, x6, d, .int j, .int 1, some j, some 1, by rw [e6]; rfl, a6, okd, .int j, .int 1, .inl ⟨j, 1, rfl, rfl, j0, by decide, by omega, fun u H21 nu s21 a21 => eq_ties ⟨y', rfl, Same.tie s21 a20⟩ ⟨u, rfl, a21⟩ rfl ⟨true, rfl, iteF (tail _ _ ⟨n5, _, _, by omega, rfl, (S6.same s20).same s21⟩)⟩⟩⟩
      clear S t6
      rintro σ H22 ⟨n', w10, w11, hn', rfl, S⟩
      refine ⟨_, rfl, p, n', 4, rfl, S.hp, by omega, by decide, by decide +kernel, fun m0 n10 H23 g0 g1 hn10 hp10 k10 => ⟨_, _, rfl, rfl, _, rfl, p, n10, 4, rfl, hp10, by omega, by decide, by decide +kernel, fun m1 n11 H24 g2 g3 hn11 hp11 k11 => ⟨_, _, rfl, rfl, by show 2 ≤ sizeLine; decide, fun tt htt => ⟨tt, _, rfl, SqT.of upd_same, rfl, _, _, rfl, _, _, rfl, rfl, ?_⟩⟩⟩⟩
      have S := ((S.keep k10 hp10).keep k11 hp11).same (Same.new (o := .tup [.int (1 + m0), .int (1 + m1)]) (Same.refl H24) htt)
      generalize upd H24 tt (.tup [.int (1 + m0), .int (1 + m1)]) = H25 at S ⊢
      clear k10 k11 hp10 hp11 htt
      refine ⟨S.hT, fun H26 c5 e26 hT26 hc26 => ⟨rfl, GJ Z H26 (r1.due (1 + m0 + (1 + m1))), fun v14 H27 g27 => ?_, hc26, Gv.orn T (t := t5 K Z) fun E => ?g5⟩⟩
      case g5 =>
        have S := S.ext e26 hT26
        exact Gv.tm T (Gv.var (fun _ q => ⟨_, rfl, q⟩) S.a) (fun H' Q q => ⟨_, rfl, _, rfl, _, _, rfl, rfl, q⟩) f1 (by omega) (by omega)
      obtain ⟨s27, t14⟩ := g27
      have S := (S.ext e26 hT26).same s27
      refine ⟨S.hT, fun H28 c6 e28 hT28 hc28 => ⟨rfl, GJ Z H28 (jo (r1.due (1 + m0)) (r1.due (1 + m1))), fun v15 H29 g29 => ?_, hc28, Gv.orn T (t := TT.t6 K Z) fun E => ?g6⟩⟩
      case g6 =>
        have S := S.ext e28 hT28
        exact Gv.jn (Gv.tm T (Gv.var (fun _ q => ⟨_, rfl, q⟩) S.a) (fun H' Q q => ⟨_, rfl, q⟩) f1 (by omega) (by omega)) (fun H' s => Gv.tm T (Gv.var (fun _ q => ⟨_, rfl, q⟩) (Same.tie s S.a)) (fun H' Q q => ⟨_, rfl, q⟩) f1 (by omega) (by omega)) (f1.dues (by omega) (by omega)) (f1.dues (by omega) (by omega))
      obtain ⟨s29, t15⟩ := g29
      have t14 := (t14.keepN S.hp (KeepN.ext e28)).same s29
      have S := (S.ext e28 hT28).same s29
      obtain ⟨o14, ho14⟩ : ∃ o, r1.due (1 + m0 + (1 + m1)) = o := ⟨_, rfl⟩
      rw [ho14] at t14
      refine name_via (fun σ H' => σ = [some (.ref p), some (.int z), some (.int y), some (.ref x1), some (.ref x2), some (.ref x3), some v6, some v7, some v8, some v9, w10, w11, some (.int (1 + m0)), some (.int (1 + m1)), some v14, some v15, none] ∧ S8 Z p n11 H H' x1 x2 x3 r1 r2 r3) (fun tail => ?_) ?_
      · refine ⟨_, rfl, rfl, _, rfl, ?_⟩
        rw [t14.isNone]
        cases o14 with
        | none => exact iteF (iteF (tail _ _ ⟨rfl, S⟩))
        | some d =>
          rw [due_add (show 1 ≤ 1 + m0 by omega) (show 1 ≤ 1 + m1 by omega) f1.ok ho14] at t15
          exact iteT ⟨_, rfl, _, rfl, eq_ties t14 t15 rfl ⟨true, rfl, iteF (tail _ _ ⟨rfl, S⟩)⟩⟩
      clear S t14 t15 s27 s29 e26 e28 hT26 hT28 hc26 hc28
      rintro σ H30 ⟨rfl, S⟩
      obtain ⟨dx1, g1⟩ := id S.a
      refine ⟨_, rfl, x1, dx1, _, rfl, g1, x1, r1, rfl, S.a, f1.ok, fun x H31 nx s31 a31 => ?_⟩
      obtain ⟨dx, gx⟩ := id a31
      refine ⟨x, dx, _, rfl, gx, x, _, rfl, a31, f1.ok.back, fun x' H32 nx' s32 a32 => ?_⟩
      rw [Row.back_back] at a32
      have S := (S.same s31).same s32
      obtain ⟨dx1', g1'⟩ := id S.a
      refine ⟨_, rfl, eq_ties ⟨x', rfl, a32⟩ ⟨x1, rfl, S.a⟩ rfl ⟨true, rfl, iteT ?_⟩⟩
      refine ⟨_, rfl, x1, dx1', _, "int", rfl, g1', .int 1, right_int T, x1, r1, .int 1, rfl, S.a, f1.ok, f1.low, .inl ⟨1, rfl, by decide, by decide, .inl ⟨rfl, ⟨x1, rfl⟩, ?_⟩⟩⟩
      exact ⟨_, rfl, eq_ties ⟨x1, rfl, S.a⟩ ⟨x1, rfl, S.a⟩ rfl (k n11 H32 (by omega) S.hp S.hT S.k)⟩
end
end TT

namespace TT
open PySem PySem.Spec PyProof.Rows L2 LamX
def sp_law (K : PySem.W.Frag) (Z : Zs) : Sp := fun vs H Q _ => ∃ (a : Addr) (ns : List Int), vs = [.ref a] ∧ SqL K H a (ns.map V.int) ∧ ns.length ≤ 63 ∧ Tabs (tabs Z) H ∧ ∀ H', Q (.bl true) H'
theorem rg_item {m : Int} {i : Nat} {x : V} (h : (rgV 0 m)[i]? = some x) : ∃ z : Int, x = .int z ∧ 0 ≤ z ∧ z < m := by
  have := List.mem_of_getElem? h
  unfold rgV at this
  obtain ⟨j, hj, rfl⟩ := List.mem_map.mp this
  have := List.mem_range.mp hj
  exact ⟨0 + (j : Int), rfl, by omega, by omega⟩
section
variable {P : Program} {w : World} {K : PySem.W.Frag} {mg : Str → Option Value} {base : Heap} {Z : Zs}
theorem ok_law (T : Txt K mg Z) (TB : TabB base mg Z.c_l_right Z.t_l_right) : GOk P w K mg base CX0 16 Z.f_law Z.d_law ["_law_script"] (sp_law K Z) := by
  refine okG T.F_law sc_law (fun vs H Q E h => ?_) (fun cdv A outer s H vs Q E g hr h => ?_)
  · obtain ⟨a, ns, rfl, _⟩ := h
    rfl
  · obtain ⟨a, ns, rfl, hS, hl, hT, k⟩ := h
    refine ⟨_, (pss_cons (ps_for PassesOwn.never rfl (pi_list (pe_call (ok_l_cells T) (hr.mono (by decide)) rfl T.g_l_cells T.k_l_cells T.bn_l_cells .nil pass0 (pa_cons (pv 0) (pa_cons pe_int pa_nil)))) (pg_name (i := 1) sc_law.nd rfl (Or.inl rfl)) (pss_cons (ps_set (i := 2) sc_law.nd rfl (Or.inr rfl) (pe_call (ok_l_pot T) (hr.mono (by decide)) rfl T.g_l_pot T.k_l_pot T.bn_l_pot .nil pass0 (pa_cons (pv 0) (pa_cons (pv 1) pa_nil))))
      (pss_one (ps_if (pt_not (pt_val (pe_callB  (cr_all rfl) (by rfl) T.b_all (by decide +kernel) (pa_cons (pe_lc (own := [("_law_lap", 3)]) rfl sc_law.nd (pi_range1 rfl T.b_range (pa_cons pe_int pa_nil)) (blkOk_by (own := [("_law_lap", 3)]) (N := ["_law_script", "_law_k", "_law_pot_here", "_law_lap"]) (sc := defScope s_law) (by decide +kernel)) (fun _ _ _ _ _ => (pg_name (i := 3) sc_law.nd rfl (Or.inl rfl))) (fun _ _ _ _ _ => pts_nil) (fun _ _ _ _ _ => (pe_callG (ok_l_right T TB) (by exact g) (hr.mono (by decide)) rfl T.g_l_right T.k_l_right T.bn_l_right .nil pass0 (pa_cons (pv 2) pa_nil)))) pa_nil)))) (pss_one (ps_ret pe_bl)) pss_nil))))
      (pss_one (ps_ret pe_bl))), ?_⟩
    refine ⟨_, rfl, a, ns, 4, rfl, hS, hl, by decide, by decide, fun q m nq m1 m2 => ?_⟩
    have s0 := Same.new (o := .lst (rgV 0 m)) (Same.refl H) nq
    refine ⟨q, rfl, ⟨_, SqL.of upd_same⟩, for_list (xs := rgV 0 m) (fun _ σ H' => ∃ v1 v2, σ = [some (.ref a), v1, v2, none] ∧ ExtN (upd H q (.lst (rgV 0 m))) H' ∧ Tabs (tabs Z) H') ⟨_, _, rfl, ExtN.refl _, hT.ext s0⟩ (fun i σ H' _ ⟨_, _, _, e, _⟩ => ExtN.seq e (SqL.of upd_same)) ?_ ?_⟩
    · rintro i x σ H1 hi ⟨v1, v2, rfl, e1, hT1⟩
      obtain ⟨z, rfl, z0, z1⟩ := rg_item hi
      refine ⟨_, rfl, _, rfl, a, ns, z, rfl, ExtN.seq e1 (s0.seq hS), hl, z0, by omega, fun p H2 np s2 hp2 => ?_⟩
      refine ⟨8, rfl, by decide, by decide, fun D hD => ?_⟩
      have npD : p ≠ D := hp2.ne hD
      have hT2 := hT1.ext s2
      have sD := Same.new (o := .lst []) (Same.refl H2) hD
      refine lc_range (n := 8) (fun i H' => ∃ n', n' ≤ 40 * i ∧ Pot H' p n' ∧ H' D = some (.lst (List.replicate i (.bl true))) ∧ KeepN p H2 H' ∧ Tabs (tabs Z) H') ⟨0, Nat.le_refl _, hp2.new hD, upd_same, KeepN.of (Keep.rfl'.new hD), hT2.ext sD⟩ ?_ ?_
      · rintro j H' hj ⟨n', hn', hp', hD', kp', hT'⟩
        refine ⟨rfl, ?_⟩
        unfold tYes
        refine iteT ?_
        refine ⟨_, rfl, p, n', rfl, hp', by omega, hT', fun n2 H3 hn2 hp3 hT3 k3 => ?_⟩
        have hD3 := k3 _ _ npD.symm hD' (fun _ z => nomatch z)
        have kD : ∀ b o, b ≠ D → H3 b = some o → upd H3 D (.lst (List.replicate j (.bl true) ++ [.bl true])) b = some o := fun b o n e => by rw [upd_ne n]; exact e
        refine ⟨_, hD3, ?_, n2, by omega, ?_, ?_, fun b o nb e t => ?_, fun y hy => ?_⟩
        · rw [List.length_replicate]
          exact Nat.lt_trans hj (by decide)
        · obtain ⟨x1, x2, e1, e2⟩ := hp3
          exact ⟨x1, x2, kD _ _ npD e1, e2⟩
        · rw [← List.replicate_succ']
          exact upd_same
        · exact kD _ _ (ne_of_none e hD) (k3 _ _ nb (kp' _ _ nb e t) t)
        · obtain ⟨ps, h1, h2, h3⟩ := hT3 y hy
          refine ⟨ps, kD _ _ (ne_of h1 hD3 fun z => by cases z) h1, h2, fun pos cv hc => ?_⟩
          obtain ⟨c, g1, g2⟩ := h3 pos cv hc
          exact ⟨c, g1, kD _ _ (ne_of g2 hD3 fun z => by unfold CodeO at z; cases z) g2⟩
      · rintro H' ⟨n', hn', hp', hD', kp', hT'⟩
        refine ⟨D, List.replicate 8 true, rfl, SqL.of (by rw [List.map_replicate]; exact hD'), _, rfl, ?_⟩
        refine iteF ?_
        refine ⟨_, _, rfl, fun b o e t => ?_, hT'⟩
        have q1 := e1 _ _ e t
        exact kp' _ _ (ne_of_none q1 np) (s2 _ _ q1) t
    · rintro σ H' ⟨v1, v2, rfl, _⟩
      exact k H'
end
end TT

set_option Elab.async false
set_option linter.all false
set_option maxRecDepth 100000
set_option maxHeartbeats 8000000
namespace TT
open PySem PySem.Spec PyProof.Rows L2 LamX
theorem kit_self {K : PySem.W.Frag} {a : Addr} : PySem.W.kitOne K (.ref a) (.ref a) = some true := by
  unfold PySem.W.kitOne
  rw [if_pos (beq_iff_eq.mpr rfl)]
theorem kit_not {K : PySem.W.Frag} {T : String} {C : Addr} (h1 : PySem.W.mroIn K C (.type "object") = some true) (h2 : PySem.W.typeIn K (.ref C) = some (.type "type")) (h3 : PySem.W.subIn K (.type T) (.ref C) = some false) : PySem.W.kitOne K (.type T) (.ref C) = some false := by
  have h0 : (PySem.W.clsIn K C).isSome = true := by
    unfold PySem.W.mroIn at h1
    obtain ⟨cd, a, _⟩ := Option.bind_eq_some_iff.mp h1
    rw [a]; rfl
  have hc : PySem.W.kitCls K (.type T) (.ref C) = some false := by
    unfold PySem.W.kitCls
    simp only
    rw [if_pos (by rw [h0, h2]; rfl)]
    exact h3
  unfold PySem.W.kitOne
  have ne : ¬ ((Value.type T == Value.ref C) = true) := fun e => by
    have e2 := beq_iff_eq.mp e
    cases e2
  rw [if_neg ne]
  exact hc
theorem all_mk {l : PySem.W.OpenLaw} {q : Program} {w : World} {K : PySem.W.Frag} {h : Heap} {mg : Str → Option Value} {fa C c0 c1 c2 c3 f0 f1 f2 f3 f4 f5 f6 f7 f8 f9 f10 f11 f12 f13 f14 f15 f16 f17 f18 f19 f20 f21 f22 f23 f24 f25 f26 f27 f28 f29 f30 f31 aT7 aD7 : Addr} (X : K.In h) (G : h.Ns mainGlobals mg) (hfa : mg "law" = some (.ref fa))
    (tab : ∀ d ∈ recsOf q, ∃ a o fd c P, mg d.name = some (.ref a) ∧ h.get? a = some o ∧ o.data = .func fd ∧ fd.code = .ref c ∧ h.IsCode c P #[] ∧ h.TableAt c P #[])
    {pS : Addr} {rS : List Value} {od0 an0 od1 an1 od2 an2 od3 an3 od4 an4 od5 an5 od6 an6 od7 an7 odT7 od8 an8 od9 an9 od10 an10 od11 an11 od12 an12 od13 an13 od14 an14 od15 an15 od16 an16 od17 an17 od18 an18 od19 an19 od20 an20 od21 an21 od22 an22 od23 an23 od24 an24 od25 an25 od26 an26 od27 an27 od28 an28 od29 an29 od30 an30 od31 an31 : Option Addr} {sl0 sl1 sl2 sl3 sl4 sl5 sl6 sl7 slT7 sl8 sl9 sl10 sl11 sl12 sl13 sl14 sl15 sl16 sl17 sl18 sl19 sl20 sl21 sl22 sl23 sl24 sl25 sl26 sl27 sl28 sl29 sl30 sl31 : Array (Option Value)} {oc0 kV0 dc0 pm0 cd0 ct0 oc1 kV1 dc1 pm1 cd1 ct1 oc2 kV2 dc2 pm2 cd2 ct2 oc3 kV3 dc3 pm3 cd3 ct3 oc4 kV4 dc4 pm4 cd4 ct4 oc5 kV5 dc5 pm5 cd5 ct5 oc6 kV6 dc6 pm6 cd6 ct6 oc7 dc7 pm7 cd7 ct7 ocT7 oc8 kV8 dc8 pm8 cd8 ct8 oc9 kV9 dc9 pm9 cd9 ct9 oc10 kV10 dc10 pm10 cd10 ct10 oc11 kV11 dc11 pm11 cd11 ct11 oc12 kV12 dc12 pm12 cd12 ct12 oc13 kV13 dc13 pm13 cd13 ct13 oc14 kV14 dc14 pm14 cd14 ct14 oc15 kV15 dc15 pm15 cd15 ct15 oc16 kV16 dc16 pm16 cd16 ct16 oc17 kV17 dc17 pm17 cd17 ct17 oc18 kV18 dc18 pm18 cd18 ct18 oc19 kV19 dc19 pm19 cd19 ct19 oc20 kV20 dc20 pm20 cd20 ct20 oc21 kV21 dc21 pm21 cd21 ct21 oc22 kV22 dc22 pm22 cd22 ct22 oc23 kV23 dc23 pm23 cd23 ct23 oc24 kV24 dc24 pm24 cd24 ct24 oc25 kV25 dc25 pm25 cd25 ct25 oc26 kV26 dc26 pm26 cd26 ct26 oc27 kV27 dc27 pm27 cd27 ct27 oc28 kV28 dc28 pm28 cd28 ct28 oc29 kV29 dc29 pm29 cd29 ct29 oc30 kV30 dc30 pm30 cd30 ct30 oc31 kV31 dc31 pm31 cd31 ct31 : Value} {nT7 : Nat} {tD7_0 t_GREATEST t__DIGITS t__CHUNK : Tok}
    (aC : PySem.W.nsIn K mainGlobals "Tie" = some (some (.ref C)))
    (m_read : PySem.W.readsIn K C (.type "type") = true)
    (m_ga : PySem.W.specialIn K (.ref C) "__getattribute__" = some (some (.builtin "type.__getattribute__")))
    (m_sta : PySem.W.findCls K (.ref C) (.type "type") "of" = some (.get (.builtin "staticmethod.__get__") (.ref pS) .none (.ref C)))
    (ge0 : PySem.W.nsIn K mainGlobals "BadNumber" = some (some (.ref c0)))
    (ge1 : PySem.W.nsIn K mainGlobals "NoJoint" = some (some (.ref c1)))
    (ge2 : PySem.W.nsIn K mainGlobals "BadPart" = some (some (.ref c2)))
    (ge3 : PySem.W.nsIn K mainGlobals "TuneError" = some (some (.ref c3)))
    (hin : PySem.W.findIn K (.ref c3) "__init__" = some (some (.ref f0)))
    (i0 : PySem.W.isFn K (.ref f0) = true)
    (l0 : K.lookup f0 = some ⟨oc0, od0, .func (PySem.W.fnOf "__init__" "TuneError.__init__" (defArgs s_E_init) (defBody s_E_init) (defScope s_E_init) .none kV0 dc0 pm0 an0 cd0 ct0), sl0⟩)
    (d0 : PySem.W.codeIn K cd0 "TuneError.__init__" = true)
    (k0 : PySem.W.keepIn K (.ref f0) = true)
    (a1 : PySem.W.nsIn K mainGlobals "is_whole" = some (some (.ref f1)))
    (l1 : K.lookup f1 = some ⟨oc1, od1, .func (PySem.W.fnOf "is_whole" "is_whole" (defArgs s_is_whole) (defBody s_is_whole) (defScope s_is_whole) .none kV1 dc1 pm1 an1 cd1 ct1), sl1⟩)
    (d1 : PySem.W.codeIn K cd1 "is_whole" = true)
    (k1 : PySem.W.keepIn K (.ref f1) = true)
    (a2 : PySem.W.nsIn K mainGlobals "is_from" = some (some (.ref f2)))
    (l2 : K.lookup f2 = some ⟨oc2, od2, .func (PySem.W.fnOf "is_from" "is_from" (defArgs s_is_from) (defBody s_is_from) (defScope s_is_from) .none kV2 dc2 pm2 an2 cd2 ct2), sl2⟩)
    (d2 : PySem.W.codeIn K cd2 "is_from" = true)
    (k2 : PySem.W.keepIn K (.ref f2) = true)
    (a3 : PySem.W.nsIn K mainGlobals "is_between" = some (some (.ref f3)))
    (l3 : K.lookup f3 = some ⟨oc3, od3, .func (PySem.W.fnOf "is_between" "is_between" (defArgs s_is_between) (defBody s_is_between) (defScope s_is_between) .none kV3 dc3 pm3 an3 cd3 ct3), sl3⟩)
    (d3 : PySem.W.codeIn K cd3 "is_between" = true)
    (k3 : PySem.W.keepIn K (.ref f3) = true)
    (a4 : PySem.W.nsIn K mainGlobals "written" = some (some (.ref f4)))
    (l4 : K.lookup f4 = some ⟨oc4, od4, .func (PySem.W.fnOf "written" "written" (defArgs s_written) (defBody s_written) (defScope s_written) .none kV4 dc4 pm4 an4 cd4 ct4), sl4⟩)
    (d4 : PySem.W.codeIn K cd4 "written" = true)
    (k4 : PySem.W.keepIn K (.ref f4) = true)
    (a5 : PySem.W.nsIn K mainGlobals "number_in" = some (some (.ref f5)))
    (l5 : K.lookup f5 = some ⟨oc5, od5, .func (PySem.W.fnOf "number_in" "number_in" (defArgs s_number_in) (defBody s_number_in) (defScope s_number_in) .none kV5 dc5 pm5 an5 cd5 ct5), sl5⟩)
    (d5 : PySem.W.codeIn K cd5 "number_in" = true)
    (k5 : PySem.W.keepIn K (.ref f5) = true)
    (a6 : PySem.W.nsIn K mainGlobals "_number_of" = some (some (.ref f6)))
    (l6 : K.lookup f6 = some ⟨oc6, od6, .func (PySem.W.fnOf "_number_of" "_number_of" (defArgs s_number_of) (defBody s_number_of) (defScope s_number_of) .none kV6 dc6 pm6 an6 cd6 ct6), sl6⟩)
    (d6 : PySem.W.codeIn K cd6 "_number_of" = true)
    (k6 : PySem.W.keepIn K (.ref f6) = true)
    (a7 : PySem.W.findIn K (.ref C) "__init__" = some (some (.ref f7)))
    (i7 : PySem.W.isFn K (.ref f7) = true)
    (l7 : K.lookup f7 = some ⟨oc7, od7, .func (PySem.W.fnOf "__init__" "Tie.__init__" (defArgs s_T_init) (defBody s_T_init) (defScope s_T_init) (.ref aT7) (.ref aD7) dc7 pm7 an7 cd7 ct7), sl7⟩)
    (d7 : PySem.W.codeIn K cd7 "Tie.__init__" = true)
    (k7 : PySem.W.keepIn K (.ref f7) = true)
    (lT7 : K.lookup aT7 = some ⟨ocT7, odT7, .seq ([Value.int 0 tD7_0] : List Value).toArray nT7, slT7⟩)
    (w7_down : PySem.W.nsIn K aD7 "down" = some (some (.bool false)))
    (w7_backward : PySem.W.nsIn K aD7 "backward" = some (some (.bool false)))
    (a8 : PySem.W.recIn K pS "staticmethod" = some ((.ref f8) :: rS))
    (i8 : PySem.W.isFn K (.ref f8) = true)
    (l8 : K.lookup f8 = some ⟨oc8, od8, .func (PySem.W.fnOf "of" "Tie.of" (defArgs s_T_of) (defBody s_T_of) (defScope s_T_of) .none kV8 dc8 pm8 an8 cd8 ct8), sl8⟩)
    (d8 : PySem.W.codeIn K cd8 "Tie.of" = true)
    (k8 : PySem.W.keepIn K (.ref f8) = true)
    (a9 : PySem.W.findIn K (.ref C) "part" = some (some (.ref f9)))
    (i9 : PySem.W.isFn K (.ref f9) = true)
    (l9 : K.lookup f9 = some ⟨oc9, od9, .func (PySem.W.fnOf "part" "Tie.part" (defArgs s_T_part) (defBody s_T_part) (defScope s_T_part) .none kV9 dc9 pm9 an9 cd9 ct9), sl9⟩)
    (d9 : PySem.W.codeIn K cd9 "Tie.part" = true)
    (k9 : PySem.W.keepIn K (.ref f9) = true)
    (a10 : PySem.W.findIn K (.ref C) "__invert__" = some (some (.ref f10)))
    (i10 : PySem.W.isFn K (.ref f10) = true)
    (l10 : K.lookup f10 = some ⟨oc10, od10, .func (PySem.W.fnOf "__invert__" "Tie.__invert__" (defArgs s_T_invert) (defBody s_T_invert) (defScope s_T_invert) .none kV10 dc10 pm10 an10 cd10 ct10), sl10⟩)
    (d10 : PySem.W.codeIn K cd10 "Tie.__invert__" = true)
    (k10 : PySem.W.keepIn K (.ref f10) = true)
    (a11 : PySem.W.findIn K (.ref C) "__rshift__" = some (some (.ref f11)))
    (i11 : PySem.W.isFn K (.ref f11) = true)
    (l11 : K.lookup f11 = some ⟨oc11, od11, .func (PySem.W.fnOf "__rshift__" "Tie.__rshift__" (defArgs s_T_rshift) (defBody s_T_rshift) (defScope s_T_rshift) .none kV11 dc11 pm11 an11 cd11 ct11), sl11⟩)
    (d11 : PySem.W.codeIn K cd11 "Tie.__rshift__" = true)
    (k11 : PySem.W.keepIn K (.ref f11) = true)
    (a12 : PySem.W.findIn K (.ref C) "__mul__" = some (some (.ref f12)))
    (i12 : PySem.W.isFn K (.ref f12) = true)
    (l12 : K.lookup f12 = some ⟨oc12, od12, .func (PySem.W.fnOf "__mul__" "Tie.__mul__" (defArgs s_T_mul) (defBody s_T_mul) (defScope s_T_mul) .none kV12 dc12 pm12 an12 cd12 ct12), sl12⟩)
    (d12 : PySem.W.codeIn K cd12 "Tie.__mul__" = true)
    (k12 : PySem.W.keepIn K (.ref f12) = true)
    (a13 : PySem.W.findIn K (.ref C) "__eq__" = some (some (.ref f13)))
    (i13 : PySem.W.isFn K (.ref f13) = true)
    (l13 : K.lookup f13 = some ⟨oc13, od13, .func (PySem.W.fnOf "__eq__" "Tie.__eq__" (defArgs s_T_eq) (defBody s_T_eq) (defScope s_T_eq) .none kV13 dc13 pm13 an13 cd13 ct13), sl13⟩)
    (d13 : PySem.W.codeIn K cd13 "Tie.__eq__" = true)
    (k13 : PySem.W.keepIn K (.ref f13) = true)
    (a14 : PySem.W.nsIn K mainGlobals "_check_parts" = some (some (.ref f14)))
    (l14 : K.lookup f14 = some ⟨oc14, od14, .func (PySem.W.fnOf "_check_parts" "_check_parts" (defArgs s_check_parts) (defBody s_check_parts) (defScope s_check_parts) .none kV14 dc14 pm14 an14 cd14 ct14), sl14⟩)
    (d14 : PySem.W.codeIn K cd14 "_check_parts" = true)
    (k14 : PySem.W.keepIn K (.ref f14) = true)
    (a15 : PySem.W.nsIn K mainGlobals "_check_leading" = some (some (.ref f15)))
    (l15 : K.lookup f15 = some ⟨oc15, od15, .func (PySem.W.fnOf "_check_leading" "_check_leading" (defArgs s_check_leading) (defBody s_check_leading) (defScope s_check_leading) .none kV15 dc15 pm15 an15 cd15 ct15), sl15⟩)
    (d15 : PySem.W.codeIn K cd15 "_check_leading" = true)
    (k15 : PySem.W.keepIn K (.ref f15) = true)
    (a16 : PySem.W.nsIn K mainGlobals "_values_in" = some (some (.ref f16)))
    (l16 : K.lookup f16 = some ⟨oc16, od16, .func (PySem.W.fnOf "_values_in" "_values_in" (defArgs s_values_in) (defBody s_values_in) (defScope s_values_in) .none kV16 dc16 pm16 an16 cd16 ct16), sl16⟩)
    (d16 : PySem.W.codeIn K cd16 "_values_in" = true)
    (k16 : PySem.W.keepIn K (.ref f16) = true)
    (a17 : PySem.W.nsIn K mainGlobals "_one_behind_other" = some (some (.ref f17)))
    (l17 : K.lookup f17 = some ⟨oc17, od17, .func (PySem.W.fnOf "_one_behind_other" "_one_behind_other" (defArgs s_one_behind_other) (defBody s_one_behind_other) (defScope s_one_behind_other) .none kV17 dc17 pm17 an17 cd17 ct17), sl17⟩)
    (d17 : PySem.W.codeIn K cd17 "_one_behind_other" = true)
    (k17 : PySem.W.keepIn K (.ref f17) = true)
    (a18 : PySem.W.nsIn K mainGlobals "_straight_times" = some (some (.ref f18)))
    (l18 : K.lookup f18 = some ⟨oc18, od18, .func (PySem.W.fnOf "_straight_times" "_straight_times" (defArgs s_straight_times) (defBody s_straight_times) (defScope s_straight_times) .none kV18 dc18 pm18 an18 cd18 ct18), sl18⟩)
    (d18 : PySem.W.codeIn K cd18 "_straight_times" = true)
    (k18 : PySem.W.keepIn K (.ref f18) = true)
    (a19 : PySem.W.nsIn K mainGlobals "_backward_times" = some (some (.ref f19)))
    (l19 : K.lookup f19 = some ⟨oc19, od19, .func (PySem.W.fnOf "_backward_times" "_backward_times" (defArgs s_backward_times) (defBody s_backward_times) (defScope s_backward_times) .none kV19 dc19 pm19 an19 cd19 ct19), sl19⟩)
    (d19 : PySem.W.codeIn K cd19 "_backward_times" = true)
    (k19 : PySem.W.keepIn K (.ref f19) = true)
    (a20 : PySem.W.nsIn K mainGlobals "_times" = some (some (.ref f20)))
    (l20 : K.lookup f20 = some ⟨oc20, od20, .func (PySem.W.fnOf "_times" "_times" (defArgs s_times) (defBody s_times) (defScope s_times) .none kV20 dc20 pm20 an20 cd20 ct20), sl20⟩)
    (d20 : PySem.W.codeIn K cd20 "_times" = true)
    (k20 : PySem.W.keepIn K (.ref f20) = true)
    (a21 : PySem.W.nsIn K mainGlobals "_law_pot" = some (some (.ref f21)))
    (l21 : K.lookup f21 = some ⟨oc21, od21, .func (PySem.W.fnOf "_law_pot" "_law_pot" (defArgs s_l_pot) (defBody s_l_pot) (defScope s_l_pot) .none kV21 dc21 pm21 an21 cd21 ct21), sl21⟩)
    (d21 : PySem.W.codeIn K cd21 "_law_pot" = true)
    (k21 : PySem.W.keepIn K (.ref f21) = true)
    (a22 : PySem.W.nsIn K mainGlobals "_law_take" = some (some (.ref f22)))
    (l22 : K.lookup f22 = some ⟨oc22, od22, .func (PySem.W.fnOf "_law_take" "_law_take" (defArgs s_l_take) (defBody s_l_take) (defScope s_l_take) .none kV22 dc22 pm22 an22 cd22 ct22), sl22⟩)
    (d22 : PySem.W.codeIn K cd22 "_law_take" = true)
    (k22 : PySem.W.keepIn K (.ref f22) = true)
    (a23 : PySem.W.nsIn K mainGlobals "_law_of" = some (some (.ref f23)))
    (l23 : K.lookup f23 = some ⟨oc23, od23, .func (PySem.W.fnOf "_law_of" "_law_of" (defArgs s_l_of) (defBody s_l_of) (defScope s_l_of) .none kV23 dc23 pm23 an23 cd23 ct23), sl23⟩)
    (d23 : PySem.W.codeIn K cd23 "_law_of" = true)
    (k23 : PySem.W.keepIn K (.ref f23) = true)
    (a24 : PySem.W.nsIn K mainGlobals "_law_cells" = some (some (.ref f24)))
    (l24 : K.lookup f24 = some ⟨oc24, od24, .func (PySem.W.fnOf "_law_cells" "_law_cells" (defArgs s_l_cells) (defBody s_l_cells) (defScope s_l_cells) .none kV24 dc24 pm24 an24 cd24 ct24), sl24⟩)
    (d24 : PySem.W.codeIn K cd24 "_law_cells" = true)
    (k24 : PySem.W.keepIn K (.ref f24) = true)
    (a25 : PySem.W.nsIn K mainGlobals "_law_amount" = some (some (.ref f25)))
    (l25 : K.lookup f25 = some ⟨oc25, od25, .func (PySem.W.fnOf "_law_amount" "_law_amount" (defArgs s_l_amount) (defBody s_l_amount) (defScope s_l_amount) .none kV25 dc25 pm25 an25 cd25 ct25), sl25⟩)
    (d25 : PySem.W.codeIn K cd25 "_law_amount" = true)
    (k25 : PySem.W.keepIn K (.ref f25) = true)
    (a26 : PySem.W.nsIn K mainGlobals "_law_row" = some (some (.ref f26)))
    (l26 : K.lookup f26 = some ⟨oc26, od26, .func (PySem.W.fnOf "_law_row" "_law_row" (defArgs s_l_row) (defBody s_l_row) (defScope s_l_row) .none kV26 dc26 pm26 an26 cd26 ct26), sl26⟩)
    (d26 : PySem.W.codeIn K cd26 "_law_row" = true)
    (k26 : PySem.W.keepIn K (.ref f26) = true)
    (a27 : PySem.W.nsIn K mainGlobals "_law_far" = some (some (.ref f27)))
    (l27 : K.lookup f27 = some ⟨oc27, od27, .func (PySem.W.fnOf "_law_far" "_law_far" (defArgs s_l_far) (defBody s_l_far) (defScope s_l_far) .none kV27 dc27 pm27 an27 cd27 ct27), sl27⟩)
    (d27 : PySem.W.codeIn K cd27 "_law_far" = true)
    (k27 : PySem.W.keepIn K (.ref f27) = true)
    (a28 : PySem.W.nsIn K mainGlobals "_law_tie" = some (some (.ref f28)))
    (l28 : K.lookup f28 = some ⟨oc28, od28, .func (PySem.W.fnOf "_law_tie" "_law_tie" (defArgs s_l_tie) (defBody s_l_tie) (defScope s_l_tie) .none kV28 dc28 pm28 an28 cd28 ct28), sl28⟩)
    (d28 : PySem.W.codeIn K cd28 "_law_tie" = true)
    (k28 : PySem.W.keepIn K (.ref f28) = true)
    (a29 : PySem.W.nsIn K mainGlobals "_law_or_none" = some (some (.ref f29)))
    (l29 : K.lookup f29 = some ⟨oc29, od29, .func (PySem.W.fnOf "_law_or_none" "_law_or_none" (defArgs s_l_or_none) (defBody s_l_or_none) (defScope s_l_or_none) .none kV29 dc29 pm29 an29 cd29 ct29), sl29⟩)
    (d29 : PySem.W.codeIn K cd29 "_law_or_none" = true)
    (k29 : PySem.W.keepIn K (.ref f29) = true)
    (a30 : PySem.W.nsIn K mainGlobals "_law_right" = some (some (.ref f30)))
    (l30 : K.lookup f30 = some ⟨oc30, od30, .func (PySem.W.fnOf "_law_right" "_law_right" (defArgs s_l_right) (defBody s_l_right) (defScope s_l_right) .none kV30 dc30 pm30 an30 cd30 ct30), sl30⟩)
    (d30 : PySem.W.codeIn K cd30 "_law_right" = true)
    (k30 : PySem.W.keepIn K (.ref f30) = true)
    (a31 : PySem.W.nsIn K mainGlobals "law" = some (some (.ref f31)))
    (l31 : K.lookup f31 = some ⟨oc31, od31, .func (PySem.W.fnOf "law" "law" (defArgs s_law) (defBody s_law) (defScope s_law) .none kV31 dc31 pm31 an31 cd31 ct31), sl31⟩)
    (d31 : PySem.W.codeIn K cd31 "law" = true)
    (k31 : PySem.W.keepIn K (.ref f31) = true)
    (b_isinstance : PySem.W.nsIn K mainGlobals "isinstance" = some none)
    (b_int : PySem.W.nsIn K mainGlobals "int" = some none)
    (b_bool : PySem.W.nsIn K mainGlobals "bool" = some none)
    (b_str : PySem.W.nsIn K mainGlobals "str" = some none)
    (b_range : PySem.W.nsIn K mainGlobals "range" = some none)
    (b_len : PySem.W.nsIn K mainGlobals "len" = some none)
    (b_max : PySem.W.nsIn K mainGlobals "max" = some none)
    (b_min : PySem.W.nsIn K mainGlobals "min" = some none)
    (b_abs : PySem.W.nsIn K mainGlobals "abs" = some none)
    (b_list : PySem.W.nsIn K mainGlobals "list" = some none)
    (b_all : PySem.W.nsIn K mainGlobals "all" = some none)
    (y_GREATEST : PySem.W.nsIn K mainGlobals "GREATEST" = some (some (.int 1000000000000000000000000000000 t_GREATEST)))
    (y__DIGITS : PySem.W.nsIn K mainGlobals "_DIGITS" = some (some (.int 64 t__DIGITS)))
    (y__CHUNK : PySem.W.nsIn K mainGlobals "_CHUNK" = some (some (.int 10000000000000000000000000000000000000000000000000000000000000000 t__CHUNK)))
    (pg : PySem.W.plainGet K C Str.empty = true)
    (hd : PySem.W.hasDictIn K C = true)
    (po : PySem.W.plainOver K C = true)
    (sa : PySem.W.findIn K (.ref C) "__setattr__" = some (some (.builtin "object.__setattr__")))
    (mkc : PySem.W.makesIn K C = true)
    (kcc : PySem.W.keepIn K (.ref C) = true)
    (n_first : PySem.W.findIn K (.ref C) "first" = some none)
    (n_second : PySem.W.findIn K (.ref C) "second" = some none)
    (n_length : PySem.W.findIn K (.ref C) "length" = some none)
    (n_amount : PySem.W.findIn K (.ref C) "amount" = some none)
    (n_down : PySem.W.findIn K (.ref C) "down" = some none)
    (n_backward : PySem.W.findIn K (.ref C) "backward" = some none)
    (n_text : PySem.W.findIn K (.ref C) "text" = some none)
    (m_z_cls : PySem.W.findIn K (.ref C) "__class__" = some (some (.builtin "object.__class__")))
    (m_z_get : PySem.W.specialIn K (.builtin "object.__class__") "__get__" = some (some (.builtin "getset_descriptor.__get__")))
    (m_z_tk : PySem.W.takesIn K (.builtin "object.__class__") = some true)
    (m_z_mro : PySem.W.mroIn K C (.type "object") = some true)
    (m_z_ty : PySem.W.typeIn K (.ref C) = some (.type "type"))
    (m_z_subT : PySem.W.subIn K (.type "tuple") (.ref C) = some false)
    (m_z_notT : PySem.W.notFirst K C (.type "tuple") = true)
    (m_z_first : PySem.W.selfFirst K C = true)
    (m_z_noR : PySem.W.findIn K (.ref C) "__rmul__" = some none)
    (m_z_l_int : PySem.W.findIn K (.type "int") "__mul__" = some (some (.builtin "int.__mul__")))
    (m_z_r_int : PySem.W.findIn K (.type "int") "__rmul__" = some (some (.builtin "int.__rmul__")))
    (m_z_s_int : PySem.W.subIn K (.type "int") (.ref C) = some false)
    (b_ValueErrorX : PySem.W.nsIn K mainGlobals "ValueError" = some none)
    (zve : PySem.W.findCls K (.type "ValueError") (.type "type") "__init__" = some (.val (.builtin "ValueError.__init__")))
    (tin : PySem.W.typeIn K (.ref f0) = some (.type "function"))
    (zget : PySem.W.specialIn K (.builtin "object.__class__") "__get__" = some (some (.builtin "getset_descriptor.__get__")))
    (ztk : PySem.W.takesIn K (.builtin "object.__class__") = some true)
    (e0 : ExcF K c3 f0 c0)
    (e1 : ExcF K c3 f0 c1)
    (e2 : ExcF K c3 f0 c2)
    (e3 : ExcF K c3 f0 c3)
    (nd : ([c0, c1, c2, c3] : List Addr).Nodup)
    (hx30 : ((recsOf q).any fun d => d.name == "_law_right") = true) :
    ∃ (fd : FuncData) (cs : List (Addr × Addr)) (sp : Sp), (∀ p ∈ cs, PySem.W.CodeHd h p.1 p.2 ∧ h.get? p.2 = some tab0) ∧ (∀ (s : Shared) (u : Value), BindsTo s fd ⟨[u], []⟩ [("_law_script", u)]) ∧
        (∀ (H : Hp) (a : Addr) (ns : List Int), ns.length ≤ 63 → (∀ p ∈ cs, H p.2 = some (.tbl #[])) → SqL K H a (ns.map V.int) → sp [.ref a] H (fun v _ => v = .bl true) fun _ _ _ => False) ∧
        ∀ base : Heap, K.In base → base.Ns mainGlobals mg → (∀ p ∈ cs, TabB base mg p.1 p.2) → GOk l.prog w K mg base CX0 16 fa fd ["_law_script"] sp := by
  have e := hfa.symm.trans (PySem.W.mg_of X G a31)
  cases e
  have F0 := fun_mk (st := s_E_init) l0 d0 k0
  have F1 := fun_mk (st := s_is_whole) l1 d1 k1
  have F2 := fun_mk (st := s_is_from) l2 d2 k2
  have F3 := fun_mk (st := s_is_between) l3 d3 k3
  have F4 := fun_mk (st := s_written) l4 d4 k4
  have F5 := fun_mk (st := s_number_in) l5 d5 k5
  have F6 := fun_mk (st := s_number_of) l6 d6 k6
  have F7 : FunD K "__init__" "Tie.__init__" (defArgs s_T_init) (defBody s_T_init) (defScope s_T_init) [.int 0] [("down", .bl false), ("backward", .bl false)] f7 (PySem.W.fnOf "__init__" "Tie.__init__" (defArgs s_T_init) (defBody s_T_init) (defScope s_T_init) (.ref aT7) (.ref aD7) dc7 pm7 an7 cd7 ct7) := by
    refine ⟨⟨_, _, _, _, _, _, _, _, _, _, rfl, l7, d7, .inr ⟨by decide, aT7, _, _, _, rfl, lT7, rfl, .cons ⟨_, rfl⟩ .nil⟩, .inr ⟨aD7, rfl, fun q hq => ?_⟩⟩, k7⟩
    simp only [List.mem_cons, List.not_mem_nil, or_false] at hq
    rcases hq with rfl | rfl
    · exact ⟨_, w7_down, rfl⟩
    · exact ⟨_, w7_backward, rfl⟩
  have F8 := fun_mk (st := s_T_of) l8 d8 k8
  have F9 := fun_mk (st := s_T_part) l9 d9 k9
  have F10 := fun_mk (st := s_T_invert) l10 d10 k10
  have F11 := fun_mk (st := s_T_rshift) l11 d11 k11
  have F12 := fun_mk (st := s_T_mul) l12 d12 k12
  have F13 := fun_mk (st := s_T_eq) l13 d13 k13
  have F14 := fun_mk (st := s_check_parts) l14 d14 k14
  have F15 := fun_mk (st := s_check_leading) l15 d15 k15
  have F16 := fun_mk (st := s_values_in) l16 d16 k16
  have F17 := fun_mk (st := s_one_behind_other) l17 d17 k17
  have F18 := fun_mk (st := s_straight_times) l18 d18 k18
  have F19 := fun_mk (st := s_backward_times) l19 d19 k19
  have F20 := fun_mk (st := s_times) l20 d20 k20
  have F21 := fun_mk (st := s_l_pot) l21 d21 k21
  have F22 := fun_mk (st := s_l_take) l22 d22 k22
  have F23 := fun_mk (st := s_l_of) l23 d23 k23
  have F24 := fun_mk (st := s_l_cells) l24 d24 k24
  have F25 := fun_mk (st := s_l_amount) l25 d25 k25
  have F26 := fun_mk (st := s_l_row) l26 d26 k26
  have F27 := fun_mk (st := s_l_far) l27 d27 k27
  have F28 := fun_mk (st := s_l_tie) l28 d28 k28
  have F29 := fun_mk (st := s_l_or_none) l29 d29 k29
  obtain ⟨cc30, PT30, ecd30, hcd30, htb30⟩ := tab_at tab X hx30 (PySem.W.mg_of X G a30) l30
  have ecd30' : cd30 = .ref cc30 := ecd30
  subst ecd30'
  have F30 : FunC K "_law_right" "_law_right" s_l_right f30 (PySem.W.fnOf "_law_right" "_law_right" (defArgs s_l_right) (defBody s_l_right) (defScope s_l_right) .none kV30 dc30 pm30 an30 (.ref cc30) ct30) cc30 := ⟨⟨_, _, _, _, _, _, _, _, rfl, l30, d30⟩, k30⟩
  have F31 := fun_mk (st := s_law) l31 d31 k31
  have cs_all : ∀ i, i < 4 → ExcT K c3 f0 (([c0, c1, c2, c3] : List Addr).getD i 0) := fun i hi => match i, hi with
    | 0, _ => e0.all zget ztk
    | 1, _ => e1.all zget ztk
    | 2, _ => e2.all zget ztk
    | 3, _ => e3.all zget ztk
    | i + 4, h => absurd h (by omega)
  have T : Txt K mg { pS := pS, f_E_init := f0, d_E_init := PySem.W.fnOf "__init__" "TuneError.__init__" (defArgs s_E_init) (defBody s_E_init) (defScope s_E_init) .none kV0 dc0 pm0 an0 cd0 ct0, f_is_whole := f1, d_is_whole := PySem.W.fnOf "is_whole" "is_whole" (defArgs s_is_whole) (defBody s_is_whole) (defScope s_is_whole) .none kV1 dc1 pm1 an1 cd1 ct1, f_is_from := f2, d_is_from := PySem.W.fnOf "is_from" "is_from" (defArgs s_is_from) (defBody s_is_from) (defScope s_is_from) .none kV2 dc2 pm2 an2 cd2 ct2, f_is_between := f3, d_is_between := PySem.W.fnOf "is_between" "is_between" (defArgs s_is_between) (defBody s_is_between) (defScope s_is_between) .none kV3 dc3 pm3 an3 cd3 ct3, f_written := f4, d_written := PySem.W.fnOf "written" "written" (defArgs s_written) (defBody s_written) (defScope s_written) .none kV4 dc4 pm4 an4 cd4 ct4, f_number_in := f5, d_number_in := PySem.W.fnOf "number_in" "number_in" (defArgs s_number_in) (defBody s_number_in) (defScope s_number_in) .none kV5 dc5 pm5 an5 cd5 ct5, f_number_of := f6, d_number_of := PySem.W.fnOf "_number_of" "_number_of" (defArgs s_number_of) (defBody s_number_of) (defScope s_number_of) .none kV6 dc6 pm6 an6 cd6 ct6, f_T_init := f7, d_T_init := PySem.W.fnOf "__init__" "Tie.__init__" (defArgs s_T_init) (defBody s_T_init) (defScope s_T_init) (.ref aT7) (.ref aD7) dc7 pm7 an7 cd7 ct7, f_T_of := f8, d_T_of := PySem.W.fnOf "of" "Tie.of" (defArgs s_T_of) (defBody s_T_of) (defScope s_T_of) .none kV8 dc8 pm8 an8 cd8 ct8, f_T_part := f9, d_T_part := PySem.W.fnOf "part" "Tie.part" (defArgs s_T_part) (defBody s_T_part) (defScope s_T_part) .none kV9 dc9 pm9 an9 cd9 ct9, f_T_invert := f10, d_T_invert := PySem.W.fnOf "__invert__" "Tie.__invert__" (defArgs s_T_invert) (defBody s_T_invert) (defScope s_T_invert) .none kV10 dc10 pm10 an10 cd10 ct10, f_T_rshift := f11, d_T_rshift := PySem.W.fnOf "__rshift__" "Tie.__rshift__" (defArgs s_T_rshift) (defBody s_T_rshift) (defScope s_T_rshift) .none kV11 dc11 pm11 an11 cd11 ct11, f_T_mul := f12, d_T_mul := PySem.W.fnOf "__mul__" "Tie.__mul__" (defArgs s_T_mul) (defBody s_T_mul) (defScope s_T_mul) .none kV12 dc12 pm12 an12 cd12 ct12, f_T_eq := f13, d_T_eq := PySem.W.fnOf "__eq__" "Tie.__eq__" (defArgs s_T_eq) (defBody s_T_eq) (defScope s_T_eq) .none kV13 dc13 pm13 an13 cd13 ct13, f_check_parts := f14, d_check_parts := PySem.W.fnOf "_check_parts" "_check_parts" (defArgs s_check_parts) (defBody s_check_parts) (defScope s_check_parts) .none kV14 dc14 pm14 an14 cd14 ct14, f_check_leading := f15, d_check_leading := PySem.W.fnOf "_check_leading" "_check_leading" (defArgs s_check_leading) (defBody s_check_leading) (defScope s_check_leading) .none kV15 dc15 pm15 an15 cd15 ct15, f_values_in := f16, d_values_in := PySem.W.fnOf "_values_in" "_values_in" (defArgs s_values_in) (defBody s_values_in) (defScope s_values_in) .none kV16 dc16 pm16 an16 cd16 ct16, f_one_behind_other := f17, d_one_behind_other := PySem.W.fnOf "_one_behind_other" "_one_behind_other" (defArgs s_one_behind_other) (defBody s_one_behind_other) (defScope s_one_behind_other) .none kV17 dc17 pm17 an17 cd17 ct17, f_straight_times := f18, d_straight_times := PySem.W.fnOf "_straight_times" "_straight_times" (defArgs s_straight_times) (defBody s_straight_times) (defScope s_straight_times) .none kV18 dc18 pm18 an18 cd18 ct18, f_backward_times := f19, d_backward_times := PySem.W.fnOf "_backward_times" "_backward_times" (defArgs s_backward_times) (defBody s_backward_times) (defScope s_backward_times) .none kV19 dc19 pm19 an19 cd19 ct19, f_times := f20, d_times := PySem.W.fnOf "_times" "_times" (defArgs s_times) (defBody s_times) (defScope s_times) .none kV20 dc20 pm20 an20 cd20 ct20, f_l_pot := f21, d_l_pot := PySem.W.fnOf "_law_pot" "_law_pot" (defArgs s_l_pot) (defBody s_l_pot) (defScope s_l_pot) .none kV21 dc21 pm21 an21 cd21 ct21, f_l_take := f22, d_l_take := PySem.W.fnOf "_law_take" "_law_take" (defArgs s_l_take) (defBody s_l_take) (defScope s_l_take) .none kV22 dc22 pm22 an22 cd22 ct22, f_l_of := f23, d_l_of := PySem.W.fnOf "_law_of" "_law_of" (defArgs s_l_of) (defBody s_l_of) (defScope s_l_of) .none kV23 dc23 pm23 an23 cd23 ct23, f_l_cells := f24, d_l_cells := PySem.W.fnOf "_law_cells" "_law_cells" (defArgs s_l_cells) (defBody s_l_cells) (defScope s_l_cells) .none kV24 dc24 pm24 an24 cd24 ct24, f_l_amount := f25, d_l_amount := PySem.W.fnOf "_law_amount" "_law_amount" (defArgs s_l_amount) (defBody s_l_amount) (defScope s_l_amount) .none kV25 dc25 pm25 an25 cd25 ct25, f_l_row := f26, d_l_row := PySem.W.fnOf "_law_row" "_law_row" (defArgs s_l_row) (defBody s_l_row) (defScope s_l_row) .none kV26 dc26 pm26 an26 cd26 ct26, f_l_far := f27, d_l_far := PySem.W.fnOf "_law_far" "_law_far" (defArgs s_l_far) (defBody s_l_far) (defScope s_l_far) .none kV27 dc27 pm27 an27 cd27 ct27, f_l_tie := f28, d_l_tie := PySem.W.fnOf "_law_tie" "_law_tie" (defArgs s_l_tie) (defBody s_l_tie) (defScope s_l_tie) .none kV28 dc28 pm28 an28 cd28 ct28, f_l_or_none := f29, d_l_or_none := PySem.W.fnOf "_law_or_none" "_law_or_none" (defArgs s_l_or_none) (defBody s_l_or_none) (defScope s_l_or_none) .none kV29 dc29 pm29 an29 cd29 ct29, f_l_right := f30, d_l_right := PySem.W.fnOf "_law_right" "_law_right" (defArgs s_l_right) (defBody s_l_right) (defScope s_l_right) .none kV30 dc30 pm30 an30 (.ref cc30) ct30, c_l_right := cc30, t_l_right := PT30, f_law := fa, d_law := PySem.W.fnOf "law" "law" (defArgs s_law) (defBody s_law) (defScope s_law) .none kV31 dc31 pm31 an31 cd31 ct31, t_GREATEST := t_GREATEST, t__DIGITS := t__DIGITS, t__CHUNK := t__CHUNK, cC := C, c := fun i => ([c0, c1, c2, c3] : List Addr).getD i 0 } := { g_BadNumber := PySem.W.mg_of X G ge0, g_NoJoint := PySem.W.mg_of X G ge1, g_BadPart := PySem.W.mg_of X G ge2, g_TuneError := PySem.W.mg_of X G ge3, F_E_init := F0, bn_E_init := F0.binds (ps := ["self", "value"]) fun _ _ _ _ _ _ us hl => match us, hl with | [_, _], _ => rfl, k_E_init := k0, i_E_init := i0, F_is_whole := F1, bn_is_whole := F1.binds (ps := ["value"]) fun _ _ _ _ _ _ us hl => match us, hl with | [_], _ => rfl, k_is_whole := k1, g_is_whole := PySem.W.mg_of X G a1, F_is_from := F2, bn_is_from := F2.binds (ps := ["value", "least"]) fun _ _ _ _ _ _ us hl => match us, hl with | [_, _], _ => rfl, k_is_from := k2, g_is_from := PySem.W.mg_of X G a2, F_is_between := F3, bn_is_between := F3.binds (ps := ["value", "least", "greatest"]) fun _ _ _ _ _ _ us hl => match us, hl with | [_, _, _], _ => rfl, k_is_between := k3, g_is_between := PySem.W.mg_of X G a3, F_written := F4, bn_written := F4.binds (ps := ["number"]) fun _ _ _ _ _ _ us hl => match us, hl with | [_], _ => rfl, k_written := k4, g_written := PySem.W.mg_of X G a4, F_number_in := F5, bn_number_in := F5.binds (ps := ["word"]) fun _ _ _ _ _ _ us hl => match us, hl with | [_], _ => rfl, k_number_in := k5, g_number_in := PySem.W.mg_of X G a5, F_number_of := F6, bn_number_of := F6.binds (ps := ["digits"]) fun _ _ _ _ _ _ us hl => match us, hl with | [_], _ => rfl, k_number_of := k6, g_number_of := PySem.W.mg_of X G a6, F_T_init := F7, k_T_init := k7, i_T_init := i7, a_T_init := a7, F_T_of := F8, bn_T_of := F8.binds (ps := ["text"]) fun _ _ _ _ _ _ us hl => match us, hl with | [_], _ => rfl, k_T_of := k8, i_T_of := i8, F_T_part := F9, bn_T_part := F9.binds (ps := ["self", "start", "length"]) fun _ _ _ _ _ _ us hl => match us, hl with | [_, _, _], _ => rfl, k_T_part := k9, i_T_part := i9, a_T_part := a9, F_T_invert := F10, bn_T_invert := F10.binds (ps := ["self"]) fun _ _ _ _ _ _ us hl => match us, hl with | [_], _ => rfl, k_T_invert := k10, i_T_invert := i10, a_T_invert := a10, F_T_rshift := F11, bn_T_rshift := F11.binds (ps := ["self", "other"]) fun _ _ _ _ _ _ us hl => match us, hl with | [_, _], _ => rfl, k_T_rshift := k11, i_T_rshift := i11, a_T_rshift := a11, F_T_mul := F12, bn_T_mul := F12.binds (ps := ["self", "other"]) fun _ _ _ _ _ _ us hl => match us, hl with | [_, _], _ => rfl, k_T_mul := k12, i_T_mul := i12, a_T_mul := a12, F_T_eq := F13, bn_T_eq := F13.binds (ps := ["self", "other"]) fun _ _ _ _ _ _ us hl => match us, hl with | [_, _], _ => rfl, k_T_eq := k13, i_T_eq := i13, a_T_eq := a13, F_check_parts := F14, bn_check_parts := F14.binds (ps := ["first", "second", "length"]) fun _ _ _ _ _ _ us hl => match us, hl with | [_, _, _], _ => rfl, k_check_parts := k14, g_check_parts := PySem.W.mg_of X G a14, F_check_leading := F15, bn_check_leading := F15.binds (ps := ["amount", "down", "backward"]) fun _ _ _ _ _ _ us hl => match us, hl with | [_, _, _], _ => rfl, k_check_leading := k15, g_check_leading := PySem.W.mg_of X G a15, F_values_in := F16, bn_values_in := F16.binds (ps := ["text"]) fun _ _ _ _ _ _ us hl => match us, hl with | [_], _ => rfl, k_values_in := k16, g_values_in := PySem.W.mg_of X G a16, F_one_behind_other := F17, bn_one_behind_other := F17.binds (ps := ["one", "other"]) fun _ _ _ _ _ _ us hl => match us, hl with | [_, _], _ => rfl, k_one_behind_other := k17, g_one_behind_other := PySem.W.mg_of X G a17, F_straight_times := F18, bn_straight_times := F18.binds (ps := ["tie", "many"]) fun _ _ _ _ _ _ us hl => match us, hl with | [_, _], _ => rfl, k_straight_times := k18, g_straight_times := PySem.W.mg_of X G a18, F_backward_times := F19, bn_backward_times := F19.binds (ps := ["tie", "many"]) fun _ _ _ _ _ _ us hl => match us, hl with | [_, _], _ => rfl, k_backward_times := k19, g_backward_times := PySem.W.mg_of X G a19, F_times := F20, bn_times := F20.binds (ps := ["tie", "many", "first", "second", "length"]) fun _ _ _ _ _ _ us hl => match us, hl with | [_, _, _, _, _], _ => rfl, k_times := k20, g_times := PySem.W.mg_of X G a20, F_l_pot := F21, bn_l_pot := F21.binds (ps := ["_law_script", "_law_k"]) fun _ _ _ _ _ _ us hl => match us, hl with | [_, _], _ => rfl, k_l_pot := k21, g_l_pot := PySem.W.mg_of X G a21, F_l_take := F22, bn_l_take := F22.binds (ps := ["_law_pot_here", "_law_under"]) fun _ _ _ _ _ _ us hl => match us, hl with | [_, _], _ => rfl, k_l_take := k22, g_l_take := PySem.W.mg_of X G a22, F_l_of := F23, bn_l_of := F23.binds (ps := ["_law_pot_here", "_law_some"]) fun _ _ _ _ _ _ us hl => match us, hl with | [_, _], _ => rfl, k_l_of := k23, g_l_of := PySem.W.mg_of X G a23, F_l_cells := F24, bn_l_cells := F24.binds (ps := ["_law_script", "_law_most"]) fun _ _ _ _ _ _ us hl => match us, hl with | [_, _], _ => rfl, k_l_cells := k24, g_l_cells := PySem.W.mg_of X G a24, F_l_amount := F25, bn_l_amount := F25.binds (ps := ["_law_pot_here"]) fun _ _ _ _ _ _ us hl => match us, hl with | [_], _ => rfl, k_l_amount := k25, g_l_amount := PySem.W.mg_of X G a25, F_l_row := F26, bn_l_row := F26.binds (ps := ["_law_pot_here", "_law_size"]) fun _ _ _ _ _ _ us hl => match us, hl with | [_, _], _ => rfl, k_l_row := k26, g_l_row := PySem.W.mg_of X G a26, F_l_far := F27, bn_l_far := F27.binds (ps := ["_law_row_here", "_law_far_here"]) fun _ _ _ _ _ _ us hl => match us, hl with | [_, _], _ => rfl, k_l_far := k27, g_l_far := PySem.W.mg_of X G a27, F_l_tie := F28, bn_l_tie := F28.binds (ps := ["_law_row_here"]) fun _ _ _ _ _ _ us hl => match us, hl with | [_], _ => rfl, k_l_tie := k28, g_l_tie := PySem.W.mg_of X G a28, F_l_or_none := F29, bn_l_or_none := F29.binds (ps := ["_law_look"]) fun _ _ _ _ _ _ us hl => match us, hl with | [_], _ => rfl, k_l_or_none := k29, g_l_or_none := PySem.W.mg_of X G a29, F_l_right := F30, bn_l_right := F30.fn.binds (ps := ["_law_pot_here"]) fun _ _ _ _ _ _ us hl => match us, hl with | [_], _ => rfl, k_l_right := k30, g_l_right := PySem.W.mg_of X G a30, F_law := F31, bn_law := F31.binds (ps := ["_law_script"]) fun _ _ _ _ _ _ us hl => match us, hl with | [_], _ => rfl, k_law := k31, g_law := PySem.W.mg_of X G a31, b_isinstance := PySem.W.mg_none_of X G b_isinstance, b_int := PySem.W.mg_none_of X G b_int, b_bool := PySem.W.mg_none_of X G b_bool, b_str := PySem.W.mg_none_of X G b_str, b_range := PySem.W.mg_none_of X G b_range, b_len := PySem.W.mg_none_of X G b_len, b_max := PySem.W.mg_none_of X G b_max, b_min := PySem.W.mg_none_of X G b_min, b_abs := PySem.W.mg_none_of X G b_abs, b_list := PySem.W.mg_none_of X G b_list, b_all := PySem.W.mg_none_of X G b_all, c_GREATEST := PySem.W.mg_of X G y_GREATEST, c__DIGITS := PySem.W.mg_of X G y__DIGITS, c__CHUNK := PySem.W.mg_of X G y__CHUNK, cl := ⟨pg, hd, po, sa⟩, g_C := PySem.W.mg_of X G aC, mkC := mkc, kC := kcc, n_first := n_first, n_second := n_second, n_length := n_length, n_amount := n_amount, n_down := n_down, n_backward := n_backward, n_text := n_text, z_cls := m_z_cls, z_get := m_z_get, z_tk := m_z_tk, z_mro := m_z_mro, z_read := ⟨m_read, m_ga⟩, z_sta := ⟨m_sta, ⟨_, a8⟩, k8⟩, z_ty := m_z_ty, z_subT := m_z_subT, z_kitT := (kit_not m_z_mro m_z_ty m_z_subT), z_notT := m_z_notT, z_kit := kit_self, z_first := m_z_first, z_noR := m_z_noR, z_l_int := m_z_l_int, z_r_int := m_z_r_int, z_s_int := m_z_s_int, b_ValueError := PySem.W.mg_none_of X G b_ValueErrorX, z_ve := zve, t_E_init := tin, ex := fun i hi => cs_all i hi, nd := fun i j hi hj e => nd_at nd (by simpa using hi) (by simpa using hj) e }
  refine ⟨_, [(cc30, PT30)], sp_law K { pS := pS, f_E_init := f0, d_E_init := PySem.W.fnOf "__init__" "TuneError.__init__" (defArgs s_E_init) (defBody s_E_init) (defScope s_E_init) .none kV0 dc0 pm0 an0 cd0 ct0, f_is_whole := f1, d_is_whole := PySem.W.fnOf "is_whole" "is_whole" (defArgs s_is_whole) (defBody s_is_whole) (defScope s_is_whole) .none kV1 dc1 pm1 an1 cd1 ct1, f_is_from := f2, d_is_from := PySem.W.fnOf "is_from" "is_from" (defArgs s_is_from) (defBody s_is_from) (defScope s_is_from) .none kV2 dc2 pm2 an2 cd2 ct2, f_is_between := f3, d_is_between := PySem.W.fnOf "is_between" "is_between" (defArgs s_is_between) (defBody s_is_between) (defScope s_is_between) .none kV3 dc3 pm3 an3 cd3 ct3, f_written := f4, d_written := PySem.W.fnOf "written" "written" (defArgs s_written) (defBody s_written) (defScope s_written) .none kV4 dc4 pm4 an4 cd4 ct4, f_number_in := f5, d_number_in := PySem.W.fnOf "number_in" "number_in" (defArgs s_number_in) (defBody s_number_in) (defScope s_number_in) .none kV5 dc5 pm5 an5 cd5 ct5, f_number_of := f6, d_number_of := PySem.W.fnOf "_number_of" "_number_of" (defArgs s_number_of) (defBody s_number_of) (defScope s_number_of) .none kV6 dc6 pm6 an6 cd6 ct6, f_T_init := f7, d_T_init := PySem.W.fnOf "__init__" "Tie.__init__" (defArgs s_T_init) (defBody s_T_init) (defScope s_T_init) (.ref aT7) (.ref aD7) dc7 pm7 an7 cd7 ct7, f_T_of := f8, d_T_of := PySem.W.fnOf "of" "Tie.of" (defArgs s_T_of) (defBody s_T_of) (defScope s_T_of) .none kV8 dc8 pm8 an8 cd8 ct8, f_T_part := f9, d_T_part := PySem.W.fnOf "part" "Tie.part" (defArgs s_T_part) (defBody s_T_part) (defScope s_T_part) .none kV9 dc9 pm9 an9 cd9 ct9, f_T_invert := f10, d_T_invert := PySem.W.fnOf "__invert__" "Tie.__invert__" (defArgs s_T_invert) (defBody s_T_invert) (defScope s_T_invert) .none kV10 dc10 pm10 an10 cd10 ct10, f_T_rshift := f11, d_T_rshift := PySem.W.fnOf "__rshift__" "Tie.__rshift__" (defArgs s_T_rshift) (defBody s_T_rshift) (defScope s_T_rshift) .none kV11 dc11 pm11 an11 cd11 ct11, f_T_mul := f12, d_T_mul := PySem.W.fnOf "__mul__" "Tie.__mul__" (defArgs s_T_mul) (defBody s_T_mul) (defScope s_T_mul) .none kV12 dc12 pm12 an12 cd12 ct12, f_T_eq := f13, d_T_eq := PySem.W.fnOf "__eq__" "Tie.__eq__" (defArgs s_T_eq) (defBody s_T_eq) (defScope s_T_eq) .none kV13 dc13 pm13 an13 cd13 ct13, f_check_parts := f14, d_check_parts := PySem.W.fnOf "_check_parts" "_check_parts" (defArgs s_check_parts) (defBody s_check_parts) (defScope s_check_parts) .none kV14 dc14 pm14 an14 cd14 ct14, f_check_leading := f15, d_check_leading := PySem.W.fnOf "_check_leading" "_check_leading" (defArgs s_check_leading) (defBody s_check_leading) (defScope s_check_leading) .none kV15 dc15 pm15 an15 cd15 ct15, f_values_in := f16, d_values_in := PySem.W.fnOf "_values_in" "_values_in" (defArgs s_values_in) (defBody s_values_in) (defScope s_values_in) .none kV16 dc16 pm16 an16 cd16 ct16, f_one_behind_other := f17, d_one_behind_other := PySem.W.fnOf "_one_behind_other" "_one_behind_other" (defArgs s_one_behind_other) (defBody s_one_behind_other) (defScope s_one_behind_other) .none kV17 dc17 pm17 an17 cd17 ct17, f_straight_times := f18, d_straight_times := PySem.W.fnOf "_straight_times" "_straight_times" (defArgs s_straight_times) (defBody s_straight_times) (defScope s_straight_times) .none kV18 dc18 pm18 an18 cd18 ct18, f_backward_times := f19, d_backward_times := PySem.W.fnOf "_backward_times" "_backward_times" (defArgs s_backward_times) (defBody s_backward_times) (defScope s_backward_times) .none kV19 dc19 pm19 an19 cd19 ct19, f_times := f20, d_times := PySem.W.fnOf "_times" "_times" (defArgs s_times) (defBody s_times) (defScope s_times) .none kV20 dc20 pm20 an20 cd20 ct20, f_l_pot := f21, d_l_pot := PySem.W.fnOf "_law_pot" "_law_pot" (defArgs s_l_pot) (defBody s_l_pot) (defScope s_l_pot) .none kV21 dc21 pm21 an21 cd21 ct21, f_l_take := f22, d_l_take := PySem.W.fnOf "_law_take" "_law_take" (defArgs s_l_take) (defBody s_l_take) (defScope s_l_take) .none kV22 dc22 pm22 an22 cd22 ct22, f_l_of := f23, d_l_of := PySem.W.fnOf "_law_of" "_law_of" (defArgs s_l_of) (defBody s_l_of) (defScope s_l_of) .none kV23 dc23 pm23 an23 cd23 ct23, f_l_cells := f24, d_l_cells := PySem.W.fnOf "_law_cells" "_law_cells" (defArgs s_l_cells) (defBody s_l_cells) (defScope s_l_cells) .none kV24 dc24 pm24 an24 cd24 ct24, f_l_amount := f25, d_l_amount := PySem.W.fnOf "_law_amount" "_law_amount" (defArgs s_l_amount) (defBody s_l_amount) (defScope s_l_amount) .none kV25 dc25 pm25 an25 cd25 ct25, f_l_row := f26, d_l_row := PySem.W.fnOf "_law_row" "_law_row" (defArgs s_l_row) (defBody s_l_row) (defScope s_l_row) .none kV26 dc26 pm26 an26 cd26 ct26, f_l_far := f27, d_l_far := PySem.W.fnOf "_law_far" "_law_far" (defArgs s_l_far) (defBody s_l_far) (defScope s_l_far) .none kV27 dc27 pm27 an27 cd27 ct27, f_l_tie := f28, d_l_tie := PySem.W.fnOf "_law_tie" "_law_tie" (defArgs s_l_tie) (defBody s_l_tie) (defScope s_l_tie) .none kV28 dc28 pm28 an28 cd28 ct28, f_l_or_none := f29, d_l_or_none := PySem.W.fnOf "_law_or_none" "_law_or_none" (defArgs s_l_or_none) (defBody s_l_or_none) (defScope s_l_or_none) .none kV29 dc29 pm29 an29 cd29 ct29, f_l_right := f30, d_l_right := PySem.W.fnOf "_law_right" "_law_right" (defArgs s_l_right) (defBody s_l_right) (defScope s_l_right) .none kV30 dc30 pm30 an30 (.ref cc30) ct30, c_l_right := cc30, t_l_right := PT30, f_law := fa, d_law := PySem.W.fnOf "law" "law" (defArgs s_law) (defBody s_law) (defScope s_law) .none kV31 dc31 pm31 an31 cd31 ct31, t_GREATEST := t_GREATEST, t__DIGITS := t__DIGITS, t__CHUNK := t__CHUNK, cC := C, c := fun i => ([c0, c1, c2, c3] : List Addr).getD i 0 }, fun p hp => ?_, fun s v => .of_eq rfl, fun H a ns hl hT hS => ⟨a, ns, rfl, hS, hl, fun p hp => ?_, fun _ => rfl⟩, fun base _ _ hTB => ok_law T (hTB (cc30, PT30) (by simp))⟩
  · simp only [List.mem_cons, List.not_mem_nil, or_false] at hp
    rcases hp with rfl
    · exact ⟨hcd30, htb30⟩
  · simp only [tabs, List.mem_cons, List.not_mem_nil, or_false] at hp
    rcases hp with rfl
    · exact TabS.nil (hT (cc30, PT30) (by simp))
end TT

set_option Elab.async false
set_option linter.all false
open PySem PySem.W PyProof.Rows
set_option maxRecDepth 100000 in
set_option maxHeartbeats 0 in
theorem PySem.Challenge.cw_turnedtunes_k08_whole_algebra_of_ties_holds : PySem.Challenge.rw_turnedtunes_k08_whole_algebra_of_ties.Holds := by
  w_on; o_law; k_head; (case hw => w_witness2)
  k_fill
  refine TT.walk_gT (n := 63) (k := 16) (x := "_law_script") (l := PySem.Challenge.rw_turnedtunes_k08_whole_algebra_of_ties) rfl (by decide) rfl ⟨rfl, by decide, by decide⟩ (fun w h Y => by first | exact PySem.W.km_in_of Y | exact PySem.W.kIn_of Y) (fun w => by kernel_rfl) ?F
  case F =>
    intro w mg fa h KX G hmg tab
    refine' TT.all_mk KX G hmg tab ?zz_aC ?zz_m_read ?zz_m_ga ?zz_m_sta ?zz_ge0 ?zz_ge1 ?zz_ge2 ?zz_ge3 ?zz_hin ?zz_i0 ?zz_l0 ?zz_d0 ?zz_k0 ?zz_a1 ?zz_l1 ?zz_d1 ?zz_k1 ?zz_a2 ?zz_l2 ?zz_d2 ?zz_k2 ?zz_a3 ?zz_l3 ?zz_d3 ?zz_k3 ?zz_a4 ?zz_l4 ?zz_d4 ?zz_k4 ?zz_a5 ?zz_l5 ?zz_d5 ?zz_k5 ?zz_a6 ?zz_l6 ?zz_d6 ?zz_k6 ?zz_a7 ?zz_i7 ?zz_l7 ?zz_d7 ?zz_k7 ?zz_lT7 ?zz_w7_down ?zz_w7_backward ?zz_a8 ?zz_i8 ?zz_l8 ?zz_d8 ?zz_k8 ?zz_a9 ?zz_i9 ?zz_l9 ?zz_d9 ?zz_k9 ?zz_a10 ?zz_i10 ?zz_l10 ?zz_d10 ?zz_k10 ?zz_a11 ?zz_i11 ?zz_l11 ?zz_d11 ?zz_k11 ?zz_a12 ?zz_i12 ?zz_l12 ?zz_d12 ?zz_k12 ?zz_a13 ?zz_i13 ?zz_l13 ?zz_d13 ?zz_k13 ?zz_a14 ?zz_l14 ?zz_d14 ?zz_k14 ?zz_a15 ?zz_l15 ?zz_d15 ?zz_k15 ?zz_a16 ?zz_l16 ?zz_d16 ?zz_k16 ?zz_a17 ?zz_l17 ?zz_d17 ?zz_k17 ?zz_a18 ?zz_l18 ?zz_d18 ?zz_k18 ?zz_a19 ?zz_l19 ?zz_d19 ?zz_k19 ?zz_a20 ?zz_l20 ?zz_d20 ?zz_k20 ?zz_a21 ?zz_l21 ?zz_d21 ?zz_k21 ?zz_a22 ?zz_l22 ?zz_d22 ?zz_k22 ?zz_a23 ?zz_l23 ?zz_d23 ?zz_k23 ?zz_a24 ?zz_l24 ?zz_d24 ?zz_k24 ?zz_a25 ?zz_l25 ?zz_d25 ?zz_k25 ?zz_a26 ?zz_l26 ?zz_d26 ?zz_k26 ?zz_a27 ?zz_l27 ?zz_d27 ?zz_k27 ?zz_a28 ?zz_l28 ?zz_d28 ?zz_k28 ?zz_a29 ?zz_l29 ?zz_d29 ?zz_k29 ?zz_a30 ?zz_l30 ?zz_d30 ?zz_k30 ?zz_a31 ?zz_l31 ?zz_d31 ?zz_k31 ?zz_b_isinstance ?zz_b_int ?zz_b_bool ?zz_b_str ?zz_b_range ?zz_b_len ?zz_b_max ?zz_b_min ?zz_b_abs ?zz_b_list ?zz_b_all ?zz_y_GREATEST ?zz_y__DIGITS ?zz_y__CHUNK ?zz_pg ?zz_hd ?zz_po ?zz_sa ?zz_mkc ?zz_kcc ?zz_n_first ?zz_n_second ?zz_n_length ?zz_n_amount ?zz_n_down ?zz_n_backward ?zz_n_text ?zz_m_z_cls ?zz_m_z_get ?zz_m_z_tk ?zz_m_z_mro ?zz_m_z_ty ?zz_m_z_subT ?zz_m_z_notT ?zz_m_z_first ?zz_m_z_noR ?zz_m_z_l_int ?zz_m_z_r_int ?zz_m_z_s_int ?zz_b_ValueErrorX ?zz_zve ?zz_tin ?zz_zget ?zz_ztk ?zz_e0 ?zz_e1 ?zz_e2 ?zz_e3 ?zz_nd ?zz_hx30
    (case zz_aC => k_is)
    (case zz_m_read => k_is)
    (case zz_m_ga => k_is)
    (case zz_m_sta => k_is)
    (case zz_ge0 => k_is)
    (case zz_ge1 => k_is)
    (case zz_ge2 => k_is)
    (case zz_ge3 => k_is)
    (case zz_hin => k_is)
    (case zz_i0 => k_is)
    (case zz_l0 => k_is)
    (case zz_d0 => k_is)
    (case zz_k0 => k_is)
    (case zz_a1 => k_is)
    (case zz_l1 => k_is)
    (case zz_d1 => k_is)
    (case zz_k1 => k_is)
    (case zz_a2 => k_is)
    (case zz_l2 => k_is)
    (case zz_d2 => k_is)
    (case zz_k2 => k_is)
    (case zz_a3 => k_is)
    (case zz_l3 => k_is)
    (case zz_d3 => k_is)
    (case zz_k3 => k_is)
    (case zz_a4 => k_is)
    (case zz_l4 => k_is)
    (case zz_d4 => k_is)
    (case zz_k4 => k_is)
    (case zz_a5 => k_is)
    (case zz_l5 => k_is)
    (case zz_d5 => k_is)
    (case zz_k5 => k_is)
    (case zz_a6 => k_is)
    (case zz_l6 => k_is)
    (case zz_d6 => k_is)
    (case zz_k6 => k_is)
    (case zz_a7 => k_is)
    (case zz_i7 => k_is)
    (case zz_l7 => k_is)
    (case zz_d7 => k_is)
    (case zz_k7 => k_is)
    (case zz_lT7 => k_is)
    (case zz_w7_down => k_is)
    (case zz_w7_backward => k_is)
    (case zz_a8 => k_is)
    (case zz_i8 => k_is)
    (case zz_l8 => k_is)
    (case zz_d8 => k_is)
    (case zz_k8 => k_is)
    (case zz_a9 => k_is)
    (case zz_i9 => k_is)
    (case zz_l9 => k_is)
    (case zz_d9 => k_is)
    (case zz_k9 => k_is)
    (case zz_a10 => k_is)
    (case zz_i10 => k_is)
    (case zz_l10 => k_is)
    (case zz_d10 => k_is)
    (case zz_k10 => k_is)
    (case zz_a11 => k_is)
    (case zz_i11 => k_is)
    (case zz_l11 => k_is)
    (case zz_d11 => k_is)
    (case zz_k11 => k_is)
    (case zz_a12 => k_is)
    (case zz_i12 => k_is)
    (case zz_l12 => k_is)
    (case zz_d12 => k_is)
    (case zz_k12 => k_is)
    (case zz_a13 => k_is)
    (case zz_i13 => k_is)
    (case zz_l13 => k_is)
    (case zz_d13 => k_is)
    (case zz_k13 => k_is)
    (case zz_a14 => k_is)
    (case zz_l14 => k_is)
    (case zz_d14 => k_is)
    (case zz_k14 => k_is)
    (case zz_a15 => k_is)
    (case zz_l15 => k_is)
    (case zz_d15 => k_is)
    (case zz_k15 => k_is)
    (case zz_a16 => k_is)
    (case zz_l16 => k_is)
    (case zz_d16 => k_is)
    (case zz_k16 => k_is)
    (case zz_a17 => k_is)
    (case zz_l17 => k_is)
    (case zz_d17 => k_is)
    (case zz_k17 => k_is)
    (case zz_a18 => k_is)
    (case zz_l18 => k_is)
    (case zz_d18 => k_is)
    (case zz_k18 => k_is)
    (case zz_a19 => k_is)
    (case zz_l19 => k_is)
    (case zz_d19 => k_is)
    (case zz_k19 => k_is)
    (case zz_a20 => k_is)
    (case zz_l20 => k_is)
    (case zz_d20 => k_is)
    (case zz_k20 => k_is)
    (case zz_a21 => k_is)
    (case zz_l21 => k_is)
    (case zz_d21 => k_is)
    (case zz_k21 => k_is)
    (case zz_a22 => k_is)
    (case zz_l22 => k_is)
    (case zz_d22 => k_is)
    (case zz_k22 => k_is)
    (case zz_a23 => k_is)
    (case zz_l23 => k_is)
    (case zz_d23 => k_is)
    (case zz_k23 => k_is)
    (case zz_a24 => k_is)
    (case zz_l24 => k_is)
    (case zz_d24 => k_is)
    (case zz_k24 => k_is)
    (case zz_a25 => k_is)
    (case zz_l25 => k_is)
    (case zz_d25 => k_is)
    (case zz_k25 => k_is)
    (case zz_a26 => k_is)
    (case zz_l26 => k_is)
    (case zz_d26 => k_is)
    (case zz_k26 => k_is)
    (case zz_a27 => k_is)
    (case zz_l27 => k_is)
    (case zz_d27 => k_is)
    (case zz_k27 => k_is)
    (case zz_a28 => k_is)
    (case zz_l28 => k_is)
    (case zz_d28 => k_is)
    (case zz_k28 => k_is)
    (case zz_a29 => k_is)
    (case zz_l29 => k_is)
    (case zz_d29 => k_is)
    (case zz_k29 => k_is)
    (case zz_a30 => k_is)
    (case zz_l30 => k_is)
    (case zz_d30 => k_is)
    (case zz_k30 => k_is)
    (case zz_a31 => k_is)
    (case zz_l31 => k_is)
    (case zz_d31 => k_is)
    (case zz_k31 => k_is)
    (case zz_b_isinstance => k_is)
    (case zz_b_int => k_is)
    (case zz_b_bool => k_is)
    (case zz_b_str => k_is)
    (case zz_b_range => k_is)
    (case zz_b_len => k_is)
    (case zz_b_max => k_is)
    (case zz_b_min => k_is)
    (case zz_b_abs => k_is)
    (case zz_b_list => k_is)
    (case zz_b_all => k_is)
    (case zz_y_GREATEST => k_is)
    (case zz_y__DIGITS => k_is)
    (case zz_y__CHUNK => k_is)
    (case zz_pg => k_is)
    (case zz_hd => k_is)
    (case zz_po => k_is)
    (case zz_sa => k_is)
    (case zz_mkc => k_is)
    (case zz_kcc => k_is)
    (case zz_n_first => k_is)
    (case zz_n_second => k_is)
    (case zz_n_length => k_is)
    (case zz_n_amount => k_is)
    (case zz_n_down => k_is)
    (case zz_n_backward => k_is)
    (case zz_n_text => k_is)
    (case zz_m_z_cls => k_is)
    (case zz_m_z_get => k_is)
    (case zz_m_z_tk => k_is)
    (case zz_m_z_mro => k_is)
    (case zz_m_z_ty => k_is)
    (case zz_m_z_subT => k_is)
    (case zz_m_z_notT => k_is)
    (case zz_m_z_first => k_is)
    (case zz_m_z_noR => k_is)
    (case zz_m_z_l_int => k_is)
    (case zz_m_z_r_int => k_is)
    (case zz_m_z_s_int => k_is)
    (case zz_b_ValueErrorX => k_is)
    (case zz_zve => k_is)
    (case zz_tin => k_is)
    (case zz_zget => k_is)
    (case zz_ztk => k_is)
    (case zz_e0 => (refine' TT.excF_mk ?zx0_xL rfl ?zx0_sa ?zx0_tyC ?zx0_kC ?zx0_ga ?zx0_gg ?zx0_ha ?zx0_ini ?zx0_nv; (case zx0_xL => k_is); (case zx0_sa => k_is); (case zx0_tyC => k_is); (case zx0_kC => k_is); (case zx0_ga => k_is); (case zx0_gg => k_is); (case zx0_ha => k_is); (case zx0_ini => k_is); (case zx0_nv => k_is)))
    (case zz_e1 => (refine' TT.excF_mk ?zx1_xL rfl ?zx1_sa ?zx1_tyC ?zx1_kC ?zx1_ga ?zx1_gg ?zx1_ha ?zx1_ini ?zx1_nv; (case zx1_xL => k_is); (case zx1_sa => k_is); (case zx1_tyC => k_is); (case zx1_kC => k_is); (case zx1_ga => k_is); (case zx1_gg => k_is); (case zx1_ha => k_is); (case zx1_ini => k_is); (case zx1_nv => k_is)))
    (case zz_e2 => (refine' TT.excF_mk ?zx2_xL rfl ?zx2_sa ?zx2_tyC ?zx2_kC ?zx2_ga ?zx2_gg ?zx2_ha ?zx2_ini ?zx2_nv; (case zx2_xL => k_is); (case zx2_sa => k_is); (case zx2_tyC => k_is); (case zx2_kC => k_is); (case zx2_ga => k_is); (case zx2_gg => k_is); (case zx2_ha => k_is); (case zx2_ini => k_is); (case zx2_nv => k_is)))
    (case zz_e3 => (refine' TT.excF_mk ?zx3_xL rfl ?zx3_sa ?zx3_tyC ?zx3_kC ?zx3_ga ?zx3_gg ?zx3_ha ?zx3_ini ?zx3_nv; (case zx3_xL => k_is); (case zx3_sa => k_is); (case zx3_tyC => k_is); (case zx3_kC => k_is); (case zx3_ga => k_is); (case zx3_gg => k_is); (case zx3_ha => k_is); (case zx3_ini => k_is); (case zx3_nv => k_is)))
    (case zz_nd => decide +kernel)
    (case zz_hx30 => kernel_rfl)
#print axioms PySem.Challenge.cw_turnedtunes_k08_whole_algebra_of_ties_holds
