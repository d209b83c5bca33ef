import PyProof.Rows.All
import Wide.All
import OpenK.AllK
import Wide.FinOn
import HandS.ForMost
import HandS.ForExc
import HandS.EndBits
import PyProof.ReprRoads
import HandS.IsInst
import HandS.ExcInit
import KE.KExcMake
import KE.KExcIs
import KE.KTryMore
import HandS.SetFor
import HandS.Codes
import HandS.Conv
import PyProof.ReprLen
import HandS.ExcField
import HandS.ExcIs
import HandS.Walk
import PySem.Challenge.RW_plansamid_k99_each_refusal_of_its_class

section
set_option Elab.async false
set_option linter.all false
set_option maxRecDepth 100000
set_option maxHeartbeats 4000000
/-! A def's promise where no text of a container is being put together around it (so that repr is served). -/
namespace Gd
open PySem PySem.Spec PyProof.Rows L2

/-- no container is amid its own text -/
def Free (A : Around) : Prop := A.guards = some []

structure FnG (P : Program) (w : World) (K : PySem.W.Frag) (mg : Str → Option Value)
    (base : Heap) (cx : CXT) (n : Nat) (f : Addr) (fd : FuncData) (ps : List Str) (sp : Sp) : Prop where
  len : ∀ vs H Q E, sp vs H Q E → vs.length = ps.length
  run : ∀ (A : Around) (out : List Env) (s : Shared) (H : Hp) (args : Args) (us : List Value)
      (vs : List V) (Q : VK) (E : XK), Free A → Room n A → Env0 P w K mg base A out s H →
      BindsTo s fd args (ps.zip us) → Vals vs us → sp vs H Q E →
      codeAny (model P w) A (.call (.ref f) args) (CR cx out P w H s Q E) s

section
variable {P : Program} {w : World} {K : PySem.W.Frag} {mg : Str → Option Value} {base : Heap} {cx : CXT}
theorem FnG.ofOk {n : Nat} {f : Addr} {fd : FuncData} {ps : List Str} {sp : Sp}
    (F : FnOk P w K mg base cx n f fd ps sp) : FnG P w K mg base cx n f fd ps sp :=
  ⟨F.len, fun A out s H args us vs Q E _ => F.run A out s H args us vs Q E⟩
theorem FnG.mono {m n : Nat} {f : Addr} {fd : FuncData} {ps : List Str} {sp : Sp}
    (F : FnG P w K mg base cx m f fd ps sp) (h : m ≤ n) : FnG P w K mg base cx n f fd ps sp :=
  ⟨F.len, fun A out s H args us vs Q E g r => F.run A out s H args us vs Q E g (r.mono h)⟩
end

section
variable {X : Cx} {cx : CXT} {n : Nat} {f : Addr} {fd : FuncData} {ps : List Str} {sp : Sp}
  {dvs : List V} {ds : List Value} {E : XK} {x : Str} {p pos : Pos} {e : Expr} {es : List Expr} {t : TA}

theorem run_g {pins : List (Addr × Obj)} {σ : L2.St} {H : Hp} {s : Shared} {Q : VK} {us : List Value} {vs : List V}
    (F : FnG X.prog X.w X.K X.mg X.base cx n f fd ps sp) (g : Free X.A) (hr : Room n X.A)
    (hb : Binds X.K fd ps ds) (hd : Vals dvs ds) (hx : Passes cx X E)
    (I : Inv X pins σ H s) (r : Vals vs us) (h : sp (vs ++ dvs) H Q E) :
    wpAny (model X.prog X.w) X.A (call (.ref f) us) (EP X pins σ Q) X.xe s := by
  have rr : Vals (vs ++ dvs) (us ++ ds) := r.append hd
  have hl : (us ++ ds).length = ps.length := (Paired.length rr).symm.trans (F.len _ _ _ _ h)
  have all := F.run X.A X.stack s H ⟨us, []⟩ (us ++ ds) (vs ++ dvs) Q E g hr I.env0 (hb s us I.kIn hl) rr h
  refine wpAny_call (codeAny_mono all ?_)
  intro o s' z
  cases o with
  | error er => exact hx pins σ H s er s' I z
  | ok fl =>
    cases fl with
    | ret u => exact I.after z
    | _ => exact False.elim z

theorem pe_callG (F : FnG X.prog X.w X.K X.mg X.base cx n f fd ps sp) (g : Free X.A) (hr : Room n X.A)
    (hg : Gl X x) (hm : X.mg x = some (.ref f)) (hk : PySem.W.keepIn X.K (.ref f) = true)
    (hb : Binds X.K fd ps ds) (hd : Vals dvs ds) (hx : Passes cx X E) (ha : PA X (e :: es) t)
    (hdb : (x == ("__debug__" : Str)) = false := by decide)
    (he : starEach (e :: es) X.env = (false, eval e X.env) :: starEach es X.env := by rfl)
    (hpl : (backTo pos (starEach es X.env)).any (·.1) = false := by rfl) :
    PE X (.Call (.Name x p) (e :: es) [] pos) (tCall sp dvs E t) := by
  constructor
  intro pins s σ H Q I h
  refine wpAny_Call_Name_kw (ld_glob I hg hm ?_ hdb)
  have args := ha.run pos pins s σ H _ I h
  refine PySem.W.callWith_K (h₀ := X.base) I.ok.mod.kin hk (thn args ?_) he hpl
  rintro us s1 ⟨vs, H1, J, r, q⟩
  exact ⟨J.kIn, run_g F g hr hb hd hx J r q⟩
end

/-! ### by the body -/
section
variable {P : Program} {w : World} {K : PySem.W.Frag} {mg : Str → Option Value} {base : Heap}
theorem FnG.body {cx : CXT} {n : Nat} {f : Addr} {nm ql : Str} {pr : Arguments} {bd : List Stmt} {sc : Scope}
    {dV kV dc pm cv ct oc : Value} {an od : Option Addr} {sl : Array (Option Value)} {N ps : List Str} {sp : Sp}
    (lk : K.lookup f = some ⟨oc, od, .func (PySem.W.fnOf nm ql pr bd sc dV kV dc pm an cv ct), sl⟩)
    (hc : PySem.W.codeIn K cv ql = true) (S : FnScope N ps sc) (len : ∀ vs H Q E, sp vs H Q E → vs.length = ps.length)
    (hb : ∀ (A : Around) (out : List Env) (s : Shared) (H : Hp) (vs : List V) (Q : VK) (E : XK),
      Free (A.deeper (envOfC ql sc s.heap.objs.size f cv)) → Room n (A.deeper (envOfC ql sc s.heap.objs.size f cv)) →
      sp vs H Q E → ∃ t, PSs (cxOf cx P w K mg base N ql sc f cv A out s H E) bd t ∧
        t { nx := fun _ H' => Q .non H', rt := Q } (start N vs) H) :
    FnG P w K mg base cx (n + 1) f (PySem.W.fnOf nm ql pr bd sc dV kV dc pm an cv ct) ps sp := by
  refine ⟨len, ?_⟩
  intro A out s H args us vs Q E g hr e0 hbd r hsp
  have hl := len _ _ _ _ hsp
  have KX : K.In s.heap := e0.mod.kin.keeps fun b o e => (e0.bs b o e).1
  have lim : s.heap.NoLimit := e0.mod.nolimit.keeps fun b o e => (e0.bs b o e).1
  have kinds : ∀ y ∈ ps.zip us, sc.names.lookup y.1 = some .local ∨
      (sc.names.lookup y.1 = some .cell ∧
        ((cellsFrom (s.heap.objs.size + 1) sc.names []).lookup y.1).isSome = true) := by
    rintro ⟨y, v⟩ hy
    rcases S.par y (List.of_mem_zip hy).1 with q | q
    · left; exact q
    · right; exact ⟨q, PySem.W.cellsFrom_some _ _ _ (.inl q)⟩
  have code := PySem.W.codeRec_of KX hc
  refine codeAny_call_function hr.depth (KX _ _ lk) rfl S.co S.gen rfl code (hbd _ _ _ _ ?_)
  refine wpAny_newFunctionEnv_cells S.kind kinds ?_
  intro env he s1 x
  subst he
  refine ⟨lim.keeps x.toInCall.keep, codeAny_func ?_⟩
  obtain ⟨t, ht, hq⟩ := hb A out s H vs Q E g (hr.deeper _) hsp
  have I := inv_start (CX := cx) (P := P) (w := w) (E := E) S hr.hd e0 hl r x
  refine wpAny_mono (ht.run [] s1 (start N vs) H _ I hq) ?_ fun er s' z => z
  intro fl s' z
  cases fl with
  | ret u =>
    obtain ⟨v, σ', H', J, rv, q⟩ := z
    exact ⟨v, H', J.os, J.bare, J.base, J.hok, rv, q⟩
  | next =>
    obtain ⟨σ', H', J, q⟩ := z
    exact ⟨V.non, H', J.os, J.bare, J.base, J.hok, rfl, q⟩
  | brk =>
    obtain ⟨_, _, _, q⟩ := z
    exact q.elim
  | cont =>
    obtain ⟨_, _, _, q⟩ := z
    exact q.elim

theorem okG {x ql : Str} {st : Stmt} {f : Addr} {fd : FuncData} {N ps : List Str} {n : Nat} {sp : Sp}
    (F : Fun K x ql st f fd) (S : FnScope N ps (defScope st)) (len : ∀ vs H Q E, sp vs H Q E → vs.length = ps.length)
    (hb : ∀ (cv : Value) (A : Around) (out : List Env) (s : Shared) (H : Hp) (vs : List V) (Q : VK) (E : XK),
      Free (A.deeper (envOfC ql (defScope st) s.heap.objs.size f cv)) →
      Room n (A.deeper (envOfC ql (defScope st) s.heap.objs.size f cv)) → sp vs H Q E →
      ∃ t, PSs (cxOf CX0 P w K mg base N ql (defScope st) f cv A out s H E).nox (defBody st) t ∧
        t { nx := fun _ H' => Q .non H', rt := Q } (start N vs) H) :
    FnG P w K mg base CX0 (n + 1) f fd ps sp := by
  obtain ⟨oc, od, kV, dc, pm, an, cv, ct, sl, rfl, lk, hc⟩ := F.ex
  refine FnG.body lk hc S len ?_
  intro A out s H vs Q E g hr hsp
  obtain ⟨t, h, q⟩ := hb cv A out s H vs Q E g hr hsp
  exact ⟨t, h.nox, q⟩
end
end Gd
end

section
set_option Elab.async false
set_option linter.all false
set_option maxRecDepth 100000
set_option maxHeartbeats 4000000
/-! The end of a law's row from a promise of Gd.FnG. -/
namespace Gd
open PySem PySem.Spec PyProof.Rows L2

/-- what is wanted of the law's own call -/
def Yes (s1 : Shared) (r : Result) (s' : Shared) : Prop :=
  r = .ok (.ret (.bool true)) ∧ OldK s1.heap s'.heap ∧ s'.os = s1.os ∧ AllBare s'.gens

section
variable {P : Program} {w : World} {K : PySem.W.Frag} {mg mb : Str → Option Value} {cx : CXT} {n : Nat}
  {fa a : Addr} {fd : FuncData} {x : Str} {sp : Sp} {s1 : Shared} {vs : List Value} {ns : List Int}

theorem begun (H : Hp) (only : Only H) (hS : SqL K H a (ns.map V.int)) (hok : HOk P w H s1.heap)
    (at_a : ∀ b, H b ≠ none → b = a) (noK : H a ≠ none → K.lookup a = none)
    (KX : K.In s1.heap) (hns : s1.heap.Ns mainGlobals mg) (hb : s1.heap.Ns builtinsNs mb)
    (hbb : ∀ y : Str, y ≠ "__name__" → mb y = bootBuiltins y) (hlim : s1.heap.NoLimit) (hg : s1.gens = #[])
    (ha : s1.heap.get? a = some { cls := .type "list", data := .seq vs.toArray }) (hr : Room n callerA)
    (F : ∀ base : Heap, K.In base → base.Ns mainGlobals mg → FnG P w K mg base cx n fa fd [x] sp)
    (hbind : ∀ (s : Shared) (u : Value), BindsTo s fd ⟨[u], []⟩ [(x, u)])
    (hsp : sp [.ref a] H (fun v _ => v = .bl true) fun _ _ _ => False)
    (hCX : ∀ e s', cx [] H s1 (fun _ _ _ => False) e s' → False) :
    codeAny (model P w) callerA (.call (.ref fa) ⟨[.ref a], []⟩) (Yes s1) s1 := by
  -- the base: what isn't tracked
  let B := hidT s1.heap H
  have toB : ∀ {b : Addr} {o : Obj}, s1.heap.get? b = some o → H b = none → B.get? b = some o :=
    fun e z => hidT_get e z
  have notDict : ∀ {b : Addr} {o : Obj} {es : Array DictEntry} {m : Nat},
      s1.heap.get? b = some o → o.data = .dict es m → H b = none := by
    intro b o es m e d
    cases q : H b with
    | none => rfl
    | some u =>
      exfalso
      have eb : b = a := at_a b (by simp [q])
      rw [eb, ha] at e
      cases Option.some.inj e
      cases d
  have nsB : ∀ {b : Addr} {m : Str → Option Value}, s1.heap.Ns b m → B.Ns b m := by
    rintro b m ⟨o, es, ep, e, d, r⟩
    exact ⟨o, es, ep, toB e (notDict e d), d, r⟩
  have inB : K.In B := by
    intro b o e
    refine toB (KX b o e) ?_
    cases q : H b with
    | none => rfl
    | some u =>
      have eb : b = a := at_a b (by simp [q])
      have z := noK (by rw [← eb, q]; simp)
      rw [eb, z] at e
      cases e
  have modB : Mod K mg B := by
    obtain ⟨mc, l1, l2⟩ := hlim
    exact ⟨inB, nsB hns, ⟨mb, nsB hb, hbb⟩, ⟨mc, nsB l1, l2⟩⟩
  have nil : ∀ {b : Addr}, b ∉ ([] : List Addr) := fun z => nomatch z
  have e0 : Env0 P w K mg B callerA [] s1 H :=
    ⟨rfl, modB, fun b o e => of_hidT e, Nat.le_of_eq (hidT_size _ _), trivial, fun b z => (nil z).elim, hok, .of_eq hg⟩
  have got := (F B inB (nsB hns)).run callerA [] s1 H ⟨[.ref a], []⟩ [.ref a] [.ref a] _ _ rfl hr e0
    (hbind s1 (.ref a)) (.cons rfl .nil) hsp
  refine codeAny_mono got ?_
  intro r s' z
  cases r with
  | error er => exact (hCX er s' z).elim
  | ok fl =>
    cases fl with
    | ret u =>
      obtain ⟨v, H', os, bare, un, hok', rv, q⟩ := z
      obtain rfl : v = .bl true := q
      obtain rfl : u = Value.bool true := rv
      refine ⟨rfl, OldK.of_keep ?_, os, bare⟩
      intro b o e
      cases q : H b with
      | none => exact un.keep b o e q (fun z => (nil z).elim) (fun z => (nil z).elim)
      | some u =>
        rcases only b with z | ⟨ob, xs, z⟩
        · exact nomatch q.symm.trans z
        · obtain ⟨g1, _⟩ := hok b _ z
          obtain ⟨g2, _⟩ := hok' b _ (un.frzs b ob _ z)
          exact g2.trans (g1.symm.trans e)
    | _ => exact False.elim z

theorem law_callG (KX : K.In s1.heap) (hns : s1.heap.Ns mainGlobals mg) (hb : s1.heap.Ns builtinsNs mb)
    (hbb : ∀ y : Str, y ≠ "__name__" → mb y = bootBuiltins y) (hlim : s1.heap.NoLimit) (hg : s1.gens = #[])
    (ha : s1.heap.get? a = some { cls := .type "list", data := .seq vs.toArray }) (hi : IntsAre vs ns)
    (hl : ns.length ≤ sizeLine) (hr : Room n callerA)
    (F : ∀ base : Heap, K.In base → base.Ns mainGlobals mg → FnG P w K mg base cx n fa fd [x] sp)
    (hbind : ∀ (s : Shared) (u : Value), BindsTo s fd ⟨[u], []⟩ [(x, u)])
    (hsp : ∀ H : Hp, Only H → SqL K H a (ns.map V.int) → sp [.ref a] H (fun v _ => v = .bl true) fun _ _ _ => False)
    (hCX : ∀ H e s', cx [] H s1 (fun _ _ _ => False) e s' → False) :
    codeAny (model P w) callerA (.call (.ref fa) ⟨[.ref a], []⟩) (Yes s1) s1 := by
  have rv := vals_ints hi
  have hz : vs.toArray.size ≤ sizeLine := by
    rw [List.size_toArray, hi.length]
    exact hl
  cases hk : K.lookup a with
  | some o =>
    have e : some o = some _ := (KX a o hk).symm.trans ha
    cases e
    have here : SqL K (fun _ => none) a (ns.map V.int) := .inr ⟨_, vs.toArray, _, hk, rfl, rfl, rfl, hz, by simpa using rv⟩
    have only : Only (fun _ => none) := fun _ => .inl rfl
    exact begun (fun _ => none) only here (fun b u z => nomatch z) (fun b z => absurd rfl z) (fun z => absurd rfl z)
      KX hns hb hbb hlim hg ha hr F hbind (hsp _ only here) (hCX _)
  | none =>
    let H : Hp := fun b => if b = a then some (.frz { cls := .type "list", data := .seq vs.toArray } (.lst (ns.map V.int))) else none
    have Ha : H a = some (.frz { cls := .type "list", data := .seq vs.toArray } (.lst (ns.map V.int))) := if_pos rfl
    have Hn : ∀ {b : Addr}, b ≠ a → H b = none := fun z => if_neg z
    have only : Only H := by
      intro b
      by_cases eb : b = a
      · right
        subst eb
        exact ⟨_, _, Ha⟩
      · left
        exact Hn eb
    have here : SqL K H a (ns.map V.int) := .inl (.inr ⟨_, Ha⟩)
    refine begun H only here ?_ ?_ (fun _ => hk) KX hns hb hbb hlim hg ha hr F hbind (hsp _ only here) (hCX _)
    · intro b u z
      by_cases eb : b = a
      · subst eb
        rw [Ha] at z
        cases z
        exact ⟨ha, by rw [List.length_map]; exact hl, vs, _, rv, ha⟩
      · rw [Hn eb] at z
        cases z
    · intro b z
      by_cases eb : b = a
      · exact eb
      · exact absurd (Hn eb) z
end

theorem walkG {l : PySem.W.OpenLaw} {m n : Nat} {q : Program} {loose : List Str} {XP : (Str → Option Value) → Heap → Prop}
    {YP : World → Heap → Prop} {d : DefRec} {K : Params → PySem.W.Frag} {sp : PySem.W.Frag → Sp} {x : Str}
    (hn : l.most = some m) (hm : m ≤ sizeLine) (hdf : d.params.defaults = []) (hr : Room n callerA)
    (hY : ∀ (w : World) (h : Heap), YP w h → (K w.params).In h)
    (F : ∀ (w : World) (mg : Str → Option Value) (fa : Addr) (h : Heap), (K w.params).In h → h.Ns mainGlobals mg →
      mg d.name = some (.ref fa) → ∃ fd : FuncData, (∀ (s : Shared) (u : Value), BindsTo s fd ⟨[u], []⟩ [(x, u)]) ∧
        ∀ base : Heap, (K w.params).In base → base.Ns mainGlobals mg →
          FnG l.prog w (K w.params) mg base CX0 n fa fd [x] (sp (K w.params)))
    (hsp : ∀ (K : PySem.W.Frag) (H : Hp) (a : Addr) (ns : List Int), ns.length ≤ m →
      (∀ z ∈ ns, Builtin.Int.intBits z ≤ 1048576) → Only H → SqL K H a (ns.map V.int) →
      sp K [.ref a] H (fun v _ => v = .bl true) fun _ _ _ => False) :
    PySem.W.WalkO q loose XP YP l.row.toRowW d [] (fun f vs => PySem.call f vs) := by
  refine Att.attach_callB hn hdf ?_
  intro w s0 s1 mg mb fa o pm cd dc a vs ns G Y ho hd hcd hmg hobj hints hlen hbits hg
  have KX := hY w _ Y
  obtain ⟨fd, hb, hF⟩ := F w mg fa _ KX G.T.g hmg
  exact law_callG KX G.T.g G.T.b G.T.builtins G.T.nolimit hg hobj hints (Nat.le_trans hlen hm) hr hF hb
    (fun H only hS => hsp _ H a ns hlen hbits only hS) fun H e s' z => z.elim
end Gd
end

section
set_option Elab.async false
set_option linter.all false
set_option maxRecDepth 100000
set_option maxHeartbeats 4000000
/-! repr of data, the reading of a promise that is free of texts under way. -/
namespace Gd
open PySem PySem.Spec PyProof.Rows L2

section
variable {K : PySem.W.Frag} {H : Hp}
mutual
theorem Dp.plain : ∀ (d : PyData) {v : V}, Dp K H v d → d.hasDict = false
  | .none, _, _ => by simp only [PyData.hasDict]
  | .bool _, _, _ => by simp only [PyData.hasDict]
  | .int _, _, _ => by simp only [PyData.hasDict]
  | .str _, _, _ => by simp only [PyData.hasDict]
  | .list ds, _, h => by
    cases h with
    | lst _ k =>
      simp only [PyData.hasDict]
      exact DpAll.plain ds k
  | .tuple ds, _, h => by
    cases h with
    | tup _ k =>
      simp only [PyData.hasDict]
      exact DpAll.plain ds k
  | .dict _, _, h => by cases h
theorem DpAll.plain : ∀ (ds : List PyData) {vs : List V}, DpAll K H vs ds → PyData.hasDictAll ds = false
  | [], _, _ => by simp only [PyData.hasDictAll]
  | d :: ds, _, h => by
    cases h with
    | cons a b =>
      simp only [PyData.hasDictAll, Dp.plain d a, DpAll.plain ds b, Bool.or_self]
end
end

/-- repr(x), x data -/
def rRepr (K : PySem.W.Frag) : List V → Hp → VK → Prop := fun xs H Q =>
  ∃ (x : V) (d : PyData), xs = [x] ∧ Dp K H x d ∧ d.showable = true ∧ d.shown.length ≤ sizeLine ∧ d.depth ≤ 60 ∧ Q (.str d.shown) H

section
variable {X : Cx}
theorem call_repr (g : Free X.A) (hu : X.A.units + 64 < cLine) : CallR X (.builtin "repr") (rRepr X.K) := by
  intro pins s σ H xs us Q I r h
  obtain ⟨x, d, rfl, hd, hs, hz, hdp, q⟩ := h
  obtain ⟨u, rfl, ru⟩ := r.one
  have pl := Dp.plain d hd
  obtain ⟨as, rd⟩ := Dp.reads I d x u hd ru
  have fin : ∀ (h' : Heap) (tk tk' : Nat), (∀ b o, s.heap.get? b = some o → h'.get? b = some o) →
      EP X pins σ Q (.str d.shown tk) { s with heap := h', toks := tk' } :=
    fun h' tk tk' k => ⟨.str d.shown, H, I.kept k, ⟨tk, rfl⟩, q⟩
  have fin0 : ∀ (tk tk' : Nat), EP X pins σ Q (.str d.shown tk) { s with toks := tk' } :=
    fun tk tk' => ⟨.str d.shown, H, I.tok tk', ⟨tk, rfl⟩, q⟩
  cases rd with
  | none => exact P.repr_of_none (fin0 _ _)
  | bool b => exact P.repr_of_bool (fin0 _ _)
  | int i t => exact P.repr_of_int (by simpa [PyData.showable] using hs) (fin0 _ _)
  | str z t => exact P.repr_of_str (fin0 _ _) hz
  | list h1 h2 h3 h4 =>
    exact repr_of_reads' (.list h1 h2 h3 h4) hs (PyData.noDict_hsm pl) g (by omega) (fun _ _ e => e) (fun h' u tk k => fin h' u tk k) hz
  | tuple h1 h2 h3 h4 =>
    exact repr_of_reads' (.tuple h1 h2 h3 h4) hs (PyData.noDict_hsm pl) g (by omega) (fun _ _ e => e) (fun h' u tk k => fin h' u tk k) hz
  | dict h1 h2 h3 h4 h5 => simp [PyData.hasDict] at pl
end
end Gd
end

section
set_option Elab.async false
set_option linter.all false
set_option maxRecDepth 100000
set_option maxHeartbeats 4000000
/-! What the laws draw from: a list of three numbers, of which each draw takes one more. -/
namespace Gd
open PySem PySem.Spec PyProof.Rows L2

/-- at p: what is left of a great number, the seed, how many were drawn, at most S -/
def Feed (H : Hp) (p : Addr) (S : Int) : Prop := ∃ g x s : Int, H p = some (.lst [.int g, .int x, .int s]) ∧ 0 ≤ s ∧ s ≤ S
theorem Feed.le {H : Hp} {p : Addr} {S T : Int} (h : Feed H p S) (l : S ≤ T) : Feed H p T := by
  obtain ⟨g, x, s, e, a, b⟩ := h
  exact ⟨g, x, s, e, a, by omega⟩
theorem Feed.here {H : Hp} {p : Addr} {S g x s : Int} (h0 : 0 ≤ s) (h : s ≤ S) : Feed (upd H p (.lst [.int g, .int x, .int s])) p S :=
  ⟨g, x, s, upd_same, h0, h⟩
theorem Feed.stays {H : Hp} {p q : Addr} {S : Int} {o : HO} (h : Feed H p S) (n : H q = none) : Feed (upd H q o) p S := by
  obtain ⟨g, x, s, e, a, b⟩ := h
  refine ⟨g, x, s, ?_, a, b⟩
  rw [upd_ne (ne_of_none e n)]
  exact e
/-- all is as it was, but at p -/
def Ex1 (p : Addr) (H H' : Hp) : Prop := ∀ a o, a ≠ p → H a = some o → H' a = some o
theorem Ex1.refl (p : Addr) (H : Hp) : Ex1 p H H := fun _ _ _ h => h
theorem Ex1.trans {p : Addr} {H H1 H2 : Hp} (a : Ex1 p H H1) (b : Ex1 p H1 H2) : Ex1 p H H2 := fun x o n h => b x o n (a x o n h)
theorem Ex1.at {p : Addr} {H : Hp} {o : HO} : Ex1 p H (upd H p o) := fun a u n e => by
  rw [upd_ne n]
  exact e
theorem Ex1.new {p q : Addr} {H : Hp} {o : HO} (n : H q = none) : Ex1 p H (upd H q o) := fun a u _ e => by
  rw [upd_ne (ne_of_none e n)]
  exact e

theorem Feed.lst {H : Hp} {p : Addr} {S : Int} (h : Feed H p S) : ∃ xs, H p = some (.lst xs) := by
  obtain ⟨g, x, s, e, _⟩ := h
  exact ⟨_, e⟩
theorem Feed.ne {H : Hp} {p q : Addr} {S : Int} (h : Feed H p S) (n : H q = none) : q ≠ p := fun z => by
  obtain ⟨xs, e⟩ := h.lst
  rw [z, e] at n
  cases n
def spTake : Sp := fun vs H Q _ => ∃ (p : Addr) (m S : Int), vs = [.ref p, .int m] ∧ Feed H p S ∧ 0 < m ∧ m < 1073741824 ∧
  S ≤ 1000000000 ∧ ∀ (r : Int) (H' : Hp), 0 ≤ r → r < m → Feed H' p (S + 1) → Ex1 p H H' → Q (.int r) H'

theorem fmod_in (a : Int) {b : Int} (h : 0 < b) : 0 ≤ a.fmod b ∧ a.fmod b < b :=
  ⟨Int.fmod_nonneg_of_pos a h, Int.fmod_lt_of_pos a h⟩
end Gd
end

section
set_option Elab.async false
set_option linter.all false
set_option maxRecDepth 100000
set_option maxHeartbeats 4000000
/-! Data: numbers, texts, truths, None, tuples of such. -/
namespace Gd
open PySem PySem.Spec PyProof.Rows L2

mutual
def tupOnly : PyData → Bool
  | .none => true
  | .bool _ => true
  | .int _ => true
  | .str _ => true
  | .tuple ds => decide (ds.length ≤ 1000) && tupOnlyAll ds
  | .list _ => false
  | .dict _ => false
def tupOnlyAll : List PyData → Bool
  | [] => true
  | d :: ds => tupOnly d && tupOnlyAll ds
end

/-- tuples stay -/
def Tups (K : PySem.W.Frag) (H H' : Hp) : Prop := ∀ a xs, SqT K H a xs → SqT K H' a xs
theorem Tups.refl {K : PySem.W.Frag} {H : Hp} : Tups K H H := fun _ _ h => h
theorem Tups.trans {K : PySem.W.Frag} {H H1 H2 : Hp} (a : Tups K H H1) (b : Tups K H1 H2) : Tups K H H2 := fun x y h => b x y (a x y h)
theorem Tups.upd_lst {K : PySem.W.Frag} {H : Hp} {D : Addr} {xs ys : List V} (e : H D = some (.lst xs)) : Tups K H (upd H D (.lst ys)) := by
  intro a zs h
  rcases h with (h | ⟨o, h⟩) | h
  · refine .inl (.inl ?_)
    rw [upd_ne (fun z => by rw [z, e] at h; cases h)]
    exact h
  · refine .inl (.inr ⟨o, ?_⟩)
    rw [upd_ne (fun z => by rw [z, e] at h; cases h)]
    exact h
  · exact .inr h
theorem Tups.of_same {K : PySem.W.Frag} {H H' : Hp} (s : Same H H') : Tups K H H' := by
  intro a zs h
  rcases h with (h | ⟨o, h⟩) | h
  · exact .inl (.inl (s _ _ h))
  · exact .inl (.inr ⟨o, s _ _ h⟩)
  · exact .inr h

theorem Tups.new {K : PySem.W.Frag} {H : Hp} {q : Addr} {o : HO} (n : H q = none) : Tups K H (upd H q o) :=
  .of_same fun b u e => by
    rw [upd_ne (ne_of_none e n)]
    exact e
theorem Ex1.tups {K : PySem.W.Frag} {H H' : Hp} {p : Addr} {xs : List V} (x : Ex1 p H H') (e : H p = some (.lst xs)) : Tups K H H' := by
  intro a zs h
  rcases h with (h | ⟨o, h⟩) | h
  · exact .inl (.inl (x _ _ (fun z => by rw [z, e] at h; cases h) h))
  · exact .inl (.inr ⟨o, x _ _ (fun z => by rw [z, e] at h; cases h) h⟩)
  · exact .inr h
section
variable {K : PySem.W.Frag} {H H' : Hp}
mutual
theorem Dp.tups (t : Tups K H H') : ∀ (d : PyData) {v : V}, tupOnly d = true → Dp K H v d → Dp K H' v d
  | .none, _, _, h => by cases h; exact .non
  | .bool _, _, _, h => by cases h; exact .bl _
  | .int _, _, _, h => by cases h; exact .int _
  | .str _, _, _, h => by cases h; exact .str _
  | .tuple ds, _, o, h => by
    cases h with
    | tup a b =>
      simp only [tupOnly, Bool.and_eq_true] at o
      exact .tup (t _ _ a) (DpAll.tups t ds o.2 b)
  | .list _, _, o, _ => by simp [tupOnly] at o
  | .dict _, _, _, h => by cases h
theorem DpAll.tups (t : Tups K H H') : ∀ (ds : List PyData) {vs : List V}, tupOnlyAll ds = true → DpAll K H vs ds → DpAll K H' vs ds
  | [], _, _, h => by cases h; exact .nil
  | d :: ds, _, o, h => by
    simp only [tupOnlyAll, Bool.and_eq_true] at o
    cases h with
    | cons a b => exact .cons (Dp.tups t d o.1 a) (DpAll.tups t ds o.2 b)
end
mutual
theorem Dp.same (s : Same H H') : ∀ (d : PyData) {v : V}, Dp K H v d → Dp K H' v d
  | .none, _, h => by cases h; exact .non
  | .bool _, _, h => by cases h; exact .bl _
  | .int _, _, h => by cases h; exact .int _
  | .str _, _, h => by cases h; exact .str _
  | .tuple ds, _, h => by
    cases h with
    | tup a b => exact .tup (Tups.of_same s _ _ a) (DpAll.same s ds b)
  | .list ds, _, h => by
    cases h with
    | lst a b => exact .lst (s.seq a) (DpAll.same s ds b)
  | .dict _, _, h => by cases h
theorem DpAll.same (s : Same H H') : ∀ (ds : List PyData) {vs : List V}, DpAll K H vs ds → DpAll K H' vs ds
  | [], _, h => by cases h; exact .nil
  | d :: ds, _, h => by
    cases h with
    | cons a b => exact .cons (Dp.same s d a) (DpAll.same s ds b)
end
theorem DpAll.len : ∀ {vs : List V} {ds : List PyData}, DpAll K H vs ds → vs.length = ds.length
  | _, _, .nil => rfl
  | _, _, .cons _ b => congrArg (· + 1) (DpAll.len b)
theorem DpAll.at_ : ∀ {vs : List V} {ds : List PyData} {i : Nat} {v : V}, DpAll K H vs ds → vs[i]? = some v → ∃ d, ds[i]? = some d ∧ Dp K H v d
  | _, _, _, _, .nil, e => by simp at e
  | _, _, 0, _, .cons a _, e => by
    cases Option.some.inj e
    exact ⟨_, rfl, a⟩
  | _, _, i + 1, _, .cons _ b, e => DpAll.at_ (i := i) b e
theorem DpAll.snoc : ∀ {vs : List V} {ds : List PyData} {v : V} {d : PyData}, DpAll K H vs ds → Dp K H v d → DpAll K H (vs ++ [v]) (ds ++ [d])
  | _, _, _, _, .nil, h => .cons h .nil
  | _, _, _, _, .cons a b, h => .cons a (DpAll.snoc b h)
theorem tupOnlyAll_at : ∀ {ds : List PyData} {i : Nat} {d : PyData}, tupOnlyAll ds = true → ds[i]? = some d → tupOnly d = true
  | [], _, _, _, e => by simp at e
  | x :: r, 0, d, o, e => by
    simp only [tupOnlyAll, Bool.and_eq_true] at o
    cases Option.some.inj e
    exact o.1
  | x :: r, i + 1, d, o, e => by
    simp only [tupOnlyAll, Bool.and_eq_true] at o
    exact tupOnlyAll_at (i := i) o.2 e
theorem tupOnlyAll_take : ∀ {ds : List PyData}, tupOnlyAll ds = true → ∀ i : Nat, tupOnlyAll (ds.take i) = true
  | [], _, i => by rw [List.take_nil] <;> rfl
  | x :: r, o, 0 => rfl
  | x :: r, o, i + 1 => by
    simp only [tupOnlyAll, Bool.and_eq_true] at o
    simp only [List.take_succ_cons, tupOnlyAll, Bool.and_eq_true]
    exact ⟨o.1, tupOnlyAll_take o.2 i⟩
theorem depth_at : ∀ {ds : List PyData} {i : Nat} {d : PyData}, ds[i]? = some d → d.depth ≤ PyData.depthAll ds
  | [], _, _, e => by simp at e
  | x :: r, 0, d, e => by
    cases Option.some.inj e
    simp only [PyData.depthAll]
    omega
  | x :: r, i + 1, d, e => by
    have h := depth_at (ds := r) (i := i) e
    simp only [PyData.depthAll]
    omega
end

/-- the built-in class of data -/
def kindN : PyData → String
  | .none => "NoneType"
  | .bool _ => "bool"
  | .int _ => "int"
  | .str _ => "str"
  | .list _ => "list"
  | .tuple _ => "tuple"
  | .dict _ => "dict"
theorem Dp.kind {K : PySem.W.Frag} {H : Hp} {v : V} {d : PyData} (h : Dp K H v d) (o : tupOnly d = true) : TyX K H v (.type (kindN d)) := by
  cases h with
  | non => exact .base .non
  | bl b => exact .base (.bl b)
  | int i => exact .base (.int i)
  | str x => exact .base (.str x)
  | lst _ _ => simp [tupOnly] at o
  | tup a _ =>
    rcases a with (a | ⟨z, a⟩) | ⟨z, its, n, a, c, _⟩
    · exact .base (.tup a)
    · exact .fTuple a
    · exact .kTuple a c
section
theorem kb0 : kitB "NoneType" "list" = some false ∧ kitB "NoneType" "tuple" = some false ∧ kitB "NoneType" "dict" = some false := by decide +kernel
theorem kb1 : kitB "bool" "list" = some false ∧ kitB "bool" "tuple" = some false ∧ kitB "bool" "dict" = some false := by decide +kernel
theorem kb2 : kitB "int" "list" = some false ∧ kitB "int" "tuple" = some false ∧ kitB "int" "dict" = some false := by decide +kernel
theorem kb3 : kitB "str" "list" = some false ∧ kitB "str" "tuple" = some false ∧ kitB "str" "dict" = some false := by decide +kernel
theorem kb4 : kitB "tuple" "list" = some false ∧ kitB "tuple" "tuple" = some true ∧ kitB "tuple" "dict" = some false := by decide +kernel
theorem kind_list {d : PyData} (o : tupOnly d = true) : kitB (kindN d) "list" = some false := by
  cases d with
  | none => exact kb0.1
  | bool b => exact kb1.1
  | int i => exact kb2.1
  | str x => exact kb3.1
  | tuple ds => exact kb4.1
  | list ds => simp [tupOnly] at o
  | dict ds => simp [tupOnly] at o
theorem kind_dict {d : PyData} (o : tupOnly d = true) : kitB (kindN d) "dict" = some false := by
  cases d with
  | none => exact kb0.2.2
  | bool b => exact kb1.2.2
  | int i => exact kb2.2.2
  | str x => exact kb3.2.2
  | tuple ds => exact kb4.2.2
  | list ds => simp [tupOnly] at o
  | dict ds => simp [tupOnly] at o
theorem kind_tuple {d : PyData} (o : tupOnly d = true) (n : ¬ ∃ ds, d = .tuple ds) : kitB (kindN d) "tuple" = some false := by
  cases d with
  | none => exact kb0.2.1
  | bool b => exact kb1.2.1
  | int i => exact kb2.2.1
  | str x => exact kb3.2.1
  | tuple ds => exact absurd ⟨ds, rfl⟩ n
  | list ds => simp [tupOnly] at o
  | dict ds => simp [tupOnly] at o
end
end Gd
end

section
set_option Elab.async false
set_option linter.all false
set_option maxRecDepth 100000
set_option maxHeartbeats 4000000
/-! Exceptions of the program's own classes as values: made, looked at, asked for their class. -/
namespace Gd
open PySem PySem.Spec PyProof.Rows L2

/-- what the written part must say of a class of exceptions so that its objects are looked at -/
structure EvC (K : PySem.W.Frag) (C : Addr) : Prop where
  ga : PySem.W.findIn K (.ref C) "__getattribute__" = some (some (.builtin "BaseException.__getattribute__"))
  gt : PySem.W.findIn K (.ref C) "__getattr__" = some none
  sub : PySem.W.subIn K (.ref C) (.type "BaseException") = some true
  hd : PySem.W.hasDictIn K C = true
  cl : PySem.W.findIn K (.ref C) "__class__" = some (some (.builtin "object.__class__"))
  mo : PySem.W.mroIn K C (.type "object") = some true
/-- of the built-in that tells an object's class -/
structure EvB (K : PySem.W.Frag) : Prop where
  gt : PySem.W.specialIn K (.builtin "object.__class__") "__get__" = some (some (.builtin "getset_descriptor.__get__"))
  tk : PySem.W.takesIn K (.builtin "object.__class__") = some true

section
variable {X : Cx} {pins : List (Addr × Obj)} {σ : L2.St} {H : Hp} {s : Shared} {a C dx : Addr} {fs : List (Str × V)}
/-- how such an object lies: without a dict, with one -/
theorem lies0 (I : Inv X pins σ H s) (e : H a = some (exo a C none)) : ∃ ox, PySem.W.InstAt s.heap a ox C none := by
  obtain ⟨t, g⟩ := exo_at I.hok e
  exact ⟨_, g, rfl, rfl, trivial⟩
theorem lies1 (I : Inv X pins σ H s) (e : H a = some (exo a C (some dx))) (ed : H dx = some (exd dx fs)) :
    ∃ ox od, PySem.W.InstAt s.heap a ox C (some od) ∧ ∀ f v, fs.lookup f = some v → ∃ u, RelV v u ∧ PySem.W.lookIn f od = some (some u) := by
  obtain ⟨t, g⟩ := exo_at I.hok e
  obtain ⟨m, n, r⟩ := exd_at I.hok ed
  obtain ⟨od, ho, hl⟩ := lookIn_ns n
  refine ⟨_, od, ⟨g, rfl, rfl, ho⟩, ?_⟩
  intro f v hv
  obtain ⟨u, hu, ru⟩ := RelO.some_of (v := v) (o := m f) (by rw [← hv]; exact r f)
  exact ⟨u, ru, by rw [hl, hu]⟩
end

/-- isinstance(e, c), e an exception of an own class -/
def rIsE (K : PySem.W.Frag) : List V → Hp → VK → Prop := fun xs H Q =>
  ∃ (a C : Addr) (c : V) (u : Value) (b : Bool), xs = [.ref a, c] ∧ ClsV c u ∧ EvC K C ∧ EvB K ∧
    (H a = some (exo a C none) ∨ ∃ dx fs, H a = some (exo a C (some dx)) ∧ H dx = some (exd dx fs)) ∧
    PySem.W.kitOne K (.ref C) u = some b ∧ Q (.bl b) H
theorem call_isE {X : Cx} : CallR X (.builtin "isinstance") (rIsE X.K) := by
  intro pins s σ H xs us Q I r h
  obtain ⟨a, C, c, u, b, rfl, k, T, B, at_, e, q⟩ := h
  obtain ⟨u1, u2, rfl, r1, r2⟩ := vals2 r
  cases k.eq r2
  obtain rfl : u1 = Value.ref a := r1
  have hcl := (PySem.W.any_some T.hd)
  have hcl' : (PySem.W.clsIn X.K C).isSome = true := by
    obtain ⟨cd, hc, _⟩ := hcl
    rw [hc]
    rfl
  have fin : ∀ tk, EP X pins σ Q (.bool b) { s with toks := tk } := fun tk => ⟨.bl b, H, I.tok tk, rfl, q⟩
  rcases at_ with ea | ⟨dx, fs, ea, ed⟩
  · obtain ⟨ox, J⟩ := lies0 I ea
    exact PySem.W.kia_one (PySem.W.kitx_exc hcl' T.ga T.gt T.sub T.cl B.gt B.tk T.mo) I.kIn J e (fun z => nomatch z) fin
  · obtain ⟨ox, od, J, _⟩ := lies1 I ea ed
    exact PySem.W.kia_one (PySem.W.kitx_exc hcl' T.ga T.gt T.sub T.cl B.gt B.tk T.mo) I.kIn J e (fun z => nomatch z) fin

/-- e.f, e an exception with a dict -/
def tEf (K : PySem.W.Frag) (f : Str) (te : TE) : TE := fun σ H Q => te σ H fun x H1 =>
  ∃ (a C dx : Addr) (fs : List (Str × V)) (v : V), x = .ref a ∧ H1 a = some (exo a C (some dx)) ∧ H1 dx = some (exd dx fs) ∧ EvC K C ∧
    PySem.W.findIn K (.ref C) f = some none ∧ fs.lookup f = some v ∧ Q v H1
theorem pe_ef {X : Cx} {e : Expr} {f : Str} {te : TE} {pos : Pos} (he : PE X e te)
    (hb : attributeBase e f X.env (eval e X.env) = eval e X.env := by rfl) : PE X (.Attribute e f pos) (tEf X.K f te) := by
  constructor
  intro pins s σ H Q I h
  refine attr_of hb (thn (he.run pins s σ H _ I h) ?_)
  rintro u s1 ⟨x, H1, J, rx, a, C, dx, fs, v, rfl, ea, ed, T, hno, l, q⟩
  obtain rfl : u = Value.ref a := rx
  obtain ⟨ox, od, at_, look⟩ := lies1 J ea ed
  obtain ⟨u, ru, hu⟩ := look f v l
  exact HandSPX.exc_get J.kIn at_ T.ga T.gt T.sub (PySem.W.findObj_own T.hd hno rfl hu) (handed_of ru) ⟨v, H1, J.tok _, ru, q⟩
end Gd
end

section
set_option Elab.async false
set_option linter.all false
set_option maxRecDepth 100000
set_option maxHeartbeats 4000000
/-! Exceptions of own classes over ValueError, made as values. -/
namespace Gd
open PySem PySem.Spec PyProof.Rows L2

/-- C(..), C without an __init__ of its own -/
def tExB (C : Addr) (ta : TA) : TE := fun σ H Q => ta σ H fun vs H1 =>
  vs.length ≤ 1000 ∧ ∀ a, H1 a = none → Q (.ref a) (upd H1 a (exo a C none))
/-- C(..) with its own __init__, which keeps sp -/
def tExI (C : Addr) (sp : Sp) (ta : TA) : TE := fun σ H Q => ta σ H fun vs H1 =>
  vs.length ≤ 1000 ∧ ∀ a, H1 a = none →
    sp (.ref a :: vs) (upd H1 a (exo a C none)) (fun v H2 => v = .non ∧ Q (.ref a) H2) (fun _ _ _ => False)

section
variable {X : Cx} {pins : List (Addr × Obj)} {σ : L2.St} {H : Hp} {s : Shared} {C : Addr} {Q : VK}
theorem exB_run {us : List Value} {vs : List V} (T : OexC X.K C)
    (iB : PySem.W.findIn X.K (.ref C) "__init__" = some (some (.builtin "ValueError.__init__")))
    (I : Inv X pins σ H s) (r : Vals vs us) (hz : vs.length ≤ 1000)
    (q : ∀ a, H a = none → Q (.ref a) (upd H a (exo a C none))) :
    wpAny (model X.prog X.w) X.A (call (.ref C) us) (EP X pins σ Q) X.xe s := by
  obtain ⟨nm, qn, N, bs, bm, sn, sub, ab, col, dd, k0, k1, k2, k3, k5, hC, hbm⟩ := T.cls
  obtain ⟨hp, g, d, t, os⟩ := s
  have hu : us.length ≤ sizeLine := by
    rw [← Paired.length r, sizeLine_eq]
    omega
  have tails := fun Y : String => PySem.HandSPX.refsVE_contains Y bm hbm
  refine PySem.W.call_B F.excBase_ValueError tails (I.kIn _ _ hC) (PySem.W.looks_findIn I.kIn iB) hu ?_
  intro h' k e1 e2
  have up : hp.objs.size ≤ hp.objs.size + 1 := Nat.le_succ _
  have J := I.laid (t' := t) (a := hp.objs.size + 1) (o := exo (hp.objs.size + 1) C none) k up (exo_ok e1)
  exact ⟨.ref (hp.objs.size + 1), _, J, rfl, q _ (I.hok.fresh up)⟩
end

section
variable {X : Cx} {C : Addr} {x : Str} {p pos : Pos} {e : Expr} {es : List Expr} {ta : TA}
theorem pe_exB0 (T : OexC X.K C)
    (iB : PySem.W.findIn X.K (.ref C) "__init__" = some (some (.builtin "ValueError.__init__")))
    (hg : Gl X x) (hm : X.mg x = some (.ref C)) (hdb : (x == ("__debug__" : Str)) = false := by decide) :
    PE X (.Call (.Name x p) [] [] pos) (tExB C tNil) := by
  constructor
  intro pins s σ H Q I h
  refine wpAny_Call_Name_kw (ld_glob I hg hm ?_ hdb)
  exact PySem.W.callWith_K0 I.kIn T.kC (exB_run (us := []) T iB I .nil h.1 h.2)
theorem pe_exB (T : OexC X.K C)
    (iB : PySem.W.findIn X.K (.ref C) "__init__" = some (some (.builtin "ValueError.__init__")))
    (hg : Gl X x) (hm : X.mg x = some (.ref C)) (ha : PA X (e :: es) ta)
    (hdb : (x == ("__debug__" : Str)) = false := by decide)
    (he : starEach (e :: es) X.env = (false, eval e X.env) :: starEach es X.env := by rfl)
    (hpl : (backTo pos (starEach es X.env)).any (·.1) = false := by rfl) :
    PE X (.Call (.Name x p) (e :: es) [] pos) (tExB C ta) := by
  constructor
  intro pins s σ H Q I h
  refine wpAny_Call_Name_kw (ld_glob I hg hm ?_ hdb)
  refine PySem.W.callWith_K (h₀ := X.base) I.ok.mod.kin T.kC (thn (ha.run pos pins s σ H _ I h) ?_) he hpl
  rintro us s1 ⟨vs, H1, J, r, hz, q⟩
  exact ⟨J.kIn, exB_run T iB J r hz q⟩
end

section
variable {X : Cx} {pins : List (Addr × Obj)} {σ : L2.St} {H : Hp} {s : Shared} {C fI : Addr} {Q : VK}
  {cx : CXT} {n : Nat} {fd : FuncData} {ps : List Str} {sp : Sp}
/-- what is left where the object is laid and its __init__ is called -/
theorem exI_end {us : List Value} {vs : List V} {hp : Heap} {g : Array GenState} {d : Drawn} {t : Nat} {os : OsState} {A : Around}
    (F1 : FnOk X.prog X.w X.K X.mg X.base cx n fI fd ps sp) (hr : Room (n + 1) X.A)
    (eA : A = X.A.under (.builtin "type.__call__" ⟨.ref C :: us, []⟩))
    (hb : Binds X.K fd ps []) (hx : Passes cx X (fun _ _ _ => False)) (I : Inv X pins σ H ⟨hp, g, d, t, os⟩) (r : Vals vs us)
    (q : ∀ a, H a = none → sp (.ref a :: vs) (upd H a (exo a C none)) (fun v H2 => v = .non ∧ Q (.ref a) H2) (fun _ _ _ => False)) :
    codeAny (model X.prog X.w) A (.call (.ref fI) ⟨.ref (hp.objs.size + 1) :: us, []⟩)
      (PySem.W.InitBack (hp.objs.size + 1) fun o s' => match o with | .ok (.ret u) => EP X pins σ Q u s' | .ok _ => False | .error er => X.xe er s')
      ⟨(hp.push (PySem.W.kdv_tup us)).push (PySem.HandSPX.excO C hp.objs.size), g, d, t, os⟩ := by
  subst eA
  have up : hp.objs.size ≤ hp.objs.size + 1 := Nat.le_succ _
  have new := I.hok.fresh up
  have hq := q _ new
  have kk : ∀ b o, hp.get? b = some o →
      ((hp.push (PySem.W.kdv_tup us)).push (PySem.HandSPX.excO C hp.objs.size)).get? b = some o :=
    fun b o z => Heap.get?_push_of_some _ (Heap.get?_push_of_some _ z)
  have here : ((hp.push (PySem.W.kdv_tup us)).push (PySem.HandSPX.excO C hp.objs.size)).get? (hp.objs.size + 1)
      = some (PySem.HandSPX.excO C hp.objs.size) := by heap_get
  have J := I.laid (t' := t) (a := hp.objs.size + 1) (o := exo (hp.objs.size + 1) C none) kk up (exo_ok here)
  have r2 : Vals (V.ref (hp.objs.size + 1) :: vs) (Value.ref (hp.objs.size + 1) :: us) := .cons rfl r
  have hl : ((Value.ref (hp.objs.size + 1) :: us) ++ []).length = ps.length := by
    rw [List.append_nil, ← F1.len _ _ _ _ hq]
    exact (Paired.length r2).symm
  have bd := hb _ (Value.ref (hp.objs.size + 1) :: us) J.kIn hl
  rw [List.append_nil] at bd
  have all := F1.run _ X.stack _ _ ⟨Value.ref (hp.objs.size + 1) :: us, []⟩ _ _ _ _ (hr.make C us []) (J.env0.make C us []) bd r2 hq
  refine codeAny_mono all ?_
  intro o s' z
  cases o with
  | error er => exact hx pins σ _ _ er s' J z
  | ok fl =>
    cases fl with
    | ret u =>
      obtain ⟨v, H2, J2, rv, ev, q2⟩ := J.after z
      subst ev
      exact ⟨rv, .ref (hp.objs.size + 1), H2, J2, rfl, q2⟩
    | _ => exact False.elim z
/-- how the class at C is called, its __init__ being the def at fI -/
def Makes (P : Program) (w : World) (K : PySem.W.Frag) (C fI : Addr) : Prop :=
  ∀ (A : Around) (R : Result → Shared → Prop) (hp : Heap) (g : Array GenState) (d : Drawn) (t : Nat) (os : OsState) (us : List Value),
    K.In hp → us.length ≤ sizeLine →
    codeAny (model P w) (A.under (.builtin "type.__call__" ⟨.ref C :: us, []⟩)) (.call (.ref fI) ⟨.ref (hp.objs.size + 1) :: us, []⟩)
      (PySem.W.InitBack (hp.objs.size + 1) R) ⟨(hp.push (PySem.W.kdv_tup us)).push (PySem.HandSPX.excO C hp.objs.size), g, d, t, os⟩ →
    codeAny (model P w) A (.call (.ref C) ⟨us, []⟩) R ⟨hp, g, d, t, os⟩
theorem makesVE {P : Program} {w : World} {K : PySem.W.Frag} (T : OexC K C)
    (iC : PySem.W.findIn K (.ref C) "__init__" = some (some (.ref fI))) (tI : PySem.W.typeIn K (.ref fI) = some (.type "function")) :
    Makes P w K C fI := by
  obtain ⟨nm, qn, N, bs, bm, sn, sub, ab, col, dd, k0, k1, k2, k3, k5, hC, hbm⟩ := T.cls
  intro A R hp g d t os us X hu hq
  have tails := fun Y : String => PySem.HandSPX.refsVE_contains Y bm hbm
  have init := PySem.W.looks_findIn (M := model P w) X iC
  have bound := fun self => PySem.W.bind_fn (M := model P w) X self tI
  exact PySem.HandSPX.call_own F.excBase_ValueError tails (X _ _ hC) init bound hu hq
theorem exI_run {us : List Value} {vs : List V} (mk : Makes X.prog X.w X.K C fI)
    (F1 : FnOk X.prog X.w X.K X.mg X.base cx n fI fd ps sp) (hr : Room (n + 1) X.A)
    (hb : Binds X.K fd ps []) (hx : Passes cx X (fun _ _ _ => False)) (I : Inv X pins σ H s) (r : Vals vs us) (hz : vs.length ≤ 1000)
    (q : ∀ a, H a = none → sp (.ref a :: vs) (upd H a (exo a C none)) (fun v H2 => v = .non ∧ Q (.ref a) H2) (fun _ _ _ => False)) :
    wpAny (model X.prog X.w) X.A (call (.ref C) us) (EP X pins σ Q) X.xe s := by
  obtain ⟨hp, g, d, t, os⟩ := s
  have hu : us.length ≤ sizeLine := by
    rw [← Paired.length r, sizeLine_eq]
    omega
  have all := mk X.A _ hp g d t os us I.kIn hu
    (exI_end (A := X.A.under (.builtin "type.__call__" ⟨.ref C :: us, []⟩)) F1 hr rfl hb hx I r q)
  refine wpAny_call (codeAny_mono all ?_)
  intro o s' z
  exact z
end
section
variable {X : Cx} {C fI : Addr} {x : Str} {p pos : Pos} {e : Expr} {es : List Expr} {ta : TA}
  {cx : CXT} {n : Nat} {fd : FuncData} {ps : List Str} {sp : Sp}
theorem pe_exI (mk : Makes X.prog X.w X.K C fI) (kC : PySem.W.keepIn X.K (.ref C) = true)
    (F1 : FnOk X.prog X.w X.K X.mg X.base cx n fI fd ps sp) (hr : Room (n + 1) X.A)
    (hb : Binds X.K fd ps []) (hx : Passes cx X (fun _ _ _ => False))
    (hg : Gl X x) (hm : X.mg x = some (.ref C)) (ha : PA X (e :: es) ta)
    (hdb : (x == ("__debug__" : Str)) = false := by decide)
    (he : starEach (e :: es) X.env = (false, eval e X.env) :: starEach es X.env := by rfl)
    (hpl : (backTo pos (starEach es X.env)).any (·.1) = false := by rfl) :
    PE X (.Call (.Name x p) (e :: es) [] pos) (tExI C sp ta) := by
  constructor
  intro pins s σ H Q I h
  refine wpAny_Call_Name_kw (ld_glob I hg hm ?_ hdb)
  refine PySem.W.callWith_K (h₀ := X.base) I.ok.mod.kin kC (thn (ha.run pos pins s σ H _ I h) ?_) he hpl
  rintro us s1 ⟨vs, H1, J, r, hz, q⟩
  exact ⟨J.kIn, exI_run mk F1 hr hb hx J r hz q⟩
end
end Gd
end

section
set_option Elab.async false
set_option linter.all false
set_option maxRecDepth 100000
set_option maxHeartbeats 4000000
/-! An own class of exceptions straight over KeyError, whose __init__ is its own. -/
namespace PySem
namespace Gk
open PySem.Calls PyProof.Rows PySem.HandSPX
abbrev tail : List Value := [.type "KeyError", .type "LookupError", .type "Exception", .type "BaseException", .type "object"]
abbrev F := PySem.F.excBase_LookupError
section
variable {M : Model} {A : Around} {E : Value → Shared → Prop} {h : Heap} {g : Array GenState} {d : Drawn} {t : Nat} {os : OsState}
  {nm q : Str} {C N : Addr} {bs : List Value} {hdct : Bool} {sn : List Str} {sub : List Value} {ab : Bool} {col : Option Bool}
  {dd : Option Addr} {k0 k1 k2 k3 k5 : Option Value}
theorem inB (C : Addr) : (Value.ref C :: tail).contains (.type "LookupError") = true := by
  rw [List.contains_cons]
  exact Bool.or_eq_true_iff.mpr (.inr (by decide +kernel))
theorem notA (C : Addr) : (Value.ref C :: tail).contains (.type "AttributeError") = false := by
  rw [List.contains_cons]
  exact Bool.or_eq_false_iff.mpr ⟨rfl, by decide +kernel⟩
theorem notN (C : Addr) : (Value.ref C :: tail).contains (.type "NameError") = false := by
  rw [List.contains_cons]
  exact Bool.or_eq_false_iff.mpr ⟨rfl, by decide +kernel⟩
theorem check_newK {rest : List Value} {Q : Unit → Shared → Prop}
    (hC : h.get? C = some (excClassObj nm q C N bs tail hdct sn sub ab col dd k0 k1 k2 k3 k5 "LookupError.__new__"))
    (hq : Q () ⟨h, g, d, t, os⟩) : wpAny M A (checkBuiltinCall "LookupError.__new__" ⟨.ref C :: rest, []⟩) Q E ⟨h, g, d, t, os⟩ := by
  have b := inB C
  have z := F.noStar
  simp only [checkBuiltinCall, F.newKind, F.newSplit, F.newRow]
  repeat (first
    | refine wpAny_loadPart_at hC ?_
    | (refine wpAny_isSubtype_exc hC ?_
       rw [b])
    | refine wpAny_staticBase_exc hC ?_
    | refine wpAny_madeBy_exc hC ?_
    | simp only [bne_self_eq_false, Bool.false_eq_true, if_false]
    | wp_step)
  exact hq
end
section
variable {prog : Program} {w : World} {A : Around} {E : Value → Shared → Prop} {R : Result → Shared → Prop} {h : Heap} {g : Array GenState}
  {d : Drawn} {t : Nat} {os : OsState} {nm q : Str} {C N : Addr} {bs : List Value} {hdct : Bool} {sn : List Str} {sub : List Value}
  {ab : Bool} {col : Option Bool} {dd : Option Addr} {k0 k1 k2 k3 k5 : Option Value}
theorem newK {rest : List Value}
    (hC : h.get? C = some (excClassObj nm q C N bs tail hdct sn sub ab col dd k0 k1 k2 k3 k5 "LookupError.__new__"))
    (hq : R (.ok (.ret (.ref (h.objs.size + 1)))) ⟨(h.push (W.kdv_tup rest)).push (excO C h.objs.size), g, d, t, os⟩)
    (hrest : rest.length ≤ sizeLine) :
    codeAny (model prog w) A (.builtin "LookupError.__new__" ⟨.ref C :: rest, []⟩) R ⟨h, g, d, t, os⟩ := by
  have ends := F.ends
  have b := inB C
  have a := notA C
  have n := notN C
  have en := F.entry
  refine codeAny_builtinAt en ?_
  unfold Builtin.«BaseException.__new__»
  refine wpAt_bind ?_
  show wpAt _ _ _ (stack >>= _) _ _ _
  refine wpAt_bind (wpAt_stack ?_)
  intro p below
  refine wpAt_of_wpAny ?_
  wp_walk
  refine wpAt_of_wpAny ?_
  have ow := F.owner
  rw [ow]
  repeat (first
    | with_reducible refine wpAny_madeHere_exc F.canon hC ?_
    | with_reducible refine wpAny_loadPart_at hC ?_
    | (with_reducible refine wpAny_isSubtype_exc hC ?_
       first
         | rw [b]
         | rw [a]
         | rw [n])
    | wp_step)
  show R _ _
  rw [Heap.size_push]
  exact hq
theorem typeCallK {rest : List Value} {fI : Addr} {Q : Fin → Shared → Prop}
    (hC : h.get? C = some (excClassObj nm q C N bs tail hdct sn sub ab col dd k0 k1 k2 k3 k5 "LookupError.__new__"))
    (hi : W.Looks (model prog w) h (typeLookup (.ref C) "__init__") (some (.ref fI)))
    (hb : ∀ self, W.Looks (model prog w) h (bindSpecial (.ref fI) self) (.ref fI, [self])) (hrest : rest.length ≤ sizeLine)
    (hq : codeAny (model prog w) A (.call (.ref fI) ⟨.ref (h.objs.size + 1) :: rest, []⟩)
      (fun r s' => match r with
        | .ok (.ret v) => v = .none ∧ Q (.done (.ret (.ref (h.objs.size + 1)))) s'
        | .ok _ => False
        | .error e => E e s')
      ⟨(h.push (W.kdv_tup rest)).push (excO C h.objs.size), g, d, t, os⟩) :
    wpAny (model prog w) A (Builtin.«type.__call__» ⟨.ref C :: rest, []⟩) Q E ⟨h, g, d, t, os⟩ := by
  repeat (first
    | with_reducible refine wpAny_loadPart_at hC ?_
    | with_reducible refine wpAny_madeBy_exc hC ?_
    | wp_step)
  have qn := Code.quiet_builtin (⟨.ref C :: rest, []⟩ : Args) F.quiet
  refine codeAny_call_builtin_code qn (check_newK hC ?_)
  refine newK hC ?_ hrest
  show wpAny _ _ _ _ _ _
  have k : ∀ b o, h.get? b = some o → ((h.push (W.kdv_tup rest)).push (excO C h.objs.size)).get? b = some o := by
    intro b o e
    exact Heap.get?_push_of_some _ (Heap.get?_push_of_some _ e)
  have hC1 := k _ _ hC
  have here : ((h.push (W.kdv_tup rest)).push (excO C h.objs.size)).get? (h.objs.size + 1) = some (excO C h.objs.size) := by
    heap_get
  have self : (Value.ref C :: tail).contains (.ref C) = true := by simp
  have i1 := hi.keeps k
  have b1 := (hb (.ref (h.objs.size + 1))).keeps k
  unfold isInstance
  repeat (first
    | with_reducible refine wpAny_loadPart_at here ?_
    | (with_reducible refine wpAny_isSubtype_exc hC1 ?_
       rw [self])
    | wp_step)
  show wpAny _ _ (typeLookup (.ref C) _) _ _ _
  refine i1.at ?_
  refine wpAny_holding (wpAny_bind (b1.at ?_))
  refine wpAny_bind (wpAny_call (codeAny_mono hq ?_))
  intro r s' z
  rcases r with e | (v | _ | _ | _)
  all_goals first | exact z | exact z.elim | skip
  obtain ⟨rfl, z⟩ := z
  first
    | exact wpAny_pure (wpAny_pure z)
    | (wp_walk
       exact z)
theorem callK {rest : List Value} {fI : Addr}
    (hC : h.get? C = some (excClassObj nm q C N bs tail hdct sn sub ab col dd k0 k1 k2 k3 k5 "LookupError.__new__"))
    (hi : W.Looks (model prog w) h (typeLookup (.ref C) "__init__") (some (.ref fI)))
    (hb : ∀ self, W.Looks (model prog w) h (bindSpecial (.ref fI) self) (.ref fI, [self])) (hrest : rest.length ≤ sizeLine)
    (hq : codeAny (model prog w) (A.under (.builtin "type.__call__" ⟨.ref C :: rest, []⟩)) (.call (.ref fI) ⟨.ref (h.objs.size + 1) :: rest, []⟩)
      (W.InitBack (h.objs.size + 1) R) ⟨(h.push (W.kdv_tup rest)).push (excO C h.objs.size), g, d, t, os⟩) :
    codeAny (model prog w) A (.call (.ref C) ⟨rest, []⟩) R ⟨h, g, d, t, os⟩ := by
  have f1 := tc_lookup
  have f2 := tc_bind (.ref C)
  have ty : (⟨h, g, d, t, os⟩ : Shared).TypeIs (.ref C) "type" := ⟨_, hC, rfl⟩
  refine codeAny_of_tree ?_
  show wpAny _ _ (callAny (.ref C) _) _ _ _
  repeat (any_goals (first
    | with_reducible exact ty
    | with_reducible exact f1
    | with_reducible exact f2
    | with_reducible refine wpAny_loadPart_at hC ?_
    | wp_step))
  refine ⟨rfl, ?_⟩
  have qt := Code.quiet_builtin (id := "type.__call__") (⟨.ref C :: rest, []⟩ : Args) (by decide +kernel)
  refine codeAny_call_builtin_at qt entry_typeCall (wpAny_check_type_call_sub hC (typeCallK hC hi hb hrest ?_))
  refine codeAny_mono hq ?_
  intro r s' z
  rcases r with e | (v | _ | _ | _)
  all_goals exact z
end
end Gk
end PySem
end

section
set_option Elab.async false
set_option linter.all false
set_option maxRecDepth 100000
set_option maxHeartbeats 4000000
namespace PySem
namespace Gk
open PySem.Calls PyProof.Rows PySem.HandSPX
theorem passK (self : Value) (C : Addr) : refuseLoop self "__setattr__" (.ref C :: tail) = pure () := by
  rw [refuseLoop_ref]
  kernel_rfl
theorem objK (C : Addr) : (Value.ref C :: tail).contains (.type "object") = true := by
  rw [List.contains_cons]
  exact Bool.or_eq_true_iff.mpr (.inr (by decide +kernel))
section
open Builtin Builtin.ObjectAttr
variable {prog : Program} {w : World} {A : Around} {R : Result → Shared → Prop} {hp : Heap} {g : Array GenState} {d : Drawn}
  {t : Nat} {os : OsState}
/-- the first self.name = v of such an object -/
theorem storeK {K : W.Frag} {name : Str} {tk : Tok} {v : Value} {x C : Addr} {fv : Array Value} {cd : ClassData}
    (X : K.In hp) (hx : hp.get? x = some { cls := .ref C, data := .fields fv }) (hcd : W.clsIn K C = some cd)
    (hm : cd.mro = .ref C :: tail) (hh : cd.hasDict = true) (ha : W.findIn K (.ref C) name = some none)
    (hq : ∀ h' tk' dx, (∀ b o, b ≠ x → hp.get? b = some o → h'.get? b = some o) → hp.objs.size ≤ dx → dx ≠ x →
      h'.get? x = some { cls := .ref C, dict := some dx, data := .fields fv } →
      h'.Ns1 dx (fun y => if y = name then some v else none) → R (.ok (.ret .none)) ⟨h', g, d, tk', os⟩) :
    codeAny (model prog w) A (.call (.builtin "object.__setattr__") ⟨[.ref x, .str name tk, v], []⟩) R ⟨hp, g, d, t, os⟩ := by
  have at_ : W.InstAt hp x { cls := .ref C, data := .fields fv } C none := ⟨hx, rfl, rfl, trivial⟩
  have S := PySem.F.store_object
  have ne : cd.mro.isEmpty = false := by rw [hm]; rfl
  have ob : cd.mro.contains (.type "object") = true := by rw [hm]; exact objK C
  have pas : refuseLoop (.ref x) "__setattr__" cd.mro = pure () := by rw [hm]; exact passK _ C
  have apart : x ≠ hp.objs.size := Nat.ne_of_lt (Heap.lt_size hx)
  have mro : W.mroIn K C (.type "object") = some true := by
    unfold W.mroIn
    rw [hcd, Option.bind_some, if_neg (by rw [ne]; decide), ob]
  have sub : W.Looks (model prog w) hp (isInstance (.ref x) (.type "object")) true := at_.type.andThen (W.looks_mroIn X mro)
  have l1 : W.Looks (model prog w) hp (mroOf (.ref C)) cd.mro := (W.looks_clsIn X hcd).andThen .now
  have l2 : W.Looks (model prog w) hp (storeTaker? none) none := .now
  have l3 : W.Looks (model prog w) hp (classData C) cd := W.looks_clsIn X hcd
  have l4 := W.looks_findIn (M := model prog w) X ha
  refine codeAny_call_builtin S.slot.plain S.entry ?_
  refine @W.check_slot (model prog w) _ _ ⟨hp, g, d, t, os⟩ "object.__setattr__" "object" "__setattr__" (.ref x) [.str name tk, v] []
    _ S.kind S.split sub (S.args (.ref x) (.str name tk) v) ?_
  rw [W.osa_eq, refuse_eq]
  refine wpAny_bind (wpAny_bind (at_.type.at (wpAny_bind (l1.at ?_))))
  rw [pas]
  refine wpAny_pure (wpAny_bind (at_.type.at ?_))
  refine wpAny_bind (l4.at (wpAny_bind (l2.at ?_)))
  show wpAny _ _ (storeInOwnDict (.ref x) (.ref C) (.str name tk) name v false) _ _ _
  obtain ⟨nm, bs, mro, ns, qn, hd, sn, sb, ab, col, del⟩ := cd
  dsimp only at hh
  subst hh
  unfold storeInOwnDict ownDictForStores
  repeat (first
    | with_reducible refine store_in_new ?_ ?_
    | with_reducible refine wpAny_loadPart_at hx ?_
    | with_reducible refine l3.at ?_
    | wp_step)
  · refine ⟨_, #[], _, (Heap.get?_update_ne _ _ _ _ apart.symm).trans (Heap.get?_push_at rfl rfl), rfl, ?_, fun _ => rfl⟩
    intro e he
    exact absurd he (by simp)
  · intro h' tk' hn hs
    have hx1 : (hp.push { cls := .type "dict", data := .dict #[] }).get? x = some { cls := .ref C, data := .fields fv } :=
      Heap.get?_push_of_some _ hx
    refine hq h' tk' hp.objs.size ?_ (Nat.le_refl _) apart.symm ?_ hn
    · intro b o hb ho
      have q := hs.2 b (Nat.ne_of_lt (Heap.lt_size ho))
      rw [q, Heap.get?_update_ne _ _ _ _ hb]
      exact Heap.get?_push_of_some _ ho
    · rw [hs.2 x apart]
      exact Heap.get?_update_self _ hx1 rfl
end
end Gk
end PySem
end

section
set_option Elab.async false
set_option linter.all false
set_option maxRecDepth 100000
set_option maxHeartbeats 4000000
/-! The same of an own class over KeyError; an exception raised that is made by its own __init__; the field that it keeps. -/
namespace Gd
open PySem PySem.Spec PyProof.Rows L2

/-- what the written part says of an own class over KeyError -/
structure OexK (K : PySem.W.Frag) (C : Addr) : Prop where
  cls : ∃ nm q N bs sn sub ab col dd k0 k1 k2 k3 k5, K.lookup C =
    some (excClassObj nm q C N bs Gk.tail true sn sub ab col dd k0 k1 k2 k3 k5 "LookupError.__new__")
  sa : PySem.W.findIn K (.ref C) "__setattr__" = some (some (.builtin "object.__setattr__"))
theorem makesKE {P : Program} {w : World} {K : PySem.W.Frag} {C fI : Addr} (T : OexK K C)
    (iC : PySem.W.findIn K (.ref C) "__init__" = some (some (.ref fI))) (tI : PySem.W.typeIn K (.ref fI) = some (.type "function")) :
    Makes P w K C fI := by
  obtain ⟨nm, qn, N, bs, sn, sub, ab, col, dd, k0, k1, k2, k3, k5, hC⟩ := T.cls
  intro A R hp g d t os us X hu hq
  have init := PySem.W.looks_findIn (M := model P w) X iC
  have bound := fun self => PySem.W.bind_fn (M := model P w) X self tI
  exact Gk.callK (X _ _ hC) init bound hu hq

/-- how self.f = .. is stored for the first time -/
def Keeps (X : Cx) (C : Addr) (f : Str) : Prop :=
  ∀ (pins : List (Addr × Obj)) (σ : L2.St) (H : Hp) (s : Shared) (a : Addr) (y : V) (u : Value) (Q : Unit → Shared → Prop)
    (E : Value → Shared → Prop), Inv X pins σ H s → H a = some (exo a C none) → RelV y u →
    (∀ dx s', H dx = none → dx ≠ a → Inv X pins σ (upd (upd H dx (exd dx [(f, y)])) a (exo a C (some dx))) s' → Q () s') →
    wpAny (model X.prog X.w) X.A (setAttr (.ref a) f u) Q E s
theorem keepsVE {X : Cx} {C : Addr} {f : Str} (T : OexC X.K C) (hno : PySem.W.findIn X.K (.ref C) f = some none) : Keeps X C f :=
  fun pins σ H s a y u Q E I e r h => ost_new T I e hno r h
theorem keepsKE {X : Cx} {C : Addr} {f : Str} (T : OexK X.K C) (hno : PySem.W.findIn X.K (.ref C) f = some none) : Keeps X C f := by
  intro pins σ H s a y u Q E I e ry h
  obtain ⟨nm, q, N, bs, sn, sub, ab, col, dd, k0, k1, k2, k3, k5, hC⟩ := T.cls
  obtain ⟨t1, ho⟩ := exo_at I.hok e
  obtain ⟨hp, g, d, t, os⟩ := s
  have hcl := (show PySem.W.clsIn X.K C = some _ by
    unfold PySem.W.clsIn
    rw [hC])
  refine PySem.W.set_plain I.kIn (od := none) ⟨ho, rfl, rfl, trivial⟩ T.sa ?_
  refine Gk.storeK I.kIn ho hcl rfl rfl hno ?_
  intro h' tk' dx k dn dne hx hn
  have hnd : H dx = none := I.hok.fresh dn
  have old : ∀ {b : Addr} {o : Obj}, hp.get? b = some o → b ≠ dx :=
    fun z => Nat.ne_of_lt (Nat.lt_of_lt_of_le (Heap.lt_size z) dn)
  have na : ∀ {b : Addr}, H b = none → b ≠ a := by
    intro b n z
    rw [z, e] at n
    cases n
  refine h dx _ hnd dne (I.un (t' := tk') ?_ ?_)
  · constructor
    · exact fun b o q n _ _ => k b o (na n) q
    · exact fun b o q n _ _ => ⟨o.slots, k b o (na n) q⟩
    · intro b o q n _
      rw [upd_ne (na n), upd_ne (old q)]
      exact n
    · intro b o q _
      by_cases hb : b = a
      · subst hb
        exact ⟨_, hx⟩
      · exact ⟨o, k b o hb q⟩
    · intro b xs q
      rw [upd_ne (at_ne e q exo_tup), upd_ne (ne_of_none q hnd)]
      exact q
    · intro b o v q
      rw [upd_ne (at_ne e q exo_frz), upd_ne (ne_of_none q hnd)]
      exact q
    · intro b ps q
      refine ⟨#[], ?_⟩
      rw [upd_ne (at_ne e q exo_tbl), upd_ne (ne_of_none q hnd), q]
      simp
  · intro b o q
    by_cases hb : b = a
    · subst hb
      rw [upd_same] at q
      cases q
      exact exo_ok hx
    · rw [upd_ne hb] at q
      by_cases hd : b = dx
      · subst hd
        rw [upd_same] at q
        cases q
        exact exd_ok hn (relO_put (fs := []) ry fun g => True.intro)
      · rw [upd_ne hd] at q
        refine (I.hok b o q).stay ?_ ?_ ?_
        · intro c v hc z
          refine k c v ?_ z
          rcases hc with hc | hc
          · exact hc ▸ hb
          · exact at_ne e hc exo_own
        · intro c hc
          rw [upd_ne (at_ne e hc exo_own), upd_ne (ne_of_none hc hnd)]
          exact hc
        · intro c xs hc
          rw [upd_ne (at_ne e hc exo_tup), upd_ne (ne_of_none hc hnd)]
          exact hc

/-- self.f = e, the first one -/
def tKeep (C : Addr) (f : Str) (to te : TE) : TS := fun D σ H => te σ H fun y H1 => to σ H1 fun x H2 => ∃ a : Addr, x = .ref a ∧
  H2 a = some (exo a C none) ∧ ∀ dx, H2 dx = none → dx ≠ a → D.nx σ (upd (upd H2 dx (exd dx [(f, y)])) a (exo a C (some dx)))
theorem ps_keep {X : Cx} {C : Addr} {o e : Expr} {to te : TE} {f : Str} {p' pos : Pos} (k : Keeps X C f) (ho : PE X o to) (he : PE X e te)
    (hs : swapsWith e (some (.Attribute o f p')) pos.line X.env = pure false := by rfl) :
    PS X (.Assign [.Attribute o f p'] e pos) (tKeep C f to te) := by
  constructor
  intro pins s σ H D I h
  refine plainObj_wpAny_Assign_Attribute (thn (he.run pins s σ H _ I h) ?_) hs
  rintro v s1 ⟨y, H1, I1, r1, q1⟩
  refine thn (ho.run pins s1 σ H1 _ I1 q1) ?_
  rintro u s2 ⟨x, H2, I2, r2, a, ex, ea, q⟩
  subst ex
  obtain rfl : u = Value.ref a := r2
  exact k _ _ _ _ _ _ _ _ _ I2 ea r1 fun dx s' n ne J => ⟨σ, _, J, q dx n ne⟩

section
variable {X : Cx} {e : Expr} {es : List Expr} {ta : TA} {p pos : Pos}
/-- raise C(e, ..): what is made -/
theorem pmkM {cx : CXT} {x : Str} {C fI : Addr} {n : Nat} {fd : FuncData} {ps : List Str} {sp : Sp} (mk : Makes X.prog X.w X.K C fI)
    (kC : PySem.W.keepIn X.K (.ref C) = true) (exC : PySem.W.subIn X.K (.ref C) (.type "BaseException") = some true)
    (tyC : PySem.W.typeIn X.K (.ref C) = some (.type "type")) (F1 : FnOk X.prog X.w X.K X.mg X.base cx n fI fd ps sp)
    (hr : Room (n + 1) X.A) (hb : Binds X.K fd ps []) (hx : Passes cx X (fun _ _ _ => False))
    (hg : Gl X x) (hm : X.mg x = some (.ref C)) (ha : PA X (e :: es) ta) (hdb : (x == ("__debug__" : Str)) = false := by decide)
    (he : starEach (e :: es) X.env = (false, eval e X.env) :: starEach es X.env := by rfl)
    (hpl : (backTo pos (starEach es X.env)).any (·.1) = false := by rfl) :
    PMk X (.Call (.Name x p) (e :: es) [] pos) (tMkO C sp [] ta) := by
  intro pins s σ H Q I h
  refine wpAny_Call_Name_kw (ld_glob I hg hm ?_ hdb)
  refine PySem.W.callWith_K (h₀ := X.base) I.ok.mod.kin kC (thn (ha.run pos pins s σ H _ I h) ?_) he hpl
  rintro us s1 ⟨vs, H1, I1, r1, hz, q1⟩
  refine ⟨I1.kIn, ?_⟩
  show wpAny _ _ (call (.ref C) us) _ _ _
  obtain ⟨hp, g, d, t, os⟩ := s1
  have up : hp.objs.size ≤ hp.objs.size + 1 := Nat.le_succ _
  have new := I1.hok.fresh up
  have hq := q1 _ new
  rw [List.append_nil] at hq
  have kk : ∀ b o, hp.get? b = some o →
      ((hp.push (PySem.W.kdv_tup us)).push (PySem.HandSPX.excO C hp.objs.size)).get? b = some o :=
    fun b o z => Heap.get?_push_of_some _ (Heap.get?_push_of_some _ z)
  have here : ((hp.push (PySem.W.kdv_tup us)).push (PySem.HandSPX.excO C hp.objs.size)).get? (hp.objs.size + 1)
      = some (PySem.HandSPX.excO C hp.objs.size) := by heap_get
  have J := I1.laid (t' := t) (a := hp.objs.size + 1) (o := exo (hp.objs.size + 1) C none) kk up (exo_ok here)
  have r2 : Vals (V.ref (hp.objs.size + 1) :: vs) (Value.ref (hp.objs.size + 1) :: us) := .cons rfl r1
  have hl : ((Value.ref (hp.objs.size + 1) :: us) ++ []).length = ps.length := by
    rw [List.append_nil, ← F1.len _ _ _ _ hq]
    exact (Paired.length r2).symm
  have bd := hb _ (Value.ref (hp.objs.size + 1) :: us) J.kIn hl
  rw [List.append_nil] at bd
  have hu : us.length ≤ sizeLine := by
    rw [← Paired.length r1, sizeLine_eq]
    omega
  have all := F1.run _ X.stack _ _ ⟨Value.ref (hp.objs.size + 1) :: us, []⟩ _ _ _ _ (hr.make C us []) (J.env0.make C us []) bd r2 hq
  refine wpAny_call (mk X.A _ hp g d t os us I1.kIn hu (codeAny_mono all ?_))
  intro o s' z
  cases o with
  | error er => exact hx pins σ _ _ er s' J z
  | ok fl =>
    cases fl with
    | ret u =>
      obtain ⟨v, H2, os2, bare2, un2, hok2, rv, ev, dd, fs, ea, ed, hd1, q2⟩ := z
      subst ev
      obtain ⟨h2, g2, d2, t2, os'⟩ := s'
      exact ⟨rv, mk_end (raises_own exC tyC) I1 up kk un2 hok2 os2 bare2 ea ed hd1 q2⟩
    | _ => exact False.elim z
end
end Gd
end

section
set_option Elab.async false
set_option linter.all false
set_option maxRecDepth 100000
set_option maxHeartbeats 4000000
/-! xs.count(b), xs a list of truths. -/
namespace Gd
open PySem PySem.Spec PyProof.Rows L2
def isB (b : Bool) (v : Value) : Bool := match v with
  | .bool c => c == b
  | _ => false
theorem isB_at {A : Around} {s : Shared} {b : Bool} : ∀ {us : List Value} {bs : List Bool}, Vals (bs.map V.bl) us → ∀ y ∈ us, SeqAt.EqAt A s y (.bool b) (isB b y)
  | [], _, _ => fun y hy => nomatch hy
  | _ :: _, [], r => nomatch r
  | u :: us, c :: bs, r => fun y hy => by
    cases r with
    | cons h t =>
      obtain rfl : u = Value.bool c := h
      rcases List.mem_cons.mp hy with e | e
      · subst e
        exact SeqAt.EqAt.bool_bool c b
      · exact isB_at t y e
theorem isB_count {b : Bool} : ∀ {us : List Value} {bs : List Bool}, Vals (bs.map V.bl) us → us.countP (isB b) = bs.count b
  | [], [], _ => rfl
  | [], _ :: _, r => nomatch r
  | _ :: _, [], r => nomatch r
  | u :: us, c :: bs, r => by
    cases r with
    | cons h t =>
      obtain rfl : u = Value.bool c := h
      have ih := isB_count (b := b) t
      rw [List.countP_cons, List.count_cons, ih]
      rfl
def rCntB (K : PySem.W.Frag) : V → List V → Hp → VK → Prop := fun x xs H Q => ∃ (p : Addr) (bs : List Bool) (b : Bool), x = .ref p ∧ xs = [.bl b] ∧
  SqL K H p (bs.map V.bl) ∧ Q (.int (bs.count b : Nat)) H
theorem mt_countB {X : Cx} : MtR X "list.count" (rCntB X.K) := by
  intro pins s σ H x xs v us Q I rx rxs h
  obtain ⟨p, bs, b, rfl, rfl, hs, q⟩ := h
  obtain rfl : v = Value.ref p := rx
  obtain ⟨u, rfl, ru⟩ := rxs.one
  obtain rfl : u = Value.bool b := ru
  obtain ⟨its, rv, ⟨⟨cls, dd, data, sl⟩, n, ho, hc, hdn, hd⟩, hlen⟩ := I.list hs
  simp only at hc hd
  subst hc hd
  have ty : s.TypeIs (.ref p) "list" := ⟨_, ho, rfl⟩
  have ar := PySem.F.args_list_count_2 (.ref p) (.bool b)
  refine call_meets PySem.F.slot_list_count ty PySem.F.entry_list_count ar
    (SeqAt.list_countAt p its.toArray n dd sl (.bool b) (isB b)) ⟨ho, fun y hy => isB_at rv y (by simpa using hy), ?_⟩
  have ec : its.toArray.toList.countP (isB b) = bs.count b := isB_count rv
  refine ⟨.int (bs.count b : Nat), H, I.tok _, ⟨s.toks, ?_⟩, q⟩
  show Value.int ((its.toArray.toList.countP (isB b) : Nat) : Int) s.toks = _
  rw [ec]
end Gd
end

section
set_option Elab.async false
set_option linter.all false
set_option maxRecDepth 100000
set_option maxHeartbeats 4000000
namespace K99
open PySem PySem.Spec PyProof.Rows L2 Gd
def topS (i : Nat) : Stmt := PySem.Challenge.pw_plansamid_k99_each_refusal_of_its_class.main.body.getD i (.Pass ⟨0, 0, 0, 0⟩)
abbrev sFeed : Stmt := topS 23
abbrev sTake : Stmt := topS 24
abbrev sThing : Stmt := topS 25
theorem scFeed : FnScope ["_law_script", "_law_k", "_law_cell", "_law_great"] ["_law_script", "_law_k"] (defScope sFeed) :=
  ⟨rfl, rfl, rfl, by decide +kernel, rfl, by decide +kernel, by decide +kernel⟩
theorem scTake : FnScope ["_law_feed_here", "_law_many", "_law_digit", "_law_turn", "_law_mixed"] ["_law_feed_here", "_law_many"] (defScope sTake) :=
  ⟨rfl, rfl, rfl, by decide +kernel, rfl, by decide +kernel, by decide +kernel⟩
theorem scThing : FnScope ["_law_feed_here", "_law_number", "_law_some"] ["_law_feed_here"] (defScope sThing) :=
  ⟨rfl, rfl, rfl, by decide +kernel, rfl, by decide +kernel, by decide +kernel⟩
section
variable {P : Program} {w : World} {K : PySem.W.Frag} {mg : Str → Option Value} {base : Heap} {f : Addr} {fd : FuncData}
theorem ok_take (F : Fun K "_law_take" "_law_take" sTake f fd) : FnOk P w K mg base CX0 1 f fd ["_law_feed_here", "_law_many"] spTake := by
  refine F.ok scTake (fun vs H Q E h => ?_) (fun cdv A outer s H vs Q E hr h => ?_)
  · obtain ⟨p, m, S, rfl, _⟩ := h
    rfl
  obtain ⟨p, m, S, rfl, ⟨g, x, n, ep, n0, nS⟩, m0, m1, hS, q⟩ := h
  have nd := scTake.nd
  refine ⟨_, pss_cons (ps_if (pt_cmpR op_gt (pe_ix ix_list (pv 0) pe_int (fun _ _ => rfl)) pe_int (nomark _))
      (pss_cons (ps_set (i := 2) nd rfl (.inl rfl) (pe_op op_modN (pe_ix ix_list (pv 0) pe_int (fun _ _ => rfl)) (pv 1)))
      (pss_cons (ps_asg (pe_op op_fdivN (pe_ix ix_list (pv 0) pe_int (fun _ _ => rfl)) (pv 1)) (pg_sub (pv 0) pe_int set_list))
      (pss_one (ps_ret (pv 2))))) pss_nil)
    (pss_cons (ps_set (i := 3) nd rfl (.inl rfl) (pe_op op_add (pe_ix ix_list (pv 0) pe_int (fun _ _ => rfl)) pe_int))
    (pss_cons (ps_asg (pv 3) (pg_sub (pv 0) pe_int set_list))
    (pss_cons (ps_set (i := 4) nd rfl (.inl rfl) (pe_op op_modN (pe_op op_add (pe_op op_add (pe_ix ix_list (pv 0) pe_int (fun _ _ => rfl))
        (pe_op op_mul (pe_op op_mul pe_int (pv 3)) (pv 3))) (pe_op op_mul pe_int (pv 3))) pe_int))
    (pss_cons (ps_set (i := 4) nd rfl (.inl rfl) (pe_op op_modN (pe_op op_add (pe_op op_add (pe_op op_mul (pv 4) (pv 4))
        (pe_op op_mul pe_int (pv 4))) (pv 3)) pe_int))
    (pss_cons (ps_set (i := 4) nd rfl (.inl rfl) (pe_op op_modN (pe_op op_add (pe_op op_mul (pv 4) (pv 4)) (pe_op op_mul pe_int (pv 4))) pe_int))
    (pss_one (ps_ret (pe_op op_modN (pe_op op_fdivN (pv 4) pe_int) (pv 1))))))))), ?_⟩
  have L : SqL K H p [.int g, .int x, .int n] := SqL.of ep
  refine ⟨_, rfl, p, _, 0, .int g, rfl, rfl, L, atI_nat (j := 0) rfl, g, 0, rfl, rfl, _, rfl, ite2 (fun c => ?_) (fun c => ?_)⟩
  · refine ⟨_, rfl, p, _, 0, .int g, rfl, rfl, L, atI_nat (j := 0) rfl, _, rfl, g, m, rfl, rfl, by omega, ?_⟩
    refine ⟨_, rfl, p, _, 0, .int g, rfl, rfl, L, atI_nat (j := 0) rfl, _, rfl, g, m, rfl, rfl, ⟨by omega, by omega⟩, ?_⟩
    refine ⟨_, rfl, p, _, 0, 0, rfl, rfl, ep, rfl, ?_⟩
    refine ⟨_, rfl, ?_⟩
    obtain ⟨r0, r1⟩ := fmod_in g m0
    exact q _ _ r0 r1 (Feed.here (by omega) (by omega)) .at
  · refine ⟨_, rfl, p, _, 2, .int n, rfl, rfl, L, atI_nat (j := 2) rfl, n, 1, rfl, rfl, ?_⟩
    refine ⟨_, rfl, _, rfl, p, _, 2, 2, rfl, rfl, ep, rfl, ?_⟩
    have L2 : SqL K (upd H p (.lst [.int g, .int x, .int (n + 1)])) p [.int g, .int x, .int (n + 1)] := SqL.of upd_same
    refine ⟨_, rfl, p, _, 1, .int x, rfl, rfl, L2, atI_nat (j := 1) rfl, _, rfl, _, _, rfl, rfl, .inl ⟨by omega, by omega⟩, _, rfl, _, _, rfl, rfl, .inr ⟨by omega, by omega⟩, _, _, rfl, rfl,
      _, rfl, _, _, rfl, rfl, .inl ⟨by omega, by omega⟩, _, _, rfl, rfl, _, _, rfl, rfl, by omega, ?_⟩
    obtain ⟨a0, a1⟩ := fmod_in (x + 30011 * (n + 1) * (n + 1) + 69621 * (n + 1)) (b := 2147483647) (by omega)
    dsimp only
    generalize (x + 30011 * (n + 1) * (n + 1) + 69621 * (n + 1)).fmod 2147483647 = m1 at a0 a1 ⊢
    refine ⟨_, rfl, _, rfl, m1, m1, rfl, rfl, .inl ⟨by omega, by omega⟩, _, rfl, _, m1, rfl, rfl, .inl ⟨by omega, by omega⟩, _, _, rfl, rfl, _, rfl, _, _, rfl, rfl, _, _, rfl, rfl, by omega, ?_⟩
    obtain ⟨b0, b1⟩ := fmod_in (m1 * m1 + 39373 * m1 + (n + 1)) (b := 2147483579) (by omega)
    dsimp only
    generalize (m1 * m1 + 39373 * m1 + (n + 1)).fmod 2147483579 = m2 at b0 b1 ⊢
    refine ⟨_, rfl, _, rfl, m2, m2, rfl, rfl, .inl ⟨by omega, by omega⟩, _, rfl, _, m2, rfl, rfl, .inl ⟨by omega, by omega⟩, _, _, rfl, rfl, _, _, rfl, rfl, by omega, ?_⟩
    obtain ⟨c0, c1⟩ := fmod_in (m2 * m2 + 16807 * m2) (b := 2147483549) (by omega)
    dsimp only
    generalize (m2 * m2 + 16807 * m2).fmod 2147483549 = m3 at c0 c1 ⊢
    refine ⟨_, rfl, m3, 64, rfl, rfl, ⟨by omega, by omega⟩, _, rfl, _, m, rfl, rfl, by omega, ?_⟩
    obtain ⟨d0, d1⟩ := fmod_in (m3.fdiv 64) m0
    exact q _ _ d0 d1 (Feed.here (by omega) (by omega)) .at

/-- the seed of turn k -/
def spFeed (K : PySem.W.Frag) : Sp := fun vs H Q _ => ∃ (a : Addr) (ns : List Int) (k : Int), vs = [.ref a, .int k] ∧ SqL K H a (ns.map V.int) ∧
  0 ≤ k ∧ k ≤ 1000 ∧ ∀ (p : Addr) (fs : List V), H p = none → Feed (upd H p (.lst fs)) p 0 → Q (.ref p) (upd H p (.lst fs))
theorem ok_feed (F : Fun K "_law_feed" "_law_feed" sFeed f fd) (ml : mg "len" = none) (ma : mg "abs" = none) :
    FnOk P w K mg base CX0 1 f fd ["_law_script", "_law_k"] (spFeed K) := by
  refine F.ok scFeed (fun vs H Q E h => ?_) (fun cdv A outer s H vs Q E hr h => ?_)
  · obtain ⟨a, ns, k, rfl, _⟩ := h
    rfl
  obtain ⟨a, ns, k, rfl, hS, k0, k1, q⟩ := h
  have nd := scFeed.nd
  refine ⟨_, pss_cons (ps_set (i := 2) nd rfl (.inl rfl) pe_int)
    (C8.pss_cut (ps_if (pt_cmpR op_lt (pv 1) (pe_callB call_len_seq (by rfl) ml PySem.boot_len (pa_cons (pv 0) pa_nil)) (nomark _))
      (pss_one (ps_set (i := 2) nd rfl (.inl rfl) (pe_ix ix_list (pv 0) (pv 1) (fun _ _ => rfl)))) pss_nil)
    (pss_cons (ps_set (i := 3) nd rfl (.inl rfl) (pe_callB call_abs (by rfl) ma (by decide +kernel) (pa_cons (pv 2) pa_nil)))
    (C8.pss_cut (ps_if (pt_cmpR op_lt (pv 3) (pe_op op_pow pe_int pe_int) (nomark _))
      (pss_one (ps_set (i := 3) nd rfl (.inl rfl) pe_int)) pss_nil)
    (pss_one (ps_ret (pe_lst (pa_cons (pv 3) (pa_cons (pe_op op_modN (pe_op op_add (pe_op op_add (pe_op op_mul (pe_op op_modN (pv 2) pe_int) pe_int)
        (pe_op op_mul pe_int (pv 1))) pe_int) pe_int) (pa_cons pe_int pa_nil))))))))), ?_⟩
  refine ⟨fun σ' H' => H' = H ∧ ∃ c : Int, σ' = [some (.ref a), some (.int k), some (.int c), none], ?_, ?_⟩
  · refine ⟨_, rfl, _, rfl, a, _, rfl, .inl hS, _, _, rfl, rfl, _, rfl, ite2 (fun e => ?_) (fun e => ?_)⟩
    · have e' : k < ((ns.map V.int).length : Int) := of_decide_eq_true e
      rw [List.length_map] at e'
      have h2 : k.toNat < ns.length := by omega
      have g : atI (ns.map V.int) ((k.toNat : Nat) : Int) = some (.int ns[k.toNat]) :=
        atI_nat (by rw [List.getElem?_map, List.getElem?_eq_getElem h2] <;> rfl)
      rw [show ((k.toNat : Nat) : Int) = k by omega] at g
      exact ⟨_, rfl, _, rfl, a, _, k, _, rfl, rfl, hS, g, rfl, _, rfl⟩
    · exact ⟨rfl, _, rfl⟩
  rintro σ' H' ⟨rfl, c, rfl⟩
  refine ⟨_, rfl, c, rfl, ?_⟩
  refine ⟨fun σ' H2 => H2 = H' ∧ ∃ b : Int, σ' = [some (.ref a), some (.int k), some (.int c), some (.int b)], ?_, ?_⟩
  · refine ⟨_, rfl, 10, 18, rfl, rfl, ⟨by decide, by decide, by decide⟩, _, _, rfl, rfl, _, rfl, ite2 (fun e => ?_) (fun e => ?_)⟩
    · exact ⟨rfl, _, rfl⟩
    · exact ⟨rfl, _, rfl⟩
  rintro σ' H2 ⟨rfl, b, rfl⟩
  obtain ⟨a0, a1⟩ := fmod_in c (b := 2147483423) (by omega)
  refine ⟨_, rfl, _, rfl, c, _, rfl, rfl, by omega, _, _, rfl, rfl, .inl ⟨by omega, by omega⟩, _, rfl, _, k, rfl, rfl, .inl ⟨by omega, by omega⟩, _, _, rfl, rfl,
    _, _, rfl, rfl, _, _, rfl, rfl, by omega, (by show 3 ≤ sizeLine; decide), fun p hp => ?_⟩
  exact q p _ hp (Feed.here (by omega) (by omega))
end
end K99
end

section
set_option Elab.async false
set_option linter.all false
set_option maxRecDepth 100000
set_option maxHeartbeats 4000000
namespace K99
open PySem PySem.Spec PyProof.Rows L2 Gd
abbrev sCopied : Stmt := topS 1
theorem scCopied : FnScope ["thing", "one"] ["thing"] (defScope sCopied) :=
  ⟨rfl, rfl, rfl, by decide +kernel, rfl, by decide +kernel, by decide +kernel⟩
/-- a copy, n deep at most -/
def spCopied (K : PySem.W.Frag) (n : Nat) : Sp := fun vs H Q _ => ∃ (v : V) (d : PyData), vs = [v] ∧ Dp K H v d ∧ tupOnly d = true ∧ d.depth < n ∧
  ∀ (v' : V) (H' : Hp), Same H H' → Dp K H' v' d → Q v' H'
structure Bl (mg : Str → Option Value) : Prop where
  isi : mg "isinstance" = none
  lst : mg "list" = none
  tup : mg "tuple" = none
  dct : mg "dict" = none
section
variable {P : Program} {w : World} {K : PySem.W.Frag} {mg : Str → Option Value} {base : Heap} {f : Addr} {fd : FuncData}
theorem copied_step {n : Nat} (F : Fun K "copied" "copied" sCopied f fd) (G : FnOk P w K mg base CX0 n f fd ["thing"] (spCopied K n))
    (b : Binds K fd ["thing"] []) (gF : mg "copied" = some (.ref f)) (B : Bl mg) :
    FnOk P w K mg base CX0 (n + 1) f fd ["thing"] (spCopied K (n + 1)) := by
  refine F.ok scCopied (fun vs H Q E h => ?_) (fun cdv A outer s H vs Q E hr h => ?_)
  · obtain ⟨v, d, rfl, _⟩ := h
    rfl
  obtain ⟨v, d, rfl, hd, ho, hn, q⟩ := h
  have nd := scCopied.nd
  refine ⟨_, pss_cons (ps_if (pt_val (pe_callB call_isi (by rfl) B.isi (by decide +kernel) (pa_cons (pv 0) (pa_cons (pe_bltn (v := .ty "list") (by rfl) B.lst (by decide +kernel) rfl) pa_nil)))) pss_never pss_nil)
    (pss_cons (ps_if (pt_val (pe_callB call_isi (by rfl) B.isi (by decide +kernel) (pa_cons (pv 0) (pa_cons (pe_bltn (v := .ty "tuple") (by rfl) B.tup (by decide +kernel) rfl) pa_nil))))
      (pss_one (ps_ret (pe_tupleOf (by rfl) B.tup (pe_lc (own := [("one", 1)]) (g := gName 1) (tt := tYes) rfl nd (pi_tup (pv 0))
        (blkOk_by (N := ["thing", "one"]) (sc := defScope sCopied) (by decide +kernel)) (fun _ _ _ _ _ => pg_name (i := 1) nd rfl (Or.inl rfl)) (fun _ _ _ _ _ => pts_nil)
        (fun _ _ _ _ _ => pe_call G hr (by rfl) gF F.kp b .nil pass0 (pa_cons (pv 1) pa_nil)))))) pss_nil)
    (pss_cons (ps_if (pt_val (pe_callB call_isi (by rfl) B.isi (by decide +kernel) (pa_cons (pv 0) (pa_cons (pe_bltn (v := .ty "dict") (by rfl) B.dct (by decide +kernel) rfl) pa_nil)))) pss_never pss_nil)
    (pss_one (ps_ret (pv 0))))), ?_⟩
  have kd := Gd.Dp.kind hd ho
  have nolist := kind_list ho
  have nodict := kind_dict ho
  refine ⟨_, rfl, _, _, _, _, false, rfl, .ty _, kd, kit_ty nolist, false, rfl, iteF ?_⟩
  by_cases ht : ∃ ds, d = .tuple ds
  · obtain ⟨ds, rfl⟩ := ht
    refine ⟨_, rfl, _, _, _, _, true, rfl, .ty _, kd, kit_ty kb4.2.1, true, rfl, iteT ?_⟩
    cases hd with
    | @tup a xs _ hS hA =>
      have oo : ds.length ≤ 1000 ∧ tupOnlyAll ds = true := by simpa only [tupOnly, Bool.and_eq_true, decide_eq_true_eq] using ho
      have ol := oo.2
      have dl : PyData.depthAll ds < n := by
        simp only [PyData.depth] at hn
        omega
      refine ⟨_, rfl, a, rfl, ⟨_, hS⟩, fun D hD => ?_⟩
      refine lc_tup (K := K) (a := a) (xs := xs) (fun i H' => Same H H' ∧ ∃ acc, H' D = some (.lst acc) ∧ DpAll K H' acc (ds.take i)) ?_ ?_ ?_ ?_
      · exact ⟨fun b u e => by rw [upd_ne (ne_of_none e hD)]; exact e, [], upd_same, by rw [List.take_zero]; exact .nil⟩
      · rintro i H' _ ⟨sm, _⟩
        exact Tups.of_same sm _ _ hS
      · rintro i x H' hx ⟨sm, acc, eD, hacc⟩
        obtain ⟨d, ed, hdx⟩ := Gd.DpAll.at_ hA hx
        have odx := tupOnlyAll_at ol ed
        refine ⟨rfl, ?_⟩
        unfold tYes
        dsimp only
        rw [if_pos rfl]
        refine ⟨_, rfl, x, d, rfl, Gd.Dp.same sm d hdx, odx, Nat.lt_of_le_of_lt (depth_at ed) dl, fun v' H2 sm2 hv => ?_⟩
        have eD2 := sm2 _ _ eD
        have t3 : Tups K H2 (upd H2 D (.lst (acc ++ [v']))) := .upd_lst eD2
        refine ⟨acc, eD2, ?_, ?_, acc ++ [v'], upd_same, ?_⟩
        · rw [Gd.DpAll.len hacc, List.length_take]
          exact Nat.lt_of_le_of_lt (Nat.min_le_right _ _) (small1000 oo.1)
        · intro b u e
          rw [upd_ne (ne_of_none e hD)]
          exact sm2 _ _ (sm _ _ e)
        · have e2 : ds.take (i + 1) = ds.take i ++ [d] := by
            rw [List.take_add_one, ed]
            rfl
          rw [e2]
          have o2 : tupOnlyAll (ds.take i) = true := tupOnlyAll_take ol i
          exact Gd.DpAll.snoc (Gd.DpAll.tups (Tups.trans (Tups.of_same sm2) t3) _ o2 hacc) (Gd.Dp.tups t3 d odx hv)
      · rintro H' ⟨sm, acc, eD, hacc⟩
        have el : xs.length = ds.length := Gd.DpAll.len hA
        rw [el, List.take_length] at hacc
        refine .inl ⟨D, acc, rfl, SqL.of eD, fun p hp => ?_⟩
        refine q _ _ (fun b u e => ?_) (.tup (SqT.of upd_same) ?_)
        · rw [upd_ne (ne_of_none (sm _ _ e) hp)]
          exact sm _ _ e
        · exact Gd.DpAll.same (fun b u e => by rw [upd_ne (ne_of_none e hp)]; exact e) _ hacc
  · refine ⟨_, rfl, _, _, _, _, false, rfl, .ty _, kd, kit_ty (kind_tuple ho ht), false, rfl, iteF ?_⟩
    refine ⟨_, rfl, _, _, _, _, false, rfl, .ty _, kd, kit_ty nodict, false, rfl, iteF ?_⟩
    exact ⟨_, rfl, q _ _ (fun _ _ e => e) hd⟩
theorem copied_none : FnOk P w K mg base CX0 0 f fd ["thing"] (spCopied K 0) := by
  have no : ∀ vs H Q E, ¬ spCopied K 0 vs H Q E := by
    rintro vs H Q E ⟨v, d, _, _, _, hn, _⟩
    omega
  exact ⟨fun vs H Q E h => absurd h (no vs H Q E), fun A outer s H args us vs Q E _ _ _ _ h => absurd h (no vs H Q E)⟩
theorem ok_copied (F : Fun K "copied" "copied" sCopied f fd) (b : Binds K fd ["thing"] []) (gF : mg "copied" = some (.ref f)) (B : Bl mg) :
    ∀ n : Nat, FnOk P w K mg base CX0 n f fd ["thing"] (spCopied K n)
  | 0 => copied_none
  | n + 1 => copied_step F (ok_copied F b gF B n) b gF B
end
end K99
end

section
set_option Elab.async false
set_option linter.all false
set_option maxRecDepth 100000
set_option maxHeartbeats 4000000
namespace K99
open PySem PySem.Spec PyProof.Rows L2 Gd
/-- data that is copied and shown -/
structure Good (d : PyData) : Prop where
  tup : tupOnly d = true
  dep : d.depth < 5
  shw : d.showable = true
  len : d.shown.length ≤ 1000
def nums : List Int := [0, 7, -3, 10 ^ 30]
def spThing (K : PySem.W.Frag) : Sp := fun vs H Q _ => ∃ (p : Addr) (S : Int), vs = [.ref p] ∧ Feed H p S ∧ S ≤ 100000000 ∧
  ∀ (v : V) (d : PyData) (H' : Hp), Ex1 p H H' → Dp K H' v d → Good d → Q v H'
theorem good_num : ∀ n ∈ nums, (PyData.int n).showable = true ∧ (toString n : Str).length ≤ 31 := by decide +kernel
theorem num_at {r : Int} (h0 : 0 ≤ r) (h1 : r < 4) : ∃ n, atI (nums.map V.int) r = some (.int n) ∧ n ∈ nums := by
  have : r = 0 ∨ r = 1 ∨ r = 2 ∨ r = 3 := by omega
  rcases this with rfl | rfl | rfl | rfl
  · exact ⟨0, rfl, by decide⟩
  · exact ⟨7, rfl, by decide⟩
  · exact ⟨-3, rfl, by decide⟩
  · exact ⟨10 ^ 30, rfl, by decide⟩
theorem goods {n : Int} (h : n ∈ nums) : Good (.int n) ∧ Good (.str (toString n)) ∧ Good (.tuple [.int n, .str "a"]) ∧ Good .none ∧
    (∀ b, Good (.bool b)) ∧ Good (.str "") ∧ Good (.tuple []) ∧ Good (.tuple [.str "a", .tuple [.str "b", .int n]]) := by
  have all : ∀ n ∈ nums, ∀ d ∈ [PyData.int n, .str (toString n), .tuple [.int n, .str "a"], .none, .bool true, .bool false, .str "", .tuple [],
      .tuple [.str "a", .tuple [.str "b", .int n]]], tupOnly d = true ∧ d.depth < 5 ∧ d.showable = true ∧ d.shown.length ≤ 1000 := by
    decide +kernel
  have g : ∀ d ∈ [PyData.int n, .str (toString n), .tuple [.int n, .str "a"], .none, .bool true, .bool false, .str "", .tuple [],
      .tuple [.str "a", .tuple [.str "b", .int n]]], Good d := fun d hd => by
    obtain ⟨a, b, c, e⟩ := all n h d hd
    exact ⟨a, b, c, e⟩
  refine ⟨g _ ?_, g _ ?_, g _ ?_, g _ ?_, fun b => ?_, g _ ?_, g _ ?_, g _ ?_⟩
  all_goals first
    | simp
    | (cases b
       · exact g _ (by simp)
       · exact g _ (by simp))

section
variable {P : Program} {w : World} {K : PySem.W.Frag} {mg : Str → Option Value} {base : Heap} {f fT : Addr} {fd fdT : FuncData}
theorem ok_thing (F : Fun K "_law_thing" "_law_thing" sThing f fd) (FT : Fun K "_law_take" "_law_take" sTake fT fdT)
    (bT : Binds K fdT ["_law_feed_here", "_law_many"] []) (gT : mg "_law_take" = some (.ref fT)) (ms : mg "str" = none) :
    FnOk P w K mg base CX0 2 f fd ["_law_feed_here"] (spThing K) := by
  have G : FnOk P w K mg base CX0 1 fT fdT ["_law_feed_here", "_law_many"] spTake := ok_take FT
  refine F.ok scThing (fun vs H Q E h => ?_) (fun cdv A outer s H vs Q E hr h => ?_)
  · obtain ⟨p, S, rfl, _⟩ := h
    rfl
  obtain ⟨p, S, rfl, hF, hS, q⟩ := h
  have nd := scThing.nd
  refine ⟨_, pss_cons (ps_set (i := 1) nd rfl (.inl rfl) (pe_ix ix_list (pe_lst (pa_cons pe_int (pa_cons pe_int (pa_cons (pe_op op_sub pe_int pe_int) (pa_cons (pe_op op_pow pe_int pe_int) pa_nil)))))
        (pe_call G hr (by rfl) gT FT.kp bT .nil pass0 (pa_cons (pv 0) (pa_cons pe_int pa_nil))) (fun _ _ => rfl)))
    (pss_cons (ps_set (i := 2) nd rfl (.inl rfl) (pe_lst (pa_cons (pv 1) (pa_cons (pe_callTy call_str_int (by rfl) ms (by decide +kernel) (pa_cons (pv 1) pa_nil))
        (pa_cons (pe_tup (pa_cons (pv 1) (pa_cons pe_str pa_nil))) (pa_cons pe_non (pa_cons (pe_cmpR op_eq (pv 1) pe_int (nomark _)) (pa_cons pe_str (pa_cons (pe_tup pa_nil)
        (pa_cons (pe_tup (pa_cons pe_str (pa_cons (pe_tup (pa_cons pe_str (pa_cons (pv 1) pa_nil))) pa_nil))) pa_nil))))))))))
    (pss_one (ps_ret (pe_ix ix_list (pv 2) (pe_call G hr (by rfl) gT FT.kp bT .nil pass0 (pa_cons (pv 0) (pa_cons pe_int pa_nil))) (fun _ _ => rfl))))), ?_⟩
  refine ⟨_, _, rfl, rfl, _, _, rfl, rfl, ⟨by decide, by decide, by decide⟩, (by show 4 ≤ sizeLine; decide), fun l hl => ?_⟩
  refine ⟨_, rfl, p, 4, S, rfl, hF.stays hl, by omega, by omega, by omega, fun r H1 r0 r1 hF1 x1 => ?_⟩
  obtain ⟨n, en, hn⟩ := num_at r0 r1
  have el : H1 l = some (.lst (nums.map V.int)) := x1 l _ (hF.ne hl) upd_same
  refine ⟨l, nums.map V.int, r, .int n, rfl, rfl, SqL.of el, en, ?_⟩
  obtain ⟨gn, gs⟩ := good_num n hn
  have lg : n.natAbs.log2 < 1920 := by simpa [PyData.showable] using gn
  refine ⟨_, rfl, _, rfl, n, rfl, lg, _, rfl, (by show 2 ≤ sizeLine; decide), fun t1 h1 => ?_⟩
  refine ⟨_, rfl, rfl, (by show 0 ≤ sizeLine; decide), fun t2 h2 => ?_⟩
  refine ⟨_, rfl, (by show 2 ≤ sizeLine; decide), fun t3 h3 => (⟨(by show 2 ≤ sizeLine; decide), fun t4 h4 => ?_⟩ : _ ∧ _)⟩
  refine ⟨(by show 8 ≤ sizeLine; decide), fun L hL => ?_⟩
  have F1 := hF1.stays (o := .tup [.int n, .str "a"]) h1
  have F2 := F1.stays (o := .tup []) h2
  have F3 := F2.stays (o := .tup [.str "b", .int n]) h3
  have F4 := F3.stays (o := .tup [.str "a", .ref t3]) h4
  have F5 := F4.stays (o := .lst [.int n, .str (toString n), .ref t1, .non, .bl (decide (V.int n = V.int 7)), .str "", .ref t2, .ref t4]) hL
  refine ⟨_, rfl, _, rfl, p, 8, S + 1, rfl, F5, by omega, by omega, by omega, fun r2 H6 r20 r21 hF6 x6 => ?_⟩
  have hLp : L ≠ p := F4.ne hL
  have eL := x6 L _ hLp upd_same
  obtain ⟨ys, ep5⟩ := F5.lst
  have T56 := x6.tups (K := K) ep5
  have T45 := Tups.new (K := K) (o := .lst [.int n, .str (toString n), .ref t1, .non, .bl (decide (V.int n = V.int 7)), .str "", .ref t2, .ref t4]) hL
  have T34 := Tups.new (K := K) (o := .tup [.str "a", .ref t3]) h4
  have T23 := Tups.new (K := K) (o := .tup [.str "b", .int n]) h3
  have T12 := Tups.new (K := K) (o := .tup []) h2
  have T46 := T45.trans T56
  have T36 := T34.trans T46
  have T26 := T23.trans T36
  have T16 := T12.trans T26
  have s1 : SqT K H6 t1 [.int n, .str "a"] := T16 _ _ (SqT.of upd_same)
  have s2 : SqT K H6 t2 [] := T26 _ _ (SqT.of upd_same)
  have s3 : SqT K H6 t3 [.str "b", .int n] := T36 _ _ (SqT.of upd_same)
  have s4 : SqT K H6 t4 [.str "a", .ref t3] := T46 _ _ (SqT.of upd_same)
  have X1 : Ex1 p H H6 := Ex1.trans (Ex1.new hl) (Ex1.trans x1 (Ex1.trans (Ex1.new h1) (Ex1.trans (Ex1.new h2) (Ex1.trans (Ex1.new h3)
    (Ex1.trans (Ex1.new h4) (Ex1.trans (Ex1.new hL) x6))))))
  obtain ⟨g0, g1, g2, g3, g4, g5, g6, g7⟩ := goods hn
  have pick : ∀ v : V, atI ([.int n, .str (toString n), .ref t1, .non, .bl (decide (V.int n = V.int 7)), .str "", .ref t2, .ref t4] : List V) r2 = some v →
      ∃ d, Dp K H6 v d ∧ Good d := by
    intro v e
    have : r2 = 0 ∨ r2 = 1 ∨ r2 = 2 ∨ r2 = 3 ∨ r2 = 4 ∨ r2 = 5 ∨ r2 = 6 ∨ r2 = 7 := by omega
    rcases this with rfl | rfl | rfl | rfl | rfl | rfl | rfl | rfl
    · cases e
      exact ⟨_, .int n, g0⟩
    · cases e
      exact ⟨_, .str _, g1⟩
    · cases e
      exact ⟨_, .tup s1 (.cons (.int n) (.cons (.str _) .nil)), g2⟩
    · cases e
      exact ⟨_, .non, g3⟩
    · cases e
      exact ⟨_, .bl _, g4 _⟩
    · cases e
      exact ⟨_, .str _, g5⟩
    · cases e
      exact ⟨_, .tup s2 .nil, g6⟩
    · cases e
      exact ⟨_, .tup s4 (.cons (.str _) (.cons (.tup s3 (.cons (.str _) (.cons (.int n) .nil))) .nil)), g7⟩
  obtain ⟨v, ev⟩ : ∃ v, atI ([.int n, .str (toString n), .ref t1, .non, .bl (decide (V.int n = V.int 7)), .str "", .ref t2, .ref t4] : List V) r2 = some v := by
    have : r2 = 0 ∨ r2 = 1 ∨ r2 = 2 ∨ r2 = 3 ∨ r2 = 4 ∨ r2 = 5 ∨ r2 = 6 ∨ r2 = 7 := by omega
    rcases this with rfl | rfl | rfl | rfl | rfl | rfl | rfl | rfl <;> exact ⟨_, rfl⟩
  obtain ⟨d, hd, gd⟩ := pick v ev
  exact ⟨L, _, r2, v, rfl, rfl, SqL.of eL, ev, q v d H6 X1 hd gd⟩
end
end K99
end

section
set_option Elab.async false
set_option linter.all false
set_option maxRecDepth 100000
set_option maxHeartbeats 4000000
namespace K99
open PySem PySem.Spec PyProof.Rows L2 Gd
/-- what an __init__ promises: the copy is in the field -/
def spInit (K : PySem.W.Frag) (C : Addr) (fl : Str) : Sp := fun vs H Q _ => ∃ (a : Addr) (v : V) (d : PyData), vs = [.ref a, v] ∧
  H a = some (exo a C none) ∧ Dp K H v d ∧ tupOnly d = true ∧ d.depth < 9 ∧
  ∀ (v' : V) (dx : Addr) (H' : Hp), Ex1 a H H' → H dx = none → dx ≠ a → H' a = some (exo a C (some dx)) →
    H' dx = some (exd dx [(fl, v')]) → Dp K H' v' d → Q .non H'
theorem exo_lst {a C : Addr} {d : Option Addr} {xs : List V} : exo a C d ≠ .lst xs := fun z => by
  have z' : HO.ext _ = HO.lst xs := z
  cases z'
/-- behind the store tuples are as they were -/
theorem tups_keep {K : PySem.W.Frag} {H : Hp} {a C dx : Addr} {fs : List (Str × V)} (e : H a = some (exo a C none)) (n : H dx = none) :
    Tups K H (upd (upd H dx (exd dx fs)) a (exo a C (some dx))) := by
  intro b xs h
  rcases h with (h | ⟨o, h⟩) | h
  · refine .inl (.inl ?_)
    rw [upd_ne (at_ne e h exo_tup), upd_ne (ne_of_none h n)]
    exact h
  · refine .inl (.inr ⟨o, ?_⟩)
    rw [upd_ne (at_ne e h exo_frz), upd_ne (ne_of_none h n)]
    exact h
  · exact .inr h
section
variable {P : Program} {w : World} {K : PySem.W.Frag} {mg : Str → Option Value} {base : Heap} {f fC C : Addr} {fd fdC : FuncData}
abbrev sITaken : Stmt := inClass (topS 5) 0
theorem scITaken : FnScope ["self", "name"] ["self", "name"] (defScope sITaken) :=
  ⟨rfl, rfl, rfl, by decide +kernel, rfl, by decide +kernel, by decide +kernel⟩
theorem ok_iTaken (F : Fun K "__init__" "Taken.__init__" sITaken f fd) (T : OexC K C) (hno : PySem.W.findIn K (.ref C) "name" = some none)
    (FC : Fun K "copied" "copied" sCopied fC fdC) (bC : Binds K fdC ["thing"] []) (gC : mg "copied" = some (.ref fC)) (B : Bl mg) :
    FnOk P w K mg base CX0 10 f fd ["self", "name"] (spInit K C "name") := by
  have G : FnOk P w K mg base CX0 9 fC fdC ["thing"] (spCopied K 9) := ok_copied FC bC gC B 9
  refine F.ok scITaken (fun vs H Q E h => ?_) (fun cdv A outer s H vs Q E hr h => ?_)
  · obtain ⟨a, v, d, rfl, _⟩ := h
    rfl
  obtain ⟨a, v, d, rfl, ea, hd, ho, hn, q⟩ := h
  refine ⟨_, pss_one (ps_keep (C := C) (f := "name") (keepsVE T hno) (pv 0)
    (pe_call G hr (by rfl) gC FC.kp bC .nil pass0 (pa_cons (pv 1) pa_nil))), ?_⟩
  refine ⟨_, rfl, v, d, rfl, hd, ho, hn, fun v' H1 sm hv => ?_⟩
  have e1 := sm _ _ ea
  refine ⟨_, rfl, a, rfl, e1, fun dx n1 ne => ?_⟩
  have n0 : H dx = none := by
    cases z : H dx with
    | none => rfl
    | some o =>
      have y := sm _ _ z
      rw [n1] at y
      cases y
  refine q v' dx _ (fun b o hb e => ?_) n0 ne upd_same ?_ (Gd.Dp.tups (tups_keep e1 n1) d ho hv)
  · rw [upd_ne hb, upd_ne (ne_of_none (sm _ _ e) n1)]
    exact sm _ _ e
  · rw [upd_ne ne, upd_same]
abbrev sITooMany : Stmt := inClass (topS 6) 0
theorem scITooMany : FnScope ["self", "most"] ["self", "most"] (defScope sITooMany) :=
  ⟨rfl, rfl, rfl, by decide +kernel, rfl, by decide +kernel, by decide +kernel⟩
theorem ok_iTooMany (F : Fun K "__init__" "TooMany.__init__" sITooMany f fd) (T : OexC K C) (hno : PySem.W.findIn K (.ref C) "most" = some none)
    (FC : Fun K "copied" "copied" sCopied fC fdC) (bC : Binds K fdC ["thing"] []) (gC : mg "copied" = some (.ref fC)) (B : Bl mg) :
    FnOk P w K mg base CX0 10 f fd ["self", "most"] (spInit K C "most") := by
  have G : FnOk P w K mg base CX0 9 fC fdC ["thing"] (spCopied K 9) := ok_copied FC bC gC B 9
  refine F.ok scITooMany (fun vs H Q E h => ?_) (fun cdv A outer s H vs Q E hr h => ?_)
  · obtain ⟨a, v, d, rfl, _⟩ := h
    rfl
  obtain ⟨a, v, d, rfl, ea, hd, ho, hn, q⟩ := h
  refine ⟨_, pss_one (ps_keep (C := C) (f := "most") (keepsVE T hno) (pv 0)
    (pe_call G hr (by rfl) gC FC.kp bC .nil pass0 (pa_cons (pv 1) pa_nil))), ?_⟩
  refine ⟨_, rfl, v, d, rfl, hd, ho, hn, fun v' H1 sm hv => ?_⟩
  have e1 := sm _ _ ea
  refine ⟨_, rfl, a, rfl, e1, fun dx n1 ne => ?_⟩
  have n0 : H dx = none := by
    cases z : H dx with
    | none => rfl
    | some o =>
      have y := sm _ _ z
      rw [n1] at y
      cases y
  refine q v' dx _ (fun b o hb e => ?_) n0 ne upd_same ?_ (Gd.Dp.tups (tups_keep e1 n1) d ho hv)
  · rw [upd_ne hb, upd_ne (ne_of_none (sm _ _ e) n1)]
    exact sm _ _ e
  · rw [upd_ne ne, upd_same]
abbrev sINoPlace : Stmt := inClass (topS 7) 0
theorem scINoPlace : FnScope ["self", "number"] ["self", "number"] (defScope sINoPlace) :=
  ⟨rfl, rfl, rfl, by decide +kernel, rfl, by decide +kernel, by decide +kernel⟩
theorem ok_iNoPlace (F : Fun K "__init__" "NoPlace.__init__" sINoPlace f fd) (T : OexC K C) (hno : PySem.W.findIn K (.ref C) "number" = some none)
    (FC : Fun K "copied" "copied" sCopied fC fdC) (bC : Binds K fdC ["thing"] []) (gC : mg "copied" = some (.ref fC)) (B : Bl mg) :
    FnOk P w K mg base CX0 10 f fd ["self", "number"] (spInit K C "number") := by
  have G : FnOk P w K mg base CX0 9 fC fdC ["thing"] (spCopied K 9) := ok_copied FC bC gC B 9
  refine F.ok scINoPlace (fun vs H Q E h => ?_) (fun cdv A outer s H vs Q E hr h => ?_)
  · obtain ⟨a, v, d, rfl, _⟩ := h
    rfl
  obtain ⟨a, v, d, rfl, ea, hd, ho, hn, q⟩ := h
  refine ⟨_, pss_one (ps_keep (C := C) (f := "number") (keepsVE T hno) (pv 0)
    (pe_call G hr (by rfl) gC FC.kp bC .nil pass0 (pa_cons (pv 1) pa_nil))), ?_⟩
  refine ⟨_, rfl, v, d, rfl, hd, ho, hn, fun v' H1 sm hv => ?_⟩
  have e1 := sm _ _ ea
  refine ⟨_, rfl, a, rfl, e1, fun dx n1 ne => ?_⟩
  have n0 : H dx = none := by
    cases z : H dx with
    | none => rfl
    | some o =>
      have y := sm _ _ z
      rw [n1] at y
      cases y
  refine q v' dx _ (fun b o hb e => ?_) n0 ne upd_same ?_ (Gd.Dp.tups (tups_keep e1 n1) d ho hv)
  · rw [upd_ne hb, upd_ne (ne_of_none (sm _ _ e) n1)]
    exact sm _ _ e
  · rw [upd_ne ne, upd_same]
abbrev sINoAsk : Stmt := inClass (topS 8) 0
theorem scINoAsk : FnScope ["self", "what"] ["self", "what"] (defScope sINoAsk) :=
  ⟨rfl, rfl, rfl, by decide +kernel, rfl, by decide +kernel, by decide +kernel⟩
theorem ok_iNoAsk (F : Fun K "__init__" "NoAsk.__init__" sINoAsk f fd) (T : OexC K C) (hno : PySem.W.findIn K (.ref C) "what" = some none)
    (FC : Fun K "copied" "copied" sCopied fC fdC) (bC : Binds K fdC ["thing"] []) (gC : mg "copied" = some (.ref fC)) (B : Bl mg) :
    FnOk P w K mg base CX0 10 f fd ["self", "what"] (spInit K C "what") := by
  have G : FnOk P w K mg base CX0 9 fC fdC ["thing"] (spCopied K 9) := ok_copied FC bC gC B 9
  refine F.ok scINoAsk (fun vs H Q E h => ?_) (fun cdv A outer s H vs Q E hr h => ?_)
  · obtain ⟨a, v, d, rfl, _⟩ := h
    rfl
  obtain ⟨a, v, d, rfl, ea, hd, ho, hn, q⟩ := h
  refine ⟨_, pss_one (ps_keep (C := C) (f := "what") (keepsVE T hno) (pv 0)
    (pe_call G hr (by rfl) gC FC.kp bC .nil pass0 (pa_cons (pv 1) pa_nil))), ?_⟩
  refine ⟨_, rfl, v, d, rfl, hd, ho, hn, fun v' H1 sm hv => ?_⟩
  have e1 := sm _ _ ea
  refine ⟨_, rfl, a, rfl, e1, fun dx n1 ne => ?_⟩
  have n0 : H dx = none := by
    cases z : H dx with
    | none => rfl
    | some o =>
      have y := sm _ _ z
      rw [n1] at y
      cases y
  refine q v' dx _ (fun b o hb e => ?_) n0 ne upd_same ?_ (Gd.Dp.tups (tups_keep e1 n1) d ho hv)
  · rw [upd_ne hb, upd_ne (ne_of_none (sm _ _ e) n1)]
    exact sm _ _ e
  · rw [upd_ne ne, upd_same]
abbrev sISpent : Stmt := inClass (topS 9) 0
theorem scISpent : FnScope ["self", "budget"] ["self", "budget"] (defScope sISpent) :=
  ⟨rfl, rfl, rfl, by decide +kernel, rfl, by decide +kernel, by decide +kernel⟩
theorem ok_iSpent (F : Fun K "__init__" "Spent.__init__" sISpent f fd) (T : OexC K C) (hno : PySem.W.findIn K (.ref C) "budget" = some none)
    (FC : Fun K "copied" "copied" sCopied fC fdC) (bC : Binds K fdC ["thing"] []) (gC : mg "copied" = some (.ref fC)) (B : Bl mg) :
    FnOk P w K mg base CX0 10 f fd ["self", "budget"] (spInit K C "budget") := by
  have G : FnOk P w K mg base CX0 9 fC fdC ["thing"] (spCopied K 9) := ok_copied FC bC gC B 9
  refine F.ok scISpent (fun vs H Q E h => ?_) (fun cdv A outer s H vs Q E hr h => ?_)
  · obtain ⟨a, v, d, rfl, _⟩ := h
    rfl
  obtain ⟨a, v, d, rfl, ea, hd, ho, hn, q⟩ := h
  refine ⟨_, pss_one (ps_keep (C := C) (f := "budget") (keepsVE T hno) (pv 0)
    (pe_call G hr (by rfl) gC FC.kp bC .nil pass0 (pa_cons (pv 1) pa_nil))), ?_⟩
  refine ⟨_, rfl, v, d, rfl, hd, ho, hn, fun v' H1 sm hv => ?_⟩
  have e1 := sm _ _ ea
  refine ⟨_, rfl, a, rfl, e1, fun dx n1 ne => ?_⟩
  have n0 : H dx = none := by
    cases z : H dx with
    | none => rfl
    | some o =>
      have y := sm _ _ z
      rw [n1] at y
      cases y
  refine q v' dx _ (fun b o hb e => ?_) n0 ne upd_same ?_ (Gd.Dp.tups (tups_keep e1 n1) d ho hv)
  · rw [upd_ne hb, upd_ne (ne_of_none (sm _ _ e) n1)]
    exact sm _ _ e
  · rw [upd_ne ne, upd_same]
abbrev sINoText : Stmt := inClass (topS 19) 0
theorem scINoText : FnScope ["self", "line"] ["self", "line"] (defScope sINoText) :=
  ⟨rfl, rfl, rfl, by decide +kernel, rfl, by decide +kernel, by decide +kernel⟩
theorem ok_iNoText (F : Fun K "__init__" "NoText.__init__" sINoText f fd) (T : OexC K C) (hno : PySem.W.findIn K (.ref C) "line" = some none)
    (FC : Fun K "copied" "copied" sCopied fC fdC) (bC : Binds K fdC ["thing"] []) (gC : mg "copied" = some (.ref fC)) (B : Bl mg) :
    FnOk P w K mg base CX0 10 f fd ["self", "line"] (spInit K C "line") := by
  have G : FnOk P w K mg base CX0 9 fC fdC ["thing"] (spCopied K 9) := ok_copied FC bC gC B 9
  refine F.ok scINoText (fun vs H Q E h => ?_) (fun cdv A outer s H vs Q E hr h => ?_)
  · obtain ⟨a, v, d, rfl, _⟩ := h
    rfl
  obtain ⟨a, v, d, rfl, ea, hd, ho, hn, q⟩ := h
  refine ⟨_, pss_one (ps_keep (C := C) (f := "line") (keepsVE T hno) (pv 0)
    (pe_call G hr (by rfl) gC FC.kp bC .nil pass0 (pa_cons (pv 1) pa_nil))), ?_⟩
  refine ⟨_, rfl, v, d, rfl, hd, ho, hn, fun v' H1 sm hv => ?_⟩
  have e1 := sm _ _ ea
  refine ⟨_, rfl, a, rfl, e1, fun dx n1 ne => ?_⟩
  have n0 : H dx = none := by
    cases z : H dx with
    | none => rfl
    | some o =>
      have y := sm _ _ z
      rw [n1] at y
      cases y
  refine q v' dx _ (fun b o hb e => ?_) n0 ne upd_same ?_ (Gd.Dp.tups (tups_keep e1 n1) d ho hv)
  · rw [upd_ne hb, upd_ne (ne_of_none (sm _ _ e) n1)]
    exact sm _ _ e
  · rw [upd_ne ne, upd_same]
abbrev sIUnknown : Stmt := inClass (topS 21) 0
theorem scIUnknown : FnScope ["self", "name"] ["self", "name"] (defScope sIUnknown) :=
  ⟨rfl, rfl, rfl, by decide +kernel, rfl, by decide +kernel, by decide +kernel⟩
theorem ok_iUnknown (F : Fun K "__init__" "Unknown.__init__" sIUnknown f fd) (T : OexK K C) (hno : PySem.W.findIn K (.ref C) "name" = some none)
    (FC : Fun K "copied" "copied" sCopied fC fdC) (bC : Binds K fdC ["thing"] []) (gC : mg "copied" = some (.ref fC)) (B : Bl mg) :
    FnOk P w K mg base CX0 10 f fd ["self", "name"] (spInit K C "name") := by
  have G : FnOk P w K mg base CX0 9 fC fdC ["thing"] (spCopied K 9) := ok_copied FC bC gC B 9
  refine F.ok scIUnknown (fun vs H Q E h => ?_) (fun cdv A outer s H vs Q E hr h => ?_)
  · obtain ⟨a, v, d, rfl, _⟩ := h
    rfl
  obtain ⟨a, v, d, rfl, ea, hd, ho, hn, q⟩ := h
  refine ⟨_, pss_one (ps_keep (C := C) (f := "name") (keepsKE T hno) (pv 0)
    (pe_call G hr (by rfl) gC FC.kp bC .nil pass0 (pa_cons (pv 1) pa_nil))), ?_⟩
  refine ⟨_, rfl, v, d, rfl, hd, ho, hn, fun v' H1 sm hv => ?_⟩
  have e1 := sm _ _ ea
  refine ⟨_, rfl, a, rfl, e1, fun dx n1 ne => ?_⟩
  have n0 : H dx = none := by
    cases z : H dx with
    | none => rfl
    | some o =>
      have y := sm _ _ z
      rw [n1] at y
      cases y
  refine q v' dx _ (fun b o hb e => ?_) n0 ne upd_same ?_ (Gd.Dp.tups (tups_keep e1 n1) d ho hv)
  · rw [upd_ne hb, upd_ne (ne_of_none (sm _ _ e) n1)]
    exact sm _ _ e
  · rw [upd_ne ne, upd_same]
end
end K99
end

section
set_option Elab.async false
set_option linter.all false
set_option maxRecDepth 100000
set_option maxHeartbeats 4000000
namespace K99
open PySem PySem.Spec PyProof.Rows L2 Gd
abbrev sKinds : Stmt := topS 26
theorem scKinds : FnScope ["_law_refusal", "_law_found"] ["_law_refusal"] (defScope sKinds) :=
  ⟨rfl, rfl, rfl, by decide +kernel, rfl, by decide +kernel, by decide +kernel⟩
/-- the classes by their numbers, 19 the one that all but Unknown stand under -/
structure Cls99 (K : PySem.W.Frag) (mg : Str → Option Value) (cs : Nat → Addr) : Prop where
  g0 : mg "NoWorth" = some (.ref (cs 0))
  g1 : mg "NoDeed" = some (.ref (cs 1))
  g2 : mg "Taken" = some (.ref (cs 2))
  g3 : mg "TooMany" = some (.ref (cs 3))
  g4 : mg "NoPlace" = some (.ref (cs 4))
  g5 : mg "NoAsk" = some (.ref (cs 5))
  g6 : mg "Spent" = some (.ref (cs 6))
  g7 : mg "NoRule" = some (.ref (cs 7))
  g8 : mg "NoRoom" = some (.ref (cs 8))
  g9 : mg "Done" = some (.ref (cs 9))
  g10 : mg "NotDone" = some (.ref (cs 10))
  g11 : mg "NoName" = some (.ref (cs 11))
  g12 : mg "Busy" = some (.ref (cs 12))
  g13 : mg "NoStand" = some (.ref (cs 13))
  g14 : mg "Unlike" = some (.ref (cs 14))
  g15 : mg "NoPlaces" = some (.ref (cs 15))
  g16 : mg "NoText" = some (.ref (cs 16))
  g17 : mg "NoLine" = some (.ref (cs 17))
  g18 : mg "Unknown" = some (.ref (cs 18))
  g19 : mg "PlanError" = some (.ref (cs 19))
  inj : ∀ i j, i < 20 → j < 20 → cs i = cs j → i = j
  ev : ∀ i, i < 20 → EvC K (cs i)
  ty : ∀ i, i < 20 → ((PySem.W.clsIn K (cs i)).isSome && PySem.W.typeIn K (.ref (cs i)) == some (.type "type")) = true
  mro : ∀ i, i < 18 → ∃ cd, PySem.W.clsIn K (cs i) = some cd ∧
    cd.mro = [.ref (cs i), .ref (cs 19), .type "ValueError", .type "Exception", .type "BaseException", .type "object"]
  mroU : ∃ cd, PySem.W.clsIn K (cs 18) = some cd ∧ cd.mro = .ref (cs 18) :: Gk.tail
  mroP : ∃ cd, PySem.W.clsIn K (cs 19) = some cd ∧
    cd.mro = [.ref (cs 19), .type "ValueError", .type "Exception", .type "BaseException", .type "object"]
  vb : EvB K
  isi : mg "isinstance" = none
/-- an exception of the class at C -/
def EAt (H : Hp) (a C : Addr) : Prop := H a = some (exo a C none) ∨ ∃ dx fs, H a = some (exo a C (some dx)) ∧ H dx = some (exd dx fs)
theorem EAt.same {H H' : Hp} {a C : Addr} (s : Same H H') (h : EAt H a C) : EAt H' a C := by
  rcases h with h | ⟨dx, fs, h, g⟩
  · exact .inl (s _ _ h)
  · exact .inr ⟨dx, fs, s _ _ h, s _ _ g⟩
section
variable {K : PySem.W.Frag} {mg : Str → Option Value} {cs : Nat → Addr}
theorem kit_self (C : Addr) : PySem.W.kitOne K (.ref C) (.ref C) = some true := by
  unfold PySem.W.kitOne
  rw [if_pos (by simp)]
theorem sub_by {C : Addr} {cd : ClassData} {b : Value} (h : PySem.W.clsIn K C = some cd) (ne : cd.mro.isEmpty = false) :
    PySem.W.subIn K (.ref C) b = some (cd.mro.contains b) := by
  show PySem.W.mroIn K C b = _
  unfold PySem.W.mroIn
  rw [h, Option.bind_some, if_neg (by rw [ne]; decide)]
theorem kit_ref {C D : Addr} {cd : ClassData} (h : PySem.W.clsIn K C = some cd) (ne : cd.mro.isEmpty = false)
    (t : ((PySem.W.clsIn K D).isSome && PySem.W.typeIn K (.ref D) == some (.type "type")) = true) (n : C ≠ D) :
    PySem.W.kitOne K (.ref C) (.ref D) = some (cd.mro.contains (.ref D)) := by
  unfold PySem.W.kitOne
  rw [if_neg (by simpa using n)]
  show (if ((PySem.W.clsIn K D).isSome && PySem.W.typeIn K (.ref D) == some (.type "type")) = true then PySem.W.subIn K (.ref C) (.ref D) else none) = _
  rw [if_pos t]
  exact sub_by h ne
theorem Cls99.kit (T : Cls99 K mg cs) {i j : Nat} (hi : i < 19) (hj : j < 19) : PySem.W.kitOne K (.ref (cs i)) (.ref (cs j)) = some (decide (i = j)) := by
  by_cases e : i = j
  · subst e
    rw [kit_self]
    simp
  have n : cs i ≠ cs j := fun z => e (T.inj i j (by omega) (by omega) z)
  have n9 : cs 19 ≠ cs j := fun z => by
    have := T.inj 19 j (by omega) (by omega) z
    omega
  by_cases h18 : i < 18
  · obtain ⟨cd, h1, h2⟩ := T.mro i h18
    rw [kit_ref h1 (by rw [h2] <;> rfl) (T.ty j (by omega)) n, h2]
    simp [e, n.symm, n9.symm]
  · have : i = 18 := by omega
    subst this
    obtain ⟨cd, h1, h2⟩ := T.mroU
    rw [kit_ref h1 (by rw [h2] <;> rfl) (T.ty j (by omega)) n, h2]
    simp [e, n.symm, Gk.tail]
end
def spKinds (cs : Nat → Addr) : Sp := fun vs H Q _ => ∃ (a : Addr) (i : Nat), vs = [.ref a] ∧ i < 19 ∧ EAt H a (cs i) ∧
  ∀ (p : Addr) (H' : Hp), Same H H' → H' p = some (.lst ((List.range 19).map fun j => V.bl (decide (i = j)))) → Q (.ref p) H'
theorem same_new {H : Hp} {p : Addr} {o : HO} (h : H p = none) : Same H (upd H p o) := fun b u q => by rw [upd_ne (ne_of_none q h)]; exact q
section
variable {P : Program} {w : World} {K : PySem.W.Frag} {mg : Str → Option Value} {base : Heap} {f : Addr} {fd : FuncData} {cs : Nat → Addr}
theorem ok_kinds (F : Fun K "_law_kinds" "_law_kinds" sKinds f fd) (T : Cls99 K mg cs) :
    FnOk P w K mg base CX0 1 f fd ["_law_refusal"] (spKinds cs) := by
  refine F.ok scKinds (fun vs H Q E h => ?_) (fun cdv A outer s H vs Q E hr h => ?_)
  · obtain ⟨a, i, rfl, _⟩ := h
    rfl
  obtain ⟨a, i, rfl, hi, ha, q⟩ := h
  have nd := scKinds.nd
  have ei := T.ev i (by omega)
  refine ⟨_, pss_cons (ps_set (i := 1) nd rfl (.inl rfl) (pe_lst (pa_cons (pe_callB call_isE (by rfl) T.isi (by decide +kernel) (pa_cons (pv 0) (pa_cons (pe_glob (v := .ref (cs 0)) (by rfl) T.g0 rfl) pa_nil)))
        (pa_cons (pe_callB call_isE (by rfl) T.isi (by decide +kernel) (pa_cons (pv 0) (pa_cons (pe_glob (v := .ref (cs 1)) (by rfl) T.g1 rfl) pa_nil)))
        (pa_cons (pe_callB call_isE (by rfl) T.isi (by decide +kernel) (pa_cons (pv 0) (pa_cons (pe_glob (v := .ref (cs 2)) (by rfl) T.g2 rfl) pa_nil)))
        pa_nil)))))
    (pss_cons (ps_set (i := 1) nd rfl (.inl rfl) (pe_op op_cat (pv 1) (pe_lst (pa_cons (pe_callB call_isE (by rfl) T.isi (by decide +kernel) (pa_cons (pv 0) (pa_cons (pe_glob (v := .ref (cs 3)) (by rfl) T.g3 rfl) pa_nil)))
        (pa_cons (pe_callB call_isE (by rfl) T.isi (by decide +kernel) (pa_cons (pv 0) (pa_cons (pe_glob (v := .ref (cs 4)) (by rfl) T.g4 rfl) pa_nil)))
        (pa_cons (pe_callB call_isE (by rfl) T.isi (by decide +kernel) (pa_cons (pv 0) (pa_cons (pe_glob (v := .ref (cs 5)) (by rfl) T.g5 rfl) pa_nil)))
        pa_nil))))))
    (pss_cons (ps_set (i := 1) nd rfl (.inl rfl) (pe_op op_cat (pv 1) (pe_lst (pa_cons (pe_callB call_isE (by rfl) T.isi (by decide +kernel) (pa_cons (pv 0) (pa_cons (pe_glob (v := .ref (cs 6)) (by rfl) T.g6 rfl) pa_nil)))
        (pa_cons (pe_callB call_isE (by rfl) T.isi (by decide +kernel) (pa_cons (pv 0) (pa_cons (pe_glob (v := .ref (cs 7)) (by rfl) T.g7 rfl) pa_nil)))
        (pa_cons (pe_callB call_isE (by rfl) T.isi (by decide +kernel) (pa_cons (pv 0) (pa_cons (pe_glob (v := .ref (cs 8)) (by rfl) T.g8 rfl) pa_nil)))
        pa_nil))))))
    (pss_cons (ps_set (i := 1) nd rfl (.inl rfl) (pe_op op_cat (pv 1) (pe_lst (pa_cons (pe_callB call_isE (by rfl) T.isi (by decide +kernel) (pa_cons (pv 0) (pa_cons (pe_glob (v := .ref (cs 9)) (by rfl) T.g9 rfl) pa_nil)))
        (pa_cons (pe_callB call_isE (by rfl) T.isi (by decide +kernel) (pa_cons (pv 0) (pa_cons (pe_glob (v := .ref (cs 10)) (by rfl) T.g10 rfl) pa_nil)))
        (pa_cons (pe_callB call_isE (by rfl) T.isi (by decide +kernel) (pa_cons (pv 0) (pa_cons (pe_glob (v := .ref (cs 11)) (by rfl) T.g11 rfl) pa_nil)))
        pa_nil))))))
    (pss_cons (ps_set (i := 1) nd rfl (.inl rfl) (pe_op op_cat (pv 1) (pe_lst (pa_cons (pe_callB call_isE (by rfl) T.isi (by decide +kernel) (pa_cons (pv 0) (pa_cons (pe_glob (v := .ref (cs 12)) (by rfl) T.g12 rfl) pa_nil)))
        (pa_cons (pe_callB call_isE (by rfl) T.isi (by decide +kernel) (pa_cons (pv 0) (pa_cons (pe_glob (v := .ref (cs 13)) (by rfl) T.g13 rfl) pa_nil)))
        (pa_cons (pe_callB call_isE (by rfl) T.isi (by decide +kernel) (pa_cons (pv 0) (pa_cons (pe_glob (v := .ref (cs 14)) (by rfl) T.g14 rfl) pa_nil)))
        pa_nil))))))
    (pss_cons (ps_set (i := 1) nd rfl (.inl rfl) (pe_op op_cat (pv 1) (pe_lst (pa_cons (pe_callB call_isE (by rfl) T.isi (by decide +kernel) (pa_cons (pv 0) (pa_cons (pe_glob (v := .ref (cs 15)) (by rfl) T.g15 rfl) pa_nil)))
        (pa_cons (pe_callB call_isE (by rfl) T.isi (by decide +kernel) (pa_cons (pv 0) (pa_cons (pe_glob (v := .ref (cs 16)) (by rfl) T.g16 rfl) pa_nil)))
        (pa_cons (pe_callB call_isE (by rfl) T.isi (by decide +kernel) (pa_cons (pv 0) (pa_cons (pe_glob (v := .ref (cs 17)) (by rfl) T.g17 rfl) pa_nil)))
        pa_nil))))))
    (pss_one (ps_ret (pe_op op_cat (pv 1) (pe_lst (pa_cons (pe_callB call_isE (by rfl) T.isi (by decide +kernel) (pa_cons (pv 0) (pa_cons (pe_glob (v := .ref (cs 18)) (by rfl) T.g18 rfl) pa_nil)))
        pa_nil)))))))))), ?_⟩
  have s0 : Same H H := fun _ _ e => e
  refine ⟨_, rfl, a, cs i, _, _, _, rfl, .own _, ei, T.vb, ha.same s0, T.kit (j := 0) hi (by omega), ?_⟩
  refine ⟨_, rfl, a, cs i, _, _, _, rfl, .own _, ei, T.vb, ha.same s0, T.kit (j := 1) hi (by omega), ?_⟩
  refine ⟨_, rfl, a, cs i, _, _, _, rfl, .own _, ei, T.vb, ha.same s0, T.kit (j := 2) hi (by omega), ?_⟩
  refine ⟨(by show 3 ≤ sizeLine; decide), fun p0 h0 => ?_⟩
  have s1 := s0.trans (same_new (o := .lst [.bl (decide (i = 0)), .bl (decide (i = 1)), .bl (decide (i = 2))]) h0)
  refine ⟨_, rfl, ?_⟩
  refine ⟨_, rfl, a, cs i, _, _, _, rfl, .own _, ei, T.vb, ha.same s1, T.kit (j := 3) hi (by omega), ?_⟩
  refine ⟨_, rfl, a, cs i, _, _, _, rfl, .own _, ei, T.vb, ha.same s1, T.kit (j := 4) hi (by omega), ?_⟩
  refine ⟨_, rfl, a, cs i, _, _, _, rfl, .own _, ei, T.vb, ha.same s1, T.kit (j := 5) hi (by omega), ?_⟩
  refine ⟨(by show 3 ≤ sizeLine; decide), fun q1 hq1 => ?_⟩
  refine ⟨_, _, _, _, rfl, rfl, (same_new hq1) _ _ upd_same, upd_same, (by show 6 ≤ sizeLine; decide), fun p1 h1 => ?_⟩
  have s2 := (s1.trans (same_new hq1)).trans (same_new (o := .lst [.bl (decide (i = 0)), .bl (decide (i = 1)), .bl (decide (i = 2)), .bl (decide (i = 3)), .bl (decide (i = 4)), .bl (decide (i = 5))]) h1)
  refine ⟨_, rfl, ?_⟩
  refine ⟨_, rfl, a, cs i, _, _, _, rfl, .own _, ei, T.vb, ha.same s2, T.kit (j := 6) hi (by omega), ?_⟩
  refine ⟨_, rfl, a, cs i, _, _, _, rfl, .own _, ei, T.vb, ha.same s2, T.kit (j := 7) hi (by omega), ?_⟩
  refine ⟨_, rfl, a, cs i, _, _, _, rfl, .own _, ei, T.vb, ha.same s2, T.kit (j := 8) hi (by omega), ?_⟩
  refine ⟨(by show 3 ≤ sizeLine; decide), fun q2 hq2 => ?_⟩
  refine ⟨_, _, _, _, rfl, rfl, (same_new hq2) _ _ upd_same, upd_same, (by show 9 ≤ sizeLine; decide), fun p2 h2 => ?_⟩
  have s3 := (s2.trans (same_new hq2)).trans (same_new (o := .lst [.bl (decide (i = 0)), .bl (decide (i = 1)), .bl (decide (i = 2)), .bl (decide (i = 3)), .bl (decide (i = 4)), .bl (decide (i = 5)), .bl (decide (i = 6)), .bl (decide (i = 7)), .bl (decide (i = 8))]) h2)
  refine ⟨_, rfl, ?_⟩
  refine ⟨_, rfl, a, cs i, _, _, _, rfl, .own _, ei, T.vb, ha.same s3, T.kit (j := 9) hi (by omega), ?_⟩
  refine ⟨_, rfl, a, cs i, _, _, _, rfl, .own _, ei, T.vb, ha.same s3, T.kit (j := 10) hi (by omega), ?_⟩
  refine ⟨_, rfl, a, cs i, _, _, _, rfl, .own _, ei, T.vb, ha.same s3, T.kit (j := 11) hi (by omega), ?_⟩
  refine ⟨(by show 3 ≤ sizeLine; decide), fun q3 hq3 => ?_⟩
  refine ⟨_, _, _, _, rfl, rfl, (same_new hq3) _ _ upd_same, upd_same, (by show 12 ≤ sizeLine; decide), fun p3 h3 => ?_⟩
  have s4 := (s3.trans (same_new hq3)).trans (same_new (o := .lst [.bl (decide (i = 0)), .bl (decide (i = 1)), .bl (decide (i = 2)), .bl (decide (i = 3)), .bl (decide (i = 4)), .bl (decide (i = 5)), .bl (decide (i = 6)), .bl (decide (i = 7)), .bl (decide (i = 8)), .bl (decide (i = 9)), .bl (decide (i = 10)), .bl (decide (i = 11))]) h3)
  refine ⟨_, rfl, ?_⟩
  refine ⟨_, rfl, a, cs i, _, _, _, rfl, .own _, ei, T.vb, ha.same s4, T.kit (j := 12) hi (by omega), ?_⟩
  refine ⟨_, rfl, a, cs i, _, _, _, rfl, .own _, ei, T.vb, ha.same s4, T.kit (j := 13) hi (by omega), ?_⟩
  refine ⟨_, rfl, a, cs i, _, _, _, rfl, .own _, ei, T.vb, ha.same s4, T.kit (j := 14) hi (by omega), ?_⟩
  refine ⟨(by show 3 ≤ sizeLine; decide), fun q4 hq4 => ?_⟩
  refine ⟨_, _, _, _, rfl, rfl, (same_new hq4) _ _ upd_same, upd_same, (by show 15 ≤ sizeLine; decide), fun p4 h4 => ?_⟩
  have s5 := (s4.trans (same_new hq4)).trans (same_new (o := .lst [.bl (decide (i = 0)), .bl (decide (i = 1)), .bl (decide (i = 2)), .bl (decide (i = 3)), .bl (decide (i = 4)), .bl (decide (i = 5)), .bl (decide (i = 6)), .bl (decide (i = 7)), .bl (decide (i = 8)), .bl (decide (i = 9)), .bl (decide (i = 10)), .bl (decide (i = 11)), .bl (decide (i = 12)), .bl (decide (i = 13)), .bl (decide (i = 14))]) h4)
  refine ⟨_, rfl, ?_⟩
  refine ⟨_, rfl, a, cs i, _, _, _, rfl, .own _, ei, T.vb, ha.same s5, T.kit (j := 15) hi (by omega), ?_⟩
  refine ⟨_, rfl, a, cs i, _, _, _, rfl, .own _, ei, T.vb, ha.same s5, T.kit (j := 16) hi (by omega), ?_⟩
  refine ⟨_, rfl, a, cs i, _, _, _, rfl, .own _, ei, T.vb, ha.same s5, T.kit (j := 17) hi (by omega), ?_⟩
  refine ⟨(by show 3 ≤ sizeLine; decide), fun q5 hq5 => ?_⟩
  refine ⟨_, _, _, _, rfl, rfl, (same_new hq5) _ _ upd_same, upd_same, (by show 18 ≤ sizeLine; decide), fun p5 h5 => ?_⟩
  have s6 := (s5.trans (same_new hq5)).trans (same_new (o := .lst [.bl (decide (i = 0)), .bl (decide (i = 1)), .bl (decide (i = 2)), .bl (decide (i = 3)), .bl (decide (i = 4)), .bl (decide (i = 5)), .bl (decide (i = 6)), .bl (decide (i = 7)), .bl (decide (i = 8)), .bl (decide (i = 9)), .bl (decide (i = 10)), .bl (decide (i = 11)), .bl (decide (i = 12)), .bl (decide (i = 13)), .bl (decide (i = 14)), .bl (decide (i = 15)), .bl (decide (i = 16)), .bl (decide (i = 17))]) h5)
  refine ⟨_, rfl, ?_⟩
  refine ⟨_, rfl, a, cs i, _, _, _, rfl, .own _, ei, T.vb, ha.same s6, T.kit (j := 18) hi (by omega), ?_⟩
  refine ⟨(by show 1 ≤ sizeLine; decide), fun q6 hq6 => ?_⟩
  refine ⟨_, _, _, _, rfl, rfl, (same_new hq6) _ _ upd_same, upd_same, (by show 19 ≤ sizeLine; decide), fun p6 h6 => ?_⟩
  exact q p6 _ ((s6.trans (same_new hq6)).trans (same_new h6)) upd_same
end
end K99
end

section
set_option Elab.async false
set_option linter.all false
set_option maxRecDepth 100000
set_option maxHeartbeats 4000000
namespace K99
open PySem PySem.Spec PyProof.Rows L2 Gd
abbrev sFields : Stmt := topS 28
theorem scFields : FnScope ["_law_thing_here", "_law_found"] ["_law_thing_here"] (defScope sFields) :=
  ⟨rfl, rfl, rfl, by decide +kernel, rfl, by decide +kernel, by decide +kernel⟩
/-- what there is to a class with a field -/
structure MkC (P : Program) (w : World) (K : PySem.W.Frag) (mg : Str → Option Value) (base : Heap) (C : Addr) (fl : Str) (fI : Addr) (fd : FuncData) : Prop where
  mks : Makes P w K C fI
  kC : PySem.W.keepIn K (.ref C) = true
  F : FnOk P w K mg base CX0 10 fI fd ["self", fl] (spInit K C fl)
  b : Binds K fd ["self", fl] []
  no : PySem.W.findIn K (.ref C) fl = some none
  ex : PySem.W.subIn K (.ref C) (.type "BaseException") = some true
  ty : PySem.W.typeIn K (.ref C) = some (.type "type")
theorem same_made {H H1 : Hp} {a : Addr} {o : HO} (n : H a = none) (x : Ex1 a (upd H a o) H1) : Same H H1 := fun b u e =>
  x b u (ne_of_none e n) (by rw [upd_ne (ne_of_none e n)]; exact e)
theorem one_field (f : Str) (v : V) : ([(f, v)] : List (Str × V)).lookup f = some v := by
  simp [List.lookup]
/-- many times the same data in a list -/
theorem many_len {d : PyData} (g : Good d) (n : Nat) (hn : n ≤ 10) : (PyData.list (List.replicate n d)).shown.length ≤ sizeLine := by
  have e : ∀ n : Nat, PyData.shownAll (List.replicate n d) = List.replicate n d.shown := by
    intro n
    induction n with
    | zero => simp [PyData.shownAll]
    | succ n ih => rw [List.replicate_succ, List.replicate_succ, PyData.shownAll, ih]
  have l : ∀ n : Nat, ((List.replicate n d.shown).map (·.length)).sum ≤ n * 1000 := by
    intro n
    induction n with
    | zero => simp
    | succ n ih =>
      rw [List.replicate_succ, List.map_cons, List.sum_cons]
      have := g.len
      omega
  simp only [PyData.shown]
  rw [e]
  have h := listText_len_le (List.replicate n d.shown)
  rw [List.length_replicate] at h
  have := l n
  exact Nat.le_trans (show _ ≤ 100000 by omega) (by decide)
theorem many_show {d : PyData} (g : Good d) (n : Nat) : (PyData.list (List.replicate n d)).showable = true := by
  simp only [PyData.showable]
  induction n with
  | zero => simp [PyData.showableAll]
  | succ n ih => rw [List.replicate_succ, PyData.showableAll, g.shw, ih] <;> rfl
theorem many_depth {d : PyData} (g : Good d) (n : Nat) : (PyData.list (List.replicate n d)).depth ≤ 60 := by
  have : PyData.depthAll (List.replicate n d) ≤ 5 := by
    induction n with
    | zero => simp [PyData.depthAll]
    | succ n ih =>
      rw [List.replicate_succ, PyData.depthAll]
      have := g.dep
      omega
  simp only [PyData.depth]
  omega
theorem many_dp {K : PySem.W.Frag} {H : Hp} {d : PyData} {v : V} (h : Dp K H v d) : ∀ n : Nat, DpAll K H (List.replicate n v) (List.replicate n d)
  | 0 => .nil
  | n + 1 => .cons h (many_dp h n)
def spFields (K : PySem.W.Frag) : Sp := fun vs H Q _ => ∃ (v : V) (d : PyData), vs = [v] ∧ Dp K H v d ∧ Good d ∧ ∀ H' : Hp, Same H H' → Q (.bl true) H'
section
variable {P : Program} {w : World} {K : PySem.W.Frag} {mg : Str → Option Value} {base : Heap} {f : Addr} {fd : FuncData} {cs : Nat → Addr}
theorem ok_fields (F : Fun K "_law_fields_right" "_law_fields_right" sFields f fd) (T : Cls99 K mg cs) (mr : mg "repr" = none)
    {i0 : Addr} {d0 : FuncData} (M0 : MkC P w K mg base (cs 2) "name" i0 d0)
    {i1 : Addr} {d1 : FuncData} (M1 : MkC P w K mg base (cs 3) "most" i1 d1)
    {i2 : Addr} {d2 : FuncData} (M2 : MkC P w K mg base (cs 4) "number" i2 d2)
    {i3 : Addr} {d3 : FuncData} (M3 : MkC P w K mg base (cs 5) "what" i3 d3)
    {i4 : Addr} {d4 : FuncData} (M4 : MkC P w K mg base (cs 6) "budget" i4 d4)
    {i5 : Addr} {d5 : FuncData} (M5 : MkC P w K mg base (cs 16) "line" i5 d5)
    {i6 : Addr} {d6 : FuncData} (M6 : MkC P w K mg base (cs 18) "name" i6 d6) :
    FnG P w K mg base CX0 12 f fd ["_law_thing_here"] (spFields K) := by
  refine okG F scFields (fun vs H Q E h => ?_) (fun cv A out s H vs Q E gd hr h => ?_)
  · obtain ⟨v, d, rfl, _⟩ := h
    rfl
  obtain ⟨v, d, rfl, hd, g, q⟩ := h
  have nd := scFields.nd
  refine ⟨_, pss_cons (ps_set (i := 1) nd rfl (.inl rfl) (pe_lst (pa_cons (pe_ef (f := "name") (pe_exI M0.mks M0.kC M0.F hr M0.b pass0 (by rfl) T.g2 (pa_cons (pv 0) pa_nil)))
        (pa_cons (pe_ef (f := "most") (pe_exI M1.mks M1.kC M1.F hr M1.b pass0 (by rfl) T.g3 (pa_cons (pv 0) pa_nil)))
        (pa_cons (pe_ef (f := "number") (pe_exI M2.mks M2.kC M2.F hr M2.b pass0 (by rfl) T.g4 (pa_cons (pv 0) pa_nil)))
        (pa_cons (pe_ef (f := "what") (pe_exI M3.mks M3.kC M3.F hr M3.b pass0 (by rfl) T.g5 (pa_cons (pv 0) pa_nil)))
        (pa_cons (pe_ef (f := "budget") (pe_exI M4.mks M4.kC M4.F hr M4.b pass0 (by rfl) T.g6 (pa_cons (pv 0) pa_nil)))
        pa_nil)))))))
    (pss_cons (ps_set (i := 1) nd rfl (.inl rfl) (pe_op op_cat (pv 1) (pe_lst (pa_cons (pe_ef (f := "line") (pe_exI M5.mks M5.kC M5.F hr M5.b pass0 (by rfl) T.g16 (pa_cons (pv 0) pa_nil)))
        (pa_cons (pe_ef (f := "name") (pe_exI M6.mks M6.kC M6.F hr M6.b pass0 (by rfl) T.g18 (pa_cons (pv 0) pa_nil)))
        pa_nil)))))
    (pss_one (ps_ret (pe_cmpR op_eq (pe_callB (call_repr gd hr.units) (by rfl) mr (by decide +kernel) (pa_cons (pv 1) pa_nil)) (pe_callB (call_repr gd hr.units) (by rfl) mr (by decide +kernel) (pa_cons (pe_op op_rep (pe_lst (pa_cons (pv 0) pa_nil)) pe_int) pa_nil)) (nomark _))))), ?_⟩
  have s0 : Same H H := fun _ _ e => e
  have dd : d.depth < 9 := by
    have := g.dep
    omega
  refine ⟨_, rfl, (by show 1 ≤ 1000; decide), fun a0 n0 => ?_⟩
  have D0 := Gd.Dp.same (s0.trans (same_new (o := exo a0 (cs 2) none) n0)) d hd
  refine ⟨a0, v, d, rfl, upd_same, D0, g.tup, dd, fun v0 x0 H0 e0 m0 z0 f0 j0 w0 => ?_⟩
  refine ⟨rfl, a0, cs 2, x0, _, v0, rfl, f0, j0, T.ev 2 (by decide), M0.no, one_field _ _, ?_⟩
  have t0 := same_made n0 e0
  have s1 := s0.trans t0
  refine ⟨_, rfl, (by show 1 ≤ 1000; decide), fun a1 n1 => ?_⟩
  have D1 := Gd.Dp.same (s1.trans (same_new (o := exo a1 (cs 3) none) n1)) d hd
  refine ⟨a1, v, d, rfl, upd_same, D1, g.tup, dd, fun v1 x1 H1 e1 m1 z1 f1 j1 w1 => ?_⟩
  refine ⟨rfl, a1, cs 3, x1, _, v1, rfl, f1, j1, T.ev 3 (by decide), M1.no, one_field _ _, ?_⟩
  have t1 := same_made n1 e1
  have s2 := s1.trans t1
  refine ⟨_, rfl, (by show 1 ≤ 1000; decide), fun a2 n2 => ?_⟩
  have D2 := Gd.Dp.same (s2.trans (same_new (o := exo a2 (cs 4) none) n2)) d hd
  refine ⟨a2, v, d, rfl, upd_same, D2, g.tup, dd, fun v2 x2 H2 e2 m2 z2 f2 j2 w2 => ?_⟩
  refine ⟨rfl, a2, cs 4, x2, _, v2, rfl, f2, j2, T.ev 4 (by decide), M2.no, one_field _ _, ?_⟩
  have t2 := same_made n2 e2
  have s3 := s2.trans t2
  refine ⟨_, rfl, (by show 1 ≤ 1000; decide), fun a3 n3 => ?_⟩
  have D3 := Gd.Dp.same (s3.trans (same_new (o := exo a3 (cs 5) none) n3)) d hd
  refine ⟨a3, v, d, rfl, upd_same, D3, g.tup, dd, fun v3 x3 H3 e3 m3 z3 f3 j3 w3 => ?_⟩
  refine ⟨rfl, a3, cs 5, x3, _, v3, rfl, f3, j3, T.ev 5 (by decide), M3.no, one_field _ _, ?_⟩
  have t3 := same_made n3 e3
  have s4 := s3.trans t3
  refine ⟨_, rfl, (by show 1 ≤ 1000; decide), fun a4 n4 => ?_⟩
  have D4 := Gd.Dp.same (s4.trans (same_new (o := exo a4 (cs 6) none) n4)) d hd
  refine ⟨a4, v, d, rfl, upd_same, D4, g.tup, dd, fun v4 x4 H4 e4 m4 z4 f4 j4 w4 => ?_⟩
  refine ⟨rfl, a4, cs 6, x4, _, v4, rfl, f4, j4, T.ev 6 (by decide), M4.no, one_field _ _, ?_⟩
  have t4 := same_made n4 e4
  have s5 := s4.trans t4
  refine ⟨(by show 5 ≤ sizeLine; decide), fun L hL => ?_⟩
  have r5 : Same H4 (upd H4 L (.lst [v0, v1, v2, v3, v4])) := same_new hL
  refine ⟨_, rfl, ?_⟩
  refine ⟨_, rfl, (by show 1 ≤ 1000; decide), fun a5 n5 => ?_⟩
  have D5 := Gd.Dp.same ((s5.trans r5).trans (same_new (o := exo a5 (cs 16) none) n5)) d hd
  refine ⟨a5, v, d, rfl, upd_same, D5, g.tup, dd, fun v5 x5 H5 e5 m5 z5 f5 j5 w5 => ?_⟩
  refine ⟨rfl, a5, cs 16, x5, _, v5, rfl, f5, j5, T.ev 16 (by decide), M5.no, one_field _ _, ?_⟩
  have t5 := same_made n5 e5
  have s6 := (s5.trans r5).trans t5
  refine ⟨_, rfl, (by show 1 ≤ 1000; decide), fun a6 n6 => ?_⟩
  have D6 := Gd.Dp.same (s6.trans (same_new (o := exo a6 (cs 18) none) n6)) d hd
  refine ⟨a6, v, d, rfl, upd_same, D6, g.tup, dd, fun v6 x6 H6 e6 m6 z6 f6 j6 w6 => ?_⟩
  refine ⟨rfl, a6, cs 18, x6, _, v6, rfl, f6, j6, T.ev 18 (by decide), M6.no, one_field _ _, ?_⟩
  have t6 := same_made n6 e6
  have s7 := s6.trans t6
  refine ⟨(by show 2 ≤ sizeLine; decide), fun L2 hL2 => ?_⟩
  have eL : H6 L = some (.lst [v0, v1, v2, v3, v4]) := t6 _ _ (t5 _ _ upd_same)
  refine ⟨_, _, _, _, rfl, rfl, (same_new hL2) _ _ eL, upd_same, (by show 7 ≤ sizeLine; decide), fun L3 hL3 => ?_⟩
  have r7 : Same H6 (upd H6 L2 (.lst [v5, v6])) := same_new hL2
  have r8 := r7.trans (same_new (o := .lst [v0, v1, v2, v3, v4, v5, v6]) hL3)
  have u6 := r8
  have u5 := t6.trans u6
  have u4 := (r5.trans t5).trans u5
  have u3 := t4.trans u4
  have u2 := t3.trans u3
  have u1 := t2.trans u2
  have u0 := t1.trans u1
  have all : DpAll K _ [v0, v1, v2, v3, v4, v5, v6] (List.replicate 7 d) :=
    .cons (Gd.Dp.same u0 d w0) (.cons (Gd.Dp.same u1 d w1) (.cons (Gd.Dp.same u2 d w2) (.cons (Gd.Dp.same u3 d w3) (.cons (Gd.Dp.same u4 d w4)
      (.cons (Gd.Dp.same u5 d w5) (.cons (Gd.Dp.same u6 d w6) .nil))))))
  have s9 := s7.trans r8
  refine ⟨_, rfl, _, .list (List.replicate 7 d), rfl, .lst (SqL.of upd_same) all, many_show g 7, many_len g 7 (by decide), many_depth g 7, ?_⟩
  refine ⟨_, rfl, (by show 1 ≤ sizeLine; decide), fun L4 hL4 => ?_⟩
  refine ⟨_, _, _, rfl, rfl, upd_same, by decide, by decide, (by show 1 * (7 : Int).toNat ≤ sizeLine; decide), fun L5 hL5 => ?_⟩
  have s10 := (s9.trans (same_new (o := .lst [v]) hL4)).trans (same_new (o := .lst (List.replicate 7 v)) hL5)
  refine ⟨_, .list (List.replicate 7 d), rfl, .lst (SqL.of upd_same) (many_dp (Gd.Dp.same s10 d hd) 7), many_show g 7, many_len g 7 (by decide), many_depth g 7, ?_⟩
  refine ⟨rfl, ?_⟩
  rw [decide_eq_true rfl]
  exact q _ s10
end
end K99
end

section
set_option Elab.async false
set_option linter.all false
set_option maxRecDepth 100000
set_option maxHeartbeats 4000000
namespace K99
open PySem PySem.Spec PyProof.Rows L2 Gd
abbrev sRaised : Stmt := topS 27
theorem scRaised : FnScope ["_law_thing_here", "_law_found", "e"] ["_law_thing_here"] (defScope sRaised) :=
  ⟨rfl, rfl, rfl, by decide +kernel, rfl, by decide +kernel, by decide +kernel⟩
def spRaised (K : PySem.W.Frag) : Sp := fun vs H Q _ => ∃ (v : V) (d : PyData), vs = [v] ∧ Dp K H v d ∧ Good d ∧
  ∀ (p : Addr) (v' : V) (H' : Hp), Same H H' → H' p = some (.lst [v', .str "key"]) → Dp K H' v' d → Q (.ref p) H'
section
variable {K : PySem.W.Frag} {mg : Str → Option Value} {cs : Nat → Addr}
theorem Cls99.typ (T : Cls99 K mg cs) {i : Nat} (hi : i < 20) : PySem.W.typeIn K (.ref (cs i)) = some (.type "type") := by
  have h := T.ty i hi
  simp only [Bool.and_eq_true] at h
  exact eq_of_beq h.2
theorem Cls99.plan (T : Cls99 K mg cs) : PySem.W.exmOne K (.ref (cs 16)) (.ref (cs 19)) = some true := by
  have e9 := T.ev 19 (by decide)
  obtain ⟨cd, h1, h2⟩ := T.mro 16 (by decide)
  refine PySem.W.exm_ref e9.sub e9.hd (T.typ (by decide)) ?_
  rw [sub_by h1 (by rw [h2] <;> rfl), h2]
  simp
theorem exm_type {C : Addr} {b : Bool} (h : PySem.W.subIn K (.ref C) (.type "KeyError") = some b) :
    PySem.W.exmOne K (.ref C) (.type "KeyError") = some b := by
  have e : PySem.W.exmOne K (.ref C) (.type "KeyError") = PySem.W.subIn K (.ref C) (.type "KeyError") := by kernel_rfl
  rw [e, h]
theorem Cls99.key (T : Cls99 K mg cs) : PySem.W.exmOne K (.ref (cs 18)) (.type "KeyError") = some true := by
  obtain ⟨cd, h1, h2⟩ := T.mroU
  refine exm_type ?_
  rw [sub_by h1 (by rw [h2] <;> rfl), h2]
  simp [Gk.tail]
theorem del_at {H H1 : Hp} {a b dx : Addr} {o u : HO} {fs : List (Str × V)} (na : H a = none) (nd : H dx = none)
    (x : Ex1 a (upd H a o) H1) (e : H b = some u) : upd (L2.del H1 a) dx (.xd fs) b = some u := by
  rw [upd_ne (ne_of_none e nd), L2.del_ne (ne_of_none e na)]
  exact x b u (ne_of_none e na) (by rw [upd_ne (ne_of_none e na)]; exact e)
theorem tups_del {H1 : Hp} {a C dx : Addr} {fs gs : List (Str × V)} (f : H1 a = some (exo a C (some dx))) (j : H1 dx = some (exd dx fs)) :
    Tups K H1 (upd (L2.del H1 a) dx (.xd gs)) := by
  have nx : ∀ {xs : List V}, exd dx fs ≠ .tup xs := exd_tup
  have nf : ∀ {o : Obj} {u : HO}, exd dx fs ≠ .frz o u := fun z => by
    have z' : HO.ext _ = HO.frz _ _ := z
    cases z'
  intro b xs h
  rcases h with (h | ⟨o, h⟩) | h
  · refine .inl (.inl ?_)
    rw [upd_ne (at_ne j h nx), L2.del_ne (at_ne f h exo_tup)]
    exact h
  · refine .inl (.inr ⟨o, ?_⟩)
    rw [upd_ne (at_ne j h nf), L2.del_ne (at_ne f h exo_frz)]
    exact h
  · exact .inr h
end
section
variable {P : Program} {w : World} {K : PySem.W.Frag} {mg : Str → Option Value} {base : Heap} {f : Addr} {fd : FuncData} {cs : Nat → Addr}
def tsLine (K : PySem.W.Frag) (C : Addr) : Addr → Value → Option Addr → TS := fun a cls d =>
  tDrop (tBM K "list" rAppend (tVar 1) (tCons (tXf a cls d C "line" (tVar 2)) tNil))
def tsKey (K : PySem.W.Frag) : Addr → Value → Option Addr → TS := fun _ _ _ => tDrop (tBM K "list" rAppend (tVar 1) (tCons (tC (.str "key")) tNil))
theorem ok_raised (F : Fun K "_law_raised" "_law_raised" sRaised f fd) (T : Cls99 K mg cs) (mk : mg "KeyError" = none)
    {i5 i6 : Addr} {d5 d6 : FuncData} (M5 : MkC P w K mg base (cs 16) "line" i5 d5) (M6 : MkC P w K mg base (cs 18) "name" i6 d6) :
    FnOk P w K mg base CX0 12 f fd ["_law_thing_here"] (spRaised K) := by
  refine F.ok scRaised (fun vs H Q E h => ?_) (fun cdv A outer s H vs Q E hr h => ?_)
  · obtain ⟨v, d, rfl, _⟩ := h
    rfl
  obtain ⟨v, d, rfl, hd, g, q⟩ := h
  have nd := scRaised.nd
  have e5 := T.ev 16 (by decide)
  refine ⟨_, pss_cons (ps_set (i := 1) nd rfl (.inl rfl) (pe_lst pa_nil))
    (pss_cons (ps_try_as (i := 2) (ts := tsLine K (cs 16)) (Wout := fun _ _ _ _ => False)
        (tb := fun W => fun _ σ H => tMkO (cs 16) (spInit K (cs 16) "line") [] (tCons (tVar 0) tNil) σ H fun cls d H' => W cls d σ H')
        rfl rfl nd rfl rfl ⟨rfl, by decide, .inl T.g19⟩ takes0
        (fun W pn xe tk _ => by exact pss_one (ps_raise rfl tk (pmkM M5.mks M5.kC M5.ex M5.ty M5.F hr M5.b pass0 (by rfl) T.g16 (pa_cons (pv 0) pa_nil))))
        (fun a oe cls d pn hz hf => by exact (pss_one (ps_expr (pe_bm PySem.F.plainAttrs_list PySem.F.slot_list_append PySem.F.type_list_append mt_append (pv 1)
          (pa_cons (pe_xf (C := cs 16) ⟨e5.ga, e5.gt, e5.sub, e5.hd⟩ M5.no hz hf (pv 2)) pa_nil))))))
    (pss_cons (ps_try_only (c := .type "KeyError") (ts := tsKey K) (Wout := fun _ _ _ _ => False)
        (tb := fun W => fun _ σ H => tMkO (cs 18) (spInit K (cs 18) "name") [] (tCons (tVar 0) tNil) σ H fun cls d H' => W cls d σ H')
        rfl rfl ⟨rfl, by decide, .inr ⟨mk, by decide +kernel, by decide⟩⟩ takes0
        (fun W pn xe tk _ => by exact pss_one (ps_raise rfl tk (pmkM M6.mks M6.kC M6.ex M6.ty M6.F hr M6.b pass0 (by rfl) T.g18 (pa_cons (pv 0) pa_nil))))
        (fun a oe cls d pn hz hf => by exact (pss_one (ps_expr (pe_bm PySem.F.plainAttrs_list PySem.F.slot_list_append PySem.F.type_list_append mt_append (pv 1)
          (pa_cons pe_str pa_nil))))))
    (pss_one (ps_ret (pv 1))))), ?_⟩
  have dd : d.depth < 9 := by
    have := g.dep
    omega
  refine ⟨Nat.zero_le _, fun L hL => ?_⟩
  have r0 : Same H (upd H L (.lst [])) := same_new hL
  -- raise NoText(..), caught
  refine ⟨_, rfl, (by show 1 ≤ 1000; decide), fun a1 n1 => ?_⟩
  have D1 := Gd.Dp.same (r0.trans (same_new (o := exo a1 (cs 16) none) n1)) d hd
  refine ⟨a1, v, d, rfl, upd_same, D1, g.tup, dd, fun v1 x1 H1 e1 m1 z1 f1 j1 w1 => ?_⟩
  rw [upd_ne z1] at m1
  refine ⟨rfl, x1, _, f1, j1, m1, true, T.plan, fun _ b1 hb1 => ?_, fun q => nomatch q⟩
  have k1 : ∀ b u, upd H L (.lst []) b = some u → upd (L2.del H1 a1) x1 (.xd [("line", v1)]) b = some u := fun b u e => del_at n1 m1 e1 e
  have eL : upd (L2.del H1 a1) x1 (.xd [("line", v1)]) L = some (.lst []) := k1 _ _ upd_same
  refine ⟨_, rfl, .inl ⟨rfl, _, .inl (.inl eL)⟩, _, rfl, rfl, rfl, x1, _, v1, rfl, upd_same, one_field _ _, L, [], v1, rfl, rfl, eL, (by show 0 < sizeLine; decide), ?_⟩
  have T1 := (tups_del (K := K) (gs := [("line", v1)]) f1 j1).trans (Tups.upd_lst (ys := [v1]) eL)
  have W1 := Gd.Dp.tups T1 d g.tup w1
  have r1 : Same H (upd (upd (L2.del H1 a1) x1 (.xd [("line", v1)])) L (.lst [v1])) := fun b u e => by
    rw [upd_ne (ne_of_none e hL)]
    exact k1 _ _ (r0 _ _ e)
  -- raise Unknown(..), caught
  refine ⟨_, rfl, (by show 1 ≤ 1000; decide), fun a2 n2 => ?_⟩
  have D2 := Gd.Dp.same (r1.trans (same_new (o := exo a2 (cs 18) none) n2)) d hd
  refine ⟨a2, v, d, rfl, upd_same, D2, g.tup, dd, fun v2 x2 H2 e2 m2 z2 f2 j2 w2 => ?_⟩
  rw [upd_ne z2] at m2
  refine ⟨rfl, x2, _, f2, j2, m2, true, T.key, fun _ b2 hb2 => ?_, fun q => nomatch q⟩
  have k2 : ∀ b u, upd (upd (L2.del H1 a1) x1 (.xd [("line", v1)])) L (.lst [v1]) b = some u → upd (L2.del H2 a2) x2 (.xd [("name", v2)]) b = some u :=
    fun b u e => del_at n2 m2 e2 e
  have eL2 := k2 _ _ (upd_same (a := L) (o := .lst [v1]))
  refine ⟨_, rfl, .inl ⟨rfl, _, .inl (.inl eL2)⟩, L, [v1], .str "key", rfl, rfl, eL2, (by show 1 < sizeLine; decide), ?_⟩
  refine ⟨_, rfl, q L v1 _ (fun b u e => ?_) upd_same ?_⟩
  · rw [upd_ne (ne_of_none e hL)]
    exact k2 _ _ (r1 _ _ e)
  · exact Gd.Dp.tups (Tups.upd_lst eL2) d g.tup (Gd.Dp.same k2 d W1)
end
end K99
end

section
set_option Elab.async false
set_option linter.all false
set_option maxRecDepth 100000
set_option maxHeartbeats 8000000
namespace K99
open PySem PySem.Spec PyProof.Rows L2 Gd
abbrev sRight : Stmt := topS 29
theorem scRight : FnScope ["_law_thing_here", "_law_some", "_law_k", "_law_refusal", "_law_kinds_here", "_law_is_plan"] ["_law_thing_here"] (defScope sRight) :=
  ⟨rfl, rfl, rfl, by decide +kernel, rfl, by decide +kernel, by decide +kernel⟩
/-- those without an __init__ of their own -/
def plainIx : List Nat := [0, 1, 7, 8, 9, 10, 11, 12, 13, 14, 15, 17, 19]
structure Plain99 (K : PySem.W.Frag) (cs : Nat → Addr) : Prop where
  oe : ∀ i ∈ plainIx, OexC K (cs i)
  ib : ∀ i ∈ plainIx, PySem.W.findIn K (.ref (cs i)) "__init__" = some (some (.builtin "ValueError.__init__"))
structure Names99 (mg : Str → Option Value) : Prop where
  rep : mg "repr" = none
  enu : mg "enumerate" = none
  ve : mg "ValueError" = none
  ke : mg "KeyError" = none
section
variable {K : PySem.W.Frag} {mg : Str → Option Value} {cs : Nat → Addr}
theorem kit_type {C : Addr} {T : String} {b : Bool} (h : PySem.W.subIn K (.ref C) (.type T) = some b) (m : PySem.W.kitMeta T = true) :
    PySem.W.kitOne K (.ref C) (.type T) = some b := by
  unfold PySem.W.kitOne
  rw [if_neg (by simp)]
  show (if PySem.W.kitMeta T = true then PySem.W.subIn K (.ref C) (.type T) else none) = _
  rw [if_pos m, h]
theorem Cls99.kitP (T : Cls99 K mg cs) {i : Nat} (hi : i < 19) : PySem.W.kitOne K (.ref (cs i)) (.ref (cs 19)) = some (decide (i < 18)) := by
  have n : cs i ≠ cs 19 := fun z => by
    have := T.inj i 19 (by omega) (by omega) z
    omega
  by_cases h18 : i < 18
  · obtain ⟨cd, h1, h2⟩ := T.mro i h18
    rw [kit_ref h1 (by rw [h2] <;> rfl) (T.ty 19 (by omega)) n, h2]
    simp [h18]
  · have : i = 18 := by omega
    subst this
    obtain ⟨cd, h1, h2⟩ := T.mroU
    rw [kit_ref h1 (by rw [h2] <;> rfl) (T.ty 19 (by omega)) n, h2]
    simp [n.symm, Gk.tail]
theorem Cls99.kitV (T : Cls99 K mg cs) {i : Nat} (hi : i < 19) : PySem.W.kitOne K (.ref (cs i)) (.type "ValueError") = some (decide (i < 18)) := by
  refine kit_type ?_ (by decide +kernel)
  by_cases h18 : i < 18
  · obtain ⟨cd, h1, h2⟩ := T.mro i h18
    rw [sub_by h1 (by rw [h2] <;> rfl), h2]
    simp [h18]
  · have : i = 18 := by omega
    subst this
    obtain ⟨cd, h1, h2⟩ := T.mroU
    rw [sub_by h1 (by rw [h2] <;> rfl), h2]
    simp [Gk.tail]
theorem Cls99.kitK (T : Cls99 K mg cs) {i : Nat} (hi : i < 19) : PySem.W.kitOne K (.ref (cs i)) (.type "KeyError") = some (!decide (i < 18)) := by
  refine kit_type ?_ (by decide +kernel)
  by_cases h18 : i < 18
  · obtain ⟨cd, h1, h2⟩ := T.mro i h18
    rw [sub_by h1 (by rw [h2] <;> rfl), h2]
    simp [h18]
  · have : i = 18 := by omega
    subst this
    obtain ⟨cd, h1, h2⟩ := T.mroU
    rw [sub_by h1 (by rw [h2] <;> rfl), h2]
    simp [Gk.tail]
end
def spRight (K : PySem.W.Frag) : Sp := fun vs H Q _ => ∃ (v : V) (d : PyData), vs = [v] ∧ Dp K H v d ∧ Good d ∧ ∀ H' : Hp, Same H H' → Q (.bl true) H'
def kindsOf (i : Nat) : List Bool := (List.range 19).map fun j => decide (i = j)
theorem kinds_one : ∀ i, i < 19 → (kindsOf i).count true = 1 := by decide +kernel
theorem kinds_at : ∀ i, i < 19 → (kindsOf i)[i]? = some true := by decide +kernel
theorem kinds_map (i : Nat) : ((List.range 19).map fun j => V.bl (decide (i = j))) = (kindsOf i).map V.bl := by
  unfold kindsOf
  rw [List.map_map]
  rfl
theorem pair_good {K : PySem.W.Frag} {d : PyData} (g : Good d) : (PyData.list [d, .str "key"]).showable = true ∧ (PyData.list [d, .str "key"]).shown.length ≤ sizeLine ∧
    (PyData.list [d, .str "key"]).depth ≤ 60 := by
  refine ⟨?_, ?_, ?_⟩
  · simp [PyData.showable, PyData.showableAll, g.shw]
  · simp only [PyData.shown, PyData.shownAll]
    have h := listText_len_le [d.shown, reprText "key"]
    have e : (reprText ("key" : Str)).length ≤ 10 := by decide +kernel
    have := g.len
    simp only [List.map_cons, List.map_nil, List.sum_cons, List.sum_nil, List.length_cons, List.length_nil] at h
    exact Nat.le_trans (show _ ≤ 100000 by omega) (by decide)
  · have := g.dep
    simp only [PyData.depth, PyData.depthAll]
    omega
theorem iteNot {c : Bool} {A B : Prop} (e : c = false) (h : B) : if c = true then A else B := by
  rw [e, if_neg Bool.false_ne_true]
  exact h
theorem eat_new {H : Hp} {a C : Addr} (_ : H a = none) : EAt (upd H a (exo a C none)) a C := .inl upd_same
theorem at_new {H : Hp} {p : Addr} {o : HO} (_ : H p = none) : upd H p o p = some o := upd_same
section
variable {P : Program} {w : World} {K : PySem.W.Frag} {mg : Str → Option Value} {base : Heap} {f fK fF fR : Addr} {fd dK dF dR : FuncData} {cs : Nat → Addr}
theorem ok_right (F : Fun K "_law_right" "_law_right" sRight f fd) (T : Cls99 K mg cs) (N : Plain99 K cs) (Z : Names99 mg)
    {i0 : Addr} {d0 : FuncData} (M0 : MkC P w K mg base (cs 2) "name" i0 d0)
    {i1 : Addr} {d1 : FuncData} (M1 : MkC P w K mg base (cs 3) "most" i1 d1)
    {i2 : Addr} {d2 : FuncData} (M2 : MkC P w K mg base (cs 4) "number" i2 d2)
    {i3 : Addr} {d3 : FuncData} (M3 : MkC P w K mg base (cs 5) "what" i3 d3)
    {i4 : Addr} {d4 : FuncData} (M4 : MkC P w K mg base (cs 6) "budget" i4 d4)
    {i5 : Addr} {d5 : FuncData} (M5 : MkC P w K mg base (cs 16) "line" i5 d5)
    {i6 : Addr} {d6 : FuncData} (M6 : MkC P w K mg base (cs 18) "name" i6 d6)
    (FK : Fun K "_law_kinds" "_law_kinds" sKinds fK dK) (bK : Binds K dK ["_law_refusal"] []) (gK : mg "_law_kinds" = some (.ref fK))
    (FF : Fun K "_law_fields_right" "_law_fields_right" sFields fF dF) (bF : Binds K dF ["_law_thing_here"] []) (gF : mg "_law_fields_right" = some (.ref fF))
    (FR : Fun K "_law_raised" "_law_raised" sRaised fR dR) (bR : Binds K dR ["_law_thing_here"] []) (gR : mg "_law_raised" = some (.ref fR)) :
    FnG P w K mg base CX0 13 f fd ["_law_thing_here"] (spRight K) := by
  have GK : FnOk P w K mg base CX0 1 fK dK ["_law_refusal"] (spKinds cs) := ok_kinds FK T
  have GF : FnG P w K mg base CX0 12 fF dF ["_law_thing_here"] (spFields K) := ok_fields FF T Z.rep M0 M1 M2 M3 M4 M5 M6
  have GR : FnOk P w K mg base CX0 12 fR dR ["_law_thing_here"] (spRaised K) := ok_raised FR T Z.ke M5 M6
  refine okG F scRight (fun vs H Q E h => ?_) (fun cv A out s H vs Q E gd hr h => ?_)
  · obtain ⟨v, d, rfl, _⟩ := h
    rfl
  obtain ⟨v, d, rfl, hd, g, q⟩ := h
  have nd := scRight.nd
  have hr11 := hr.mono (show 11 ≤ 12 by decide)
  have hr1 := hr.mono (show 1 ≤ 12 by decide)
  refine ⟨_, pss_cons (ps_set (i := 1) nd rfl (.inl rfl) (pe_lst (pa_cons (pe_exB0 (N.oe 0 (by decide)) (N.ib 0 (by decide)) (by rfl) T.g0)
        (pa_cons (pe_exB0 (N.oe 1 (by decide)) (N.ib 1 (by decide)) (by rfl) T.g1)
        (pa_cons (pe_exI M0.mks M0.kC M0.F hr11 M0.b pass0 (by rfl) T.g2 (pa_cons (pv 0) pa_nil))
        (pa_cons (pe_exI M1.mks M1.kC M1.F hr11 M1.b pass0 (by rfl) T.g3 (pa_cons (pv 0) pa_nil))
        (pa_cons (pe_exI M2.mks M2.kC M2.F hr11 M2.b pass0 (by rfl) T.g4 (pa_cons (pv 0) pa_nil))
        (pa_cons (pe_exI M3.mks M3.kC M3.F hr11 M3.b pass0 (by rfl) T.g5 (pa_cons (pv 0) pa_nil))
        (pa_cons (pe_exI M4.mks M4.kC M4.F hr11 M4.b pass0 (by rfl) T.g6 (pa_cons (pv 0) pa_nil))
        (pa_cons (pe_exB0 (N.oe 7 (by decide)) (N.ib 7 (by decide)) (by rfl) T.g7)
        pa_nil))))))))))
    (pss_cons (ps_set (i := 1) nd rfl (.inl rfl) (pe_op op_cat (pv 1) (pe_lst (pa_cons (pe_exB0 (N.oe 8 (by decide)) (N.ib 8 (by decide)) (by rfl) T.g8)
        (pa_cons (pe_exB0 (N.oe 9 (by decide)) (N.ib 9 (by decide)) (by rfl) T.g9)
        (pa_cons (pe_exB0 (N.oe 10 (by decide)) (N.ib 10 (by decide)) (by rfl) T.g10)
        (pa_cons (pe_exB0 (N.oe 11 (by decide)) (N.ib 11 (by decide)) (by rfl) T.g11)
        (pa_cons (pe_exB0 (N.oe 12 (by decide)) (N.ib 12 (by decide)) (by rfl) T.g12)
        (pa_cons (pe_exB0 (N.oe 13 (by decide)) (N.ib 13 (by decide)) (by rfl) T.g13)
        (pa_cons (pe_exB0 (N.oe 14 (by decide)) (N.ib 14 (by decide)) (by rfl) T.g14)
        (pa_cons (pe_exB0 (N.oe 15 (by decide)) (N.ib 15 (by decide)) (by rfl) T.g15)
        (pa_cons (pe_exI M5.mks M5.kC M5.F hr11 M5.b pass0 (by rfl) T.g16 (pa_cons (pv 0) pa_nil))
        pa_nil))))))))))))
    (pss_cons (ps_set (i := 1) nd rfl (.inl rfl) (pe_op op_cat (pv 1) (pe_lst (pa_cons (pe_exB0 (N.oe 17 (by decide)) (N.ib 17 (by decide)) (by rfl) T.g17)
        (pa_cons (pe_exI M6.mks M6.kC M6.F hr11 M6.b pass0 (by rfl) T.g18 (pa_cons (pv 0) pa_nil))
        pa_nil)))))
    (pss_cons (ps_for PassesOwn.never rfl (pi_enum (by rfl) Z.enu (pa_cons (pv 1) pa_nil))
        (pg_tup rfl (pgs_cons (pg_name (i := 2) nd rfl (.inl rfl)) (pgs_cons (pg_name (i := 3) nd rfl (.inl rfl)) pgs_nil)))
      (pss_cons (ps_set (i := 4) nd rfl (.inl rfl) (pe_call GK hr1 (by rfl) gK FK.kp bK .nil pass0 (pa_cons (pv 3) pa_nil)))
      (pss_cons (ps_if (PW.pt (pw_or (pt_cmpR op_ne (pe_bm PySem.F.plainAttrs_list PySem.F.slot_list_count PySem.F.type_list_count mt_countB (pv 4) (pa_cons pe_bl pa_nil)) pe_int (nomark _))
          (pw_or1 (pt_not (pt_val (pe_ix ix_list (pv 4) (pv 2) (fun _ _ => rfl))))))) pss_never pss_nil)
      (pss_cons (ps_set (i := 5) nd rfl (.inl rfl) (pe_cmpR op_lt (pv 2) pe_int (nomark _)))
      (pss_cons (ps_if (PW.pt (pw_or (pt_cmpR op_ne (pe_callB call_isE (by rfl) T.isi (by decide +kernel) (pa_cons (pv 3) (pa_cons (pe_glob (v := .ref (cs 19)) (by rfl) T.g19 rfl) pa_nil))) (pv 5) (nomark _)) (pw_or1 (pt_cmpR op_ne (pe_callB call_isE (by rfl) T.isi (by decide +kernel) (pa_cons (pv 3) (pa_cons (pe_bltn (v := .ty "ValueError") (by rfl) Z.ve (by decide +kernel) rfl) pa_nil))) (pv 5) (nomark _))))) pss_never pss_nil)
      (pss_one (ps_if (pt_cmpR op_eq (pe_callB call_isE (by rfl) T.isi (by decide +kernel) (pa_cons (pv 3) (pa_cons (pe_bltn (v := .ty "KeyError") (by rfl) Z.ke (by decide +kernel) rfl) pa_nil))) (pv 5) (nomark _)) pss_never pss_nil)))))))
    (pss_one (ps_ret (pe_and (pe_callG GF gd hr (by rfl) gF FF.kp bF .nil pass0 (pa_cons (pv 0) pa_nil))
      (pe_one (pe_cmpR op_eq (pe_callB (call_repr gd hr.units) (by rfl) Z.rep (by decide +kernel) (pa_cons (pe_call GR hr (by rfl) gR FR.kp bR .nil pass0 (pa_cons (pv 0) pa_nil)) pa_nil)) (pe_callB (call_repr gd hr.units) (by rfl) Z.rep (by decide +kernel) (pa_cons (pe_lst (pa_cons (pv 0) (pa_cons pe_str pa_nil))) pa_nil)) (nomark _))))))))), ?_⟩
  have s0 : Same H H := fun _ _ e => e
  have dd : d.depth < 9 := by
    have := g.dep
    omega
  refine ⟨(by show 0 ≤ 1000; decide), fun a0 n0 => ?_⟩
  have t0 := same_new (o := exo a0 (cs 0) none) n0
  have E0 := eat_new (C := cs 0) n0
  have S0 := s0.trans t0
  refine ⟨(by show 0 ≤ 1000; decide), fun a1 n1 => ?_⟩
  have t1 := same_new (o := exo a1 (cs 1) none) n1
  have E1 := eat_new (C := cs 1) n1
  have S1 := S0.trans t1
  refine ⟨_, rfl, (by show 1 ≤ 1000; decide), fun a2 n2 => ?_⟩
  have D2 := Gd.Dp.same (S1.trans (same_new (o := exo a2 (cs 2) none) n2)) d hd
  refine ⟨a2, v, d, rfl, upd_same, D2, g.tup, dd, fun v2 x2 H2 e2 m2 z2 f2 j2 w2 => ⟨rfl, ?_⟩⟩
  have t2 := same_made n2 e2
  have E2 : EAt H2 a2 (cs 2) := .inr ⟨x2, _, f2, j2⟩
  have S2 := S1.trans t2
  refine ⟨_, rfl, (by show 1 ≤ 1000; decide), fun a3 n3 => ?_⟩
  have D3 := Gd.Dp.same (S2.trans (same_new (o := exo a3 (cs 3) none) n3)) d hd
  refine ⟨a3, v, d, rfl, upd_same, D3, g.tup, dd, fun v3 x3 H3 e3 m3 z3 f3 j3 w3 => ⟨rfl, ?_⟩⟩
  have t3 := same_made n3 e3
  have E3 : EAt H3 a3 (cs 3) := .inr ⟨x3, _, f3, j3⟩
  have S3 := S2.trans t3
  refine ⟨_, rfl, (by show 1 ≤ 1000; decide), fun a4 n4 => ?_⟩
  have D4 := Gd.Dp.same (S3.trans (same_new (o := exo a4 (cs 4) none) n4)) d hd
  refine ⟨a4, v, d, rfl, upd_same, D4, g.tup, dd, fun v4 x4 H4 e4 m4 z4 f4 j4 w4 => ⟨rfl, ?_⟩⟩
  have t4 := same_made n4 e4
  have E4 : EAt H4 a4 (cs 4) := .inr ⟨x4, _, f4, j4⟩
  have S4 := S3.trans t4
  refine ⟨_, rfl, (by show 1 ≤ 1000; decide), fun a5 n5 => ?_⟩
  have D5 := Gd.Dp.same (S4.trans (same_new (o := exo a5 (cs 5) none) n5)) d hd
  refine ⟨a5, v, d, rfl, upd_same, D5, g.tup, dd, fun v5 x5 H5 e5 m5 z5 f5 j5 w5 => ⟨rfl, ?_⟩⟩
  have t5 := same_made n5 e5
  have E5 : EAt H5 a5 (cs 5) := .inr ⟨x5, _, f5, j5⟩
  have S5 := S4.trans t5
  refine ⟨_, rfl, (by show 1 ≤ 1000; decide), fun a6 n6 => ?_⟩
  have D6 := Gd.Dp.same (S5.trans (same_new (o := exo a6 (cs 6) none) n6)) d hd
  refine ⟨a6, v, d, rfl, upd_same, D6, g.tup, dd, fun v6 x6 H6 e6 m6 z6 f6 j6 w6 => ⟨rfl, ?_⟩⟩
  have t6 := same_made n6 e6
  have E6 : EAt H6 a6 (cs 6) := .inr ⟨x6, _, f6, j6⟩
  have S6 := S5.trans t6
  refine ⟨(by show 0 ≤ 1000; decide), fun a7 n7 => ?_⟩
  have t7 := same_new (o := exo a7 (cs 7) none) n7
  have E7 := eat_new (C := cs 7) n7
  have S7 := S6.trans t7
  refine ⟨(by show 8 ≤ sizeLine; decide), fun L1 h1 => ?_⟩
  have b1 := same_new (o := .lst [.ref a0, .ref a1, .ref a2, .ref a3, .ref a4, .ref a5, .ref a6, .ref a7]) h1
  have R1 := S7.trans b1
  refine ⟨_, rfl, ?_⟩
  refine ⟨(by show 0 ≤ 1000; decide), fun a8 n8 => ?_⟩
  have t8 := same_new (o := exo a8 (cs 8) none) n8
  have E8 := eat_new (C := cs 8) n8
  have S8 := R1.trans t8
  refine ⟨(by show 0 ≤ 1000; decide), fun a9 n9 => ?_⟩
  have t9 := same_new (o := exo a9 (cs 9) none) n9
  have E9 := eat_new (C := cs 9) n9
  have S9 := S8.trans t9
  refine ⟨(by show 0 ≤ 1000; decide), fun a10 n10 => ?_⟩
  have t10 := same_new (o := exo a10 (cs 10) none) n10
  have E10 := eat_new (C := cs 10) n10
  have S10 := S9.trans t10
  refine ⟨(by show 0 ≤ 1000; decide), fun a11 n11 => ?_⟩
  have t11 := same_new (o := exo a11 (cs 11) none) n11
  have E11 := eat_new (C := cs 11) n11
  have S11 := S10.trans t11
  refine ⟨(by show 0 ≤ 1000; decide), fun a12 n12 => ?_⟩
  have t12 := same_new (o := exo a12 (cs 12) none) n12
  have E12 := eat_new (C := cs 12) n12
  have S12 := S11.trans t12
  refine ⟨(by show 0 ≤ 1000; decide), fun a13 n13 => ?_⟩
  have t13 := same_new (o := exo a13 (cs 13) none) n13
  have E13 := eat_new (C := cs 13) n13
  have S13 := S12.trans t13
  refine ⟨(by show 0 ≤ 1000; decide), fun a14 n14 => ?_⟩
  have t14 := same_new (o := exo a14 (cs 14) none) n14
  have E14 := eat_new (C := cs 14) n14
  have S14 := S13.trans t14
  refine ⟨(by show 0 ≤ 1000; decide), fun a15 n15 => ?_⟩
  have t15 := same_new (o := exo a15 (cs 15) none) n15
  have E15 := eat_new (C := cs 15) n15
  have S15 := S14.trans t15
  refine ⟨_, rfl, (by show 1 ≤ 1000; decide), fun a16 n16 => ?_⟩
  have D16 := Gd.Dp.same (S15.trans (same_new (o := exo a16 (cs 16) none) n16)) d hd
  refine ⟨a16, v, d, rfl, upd_same, D16, g.tup, dd, fun v16 x16 H16 e16 m16 z16 f16 j16 w16 => ⟨rfl, ?_⟩⟩
  have t16 := same_made n16 e16
  have E16 : EAt H16 a16 (cs 16) := .inr ⟨x16, _, f16, j16⟩
  have S16 := S15.trans t16
  refine ⟨(by show 9 ≤ sizeLine; decide), fun L2 h2 => ?_⟩
  have b2 := same_new (o := .lst [.ref a8, .ref a9, .ref a10, .ref a11, .ref a12, .ref a13, .ref a14, .ref a15, .ref a16]) h2
  have c1 := (t16 _ _ (t15 _ _ (t14 _ _ (t13 _ _ (t12 _ _ (t11 _ _ (t10 _ _ (t9 _ _ (t8 _ _ (at_new (o := HO.lst [.ref a0, .ref a1, .ref a2, .ref a3, .ref a4, .ref a5, .ref a6, .ref a7]) h1))))))))))
  refine ⟨_, _, _, _, rfl, rfl, b2 _ _ c1, upd_same, (by show 17 ≤ sizeLine; decide), fun L3 h3 => ?_⟩
  have b3 := same_new (o := .lst [.ref a0, .ref a1, .ref a2, .ref a3, .ref a4, .ref a5, .ref a6, .ref a7, .ref a8, .ref a9, .ref a10, .ref a11, .ref a12, .ref a13, .ref a14, .ref a15, .ref a16]) h3
  have R2 := (S16.trans b2).trans b3
  refine ⟨_, rfl, ?_⟩
  refine ⟨(by show 0 ≤ 1000; decide), fun a17 n17 => ?_⟩
  have t17 := same_new (o := exo a17 (cs 17) none) n17
  have E17 := eat_new (C := cs 17) n17
  have S17 := R2.trans t17
  refine ⟨_, rfl, (by show 1 ≤ 1000; decide), fun a18 n18 => ?_⟩
  have D18 := Gd.Dp.same (S17.trans (same_new (o := exo a18 (cs 18) none) n18)) d hd
  refine ⟨a18, v, d, rfl, upd_same, D18, g.tup, dd, fun v18 x18 H18 e18 m18 z18 f18 j18 w18 => ⟨rfl, ?_⟩⟩
  have t18 := same_made n18 e18
  have E18 : EAt H18 a18 (cs 18) := .inr ⟨x18, _, f18, j18⟩
  have S18 := S17.trans t18
  refine ⟨(by show 2 ≤ sizeLine; decide), fun L4 h4 => ?_⟩
  have b4 := same_new (o := .lst [.ref a17, .ref a18]) h4
  have c3 := (t18 _ _ (t17 _ _ (at_new (o := HO.lst [.ref a0, .ref a1, .ref a2, .ref a3, .ref a4, .ref a5, .ref a6, .ref a7, .ref a8, .ref a9, .ref a10, .ref a11, .ref a12, .ref a13, .ref a14, .ref a15, .ref a16]) h3)))
  refine ⟨_, _, _, _, rfl, rfl, b4 _ _ c3, upd_same, (by show 19 ≤ sizeLine; decide), fun L5 h5 => ?_⟩
  have b5 := same_new (o := .lst [.ref a0, .ref a1, .ref a2, .ref a3, .ref a4, .ref a5, .ref a6, .ref a7, .ref a8, .ref a9, .ref a10, .ref a11, .ref a12, .ref a13, .ref a14, .ref a15, .ref a16, .ref a17, .ref a18]) h5
  have SG := (S18.trans b4).trans b5
  have u_b5 := b5
  have u_b4 := b4.trans u_b5
  have u_t18 := t18.trans u_b4
  have u_t17 := t17.trans u_t18
  have u_b3 := b3.trans u_t17
  have u_b2 := b2.trans u_b3
  have u_t16 := t16.trans u_b2
  have u_t15 := t15.trans u_t16
  have u_t14 := t14.trans u_t15
  have u_t13 := t13.trans u_t14
  have u_t12 := t12.trans u_t13
  have u_t11 := t11.trans u_t12
  have u_t10 := t10.trans u_t11
  have u_t9 := t9.trans u_t10
  have u_t8 := t8.trans u_t9
  have u_b1 := b1.trans u_t8
  have u_t7 := t7.trans u_b1
  have u_t6 := t6.trans u_t7
  have u_t5 := t5.trans u_t6
  have u_t4 := t4.trans u_t5
  have u_t3 := t3.trans u_t4
  have u_t2 := t2.trans u_t3
  have u_t1 := t1.trans u_t2
  have u_t0 := t0.trans u_t1
  have X0 := E0.same u_t1
  have X1 := E1.same u_t2
  have X2 := E2.same u_t3
  have X3 := E3.same u_t4
  have X4 := E4.same u_t5
  have X5 := E5.same u_t6
  have X6 := E6.same u_t7
  have X7 := E7.same u_b1
  have X8 := E8.same u_t9
  have X9 := E9.same u_t10
  have X10 := E10.same u_t11
  have X11 := E11.same u_t12
  have X12 := E12.same u_t13
  have X13 := E13.same u_t14
  have X14 := E14.same u_t15
  have X15 := E15.same u_t16
  have X16 := E16.same u_b2
  have X17 := E17.same u_t18
  have X18 := E18.same u_b4
  have pick : ∀ i, i < 19 → ∃ a, ([.ref a0, .ref a1, .ref a2, .ref a3, .ref a4, .ref a5, .ref a6, .ref a7, .ref a8, .ref a9, .ref a10, .ref a11, .ref a12, .ref a13, .ref a14, .ref a15, .ref a16, .ref a17, .ref a18] : List V)[i]? = some (.ref a) ∧ EAt (upd (upd H18 L4 (.lst [.ref a17, .ref a18])) L5 (.lst [.ref a0, .ref a1, .ref a2, .ref a3, .ref a4, .ref a5, .ref a6, .ref a7, .ref a8, .ref a9, .ref a10, .ref a11, .ref a12, .ref a13, .ref a14, .ref a15, .ref a16, .ref a17, .ref a18])) a (cs i) := by
    intro i hi
    have hh : i = 0 ∨ i = 1 ∨ i = 2 ∨ i = 3 ∨ i = 4 ∨ i = 5 ∨ i = 6 ∨ i = 7 ∨ i = 8 ∨ i = 9 ∨ i = 10 ∨ i = 11 ∨ i = 12 ∨ i = 13 ∨ i = 14 ∨ i = 15 ∨ i = 16 ∨ i = 17 ∨ i = 18 := by omega
    rcases hh with rfl | rfl | rfl | rfl | rfl | rfl | rfl | rfl | rfl | rfl | rfl | rfl | rfl | rfl | rfl | rfl | rfl | rfl | rfl
    · exact ⟨a0, rfl, X0⟩
    · exact ⟨a1, rfl, X1⟩
    · exact ⟨a2, rfl, X2⟩
    · exact ⟨a3, rfl, X3⟩
    · exact ⟨a4, rfl, X4⟩
    · exact ⟨a5, rfl, X5⟩
    · exact ⟨a6, rfl, X6⟩
    · exact ⟨a7, rfl, X7⟩
    · exact ⟨a8, rfl, X8⟩
    · exact ⟨a9, rfl, X9⟩
    · exact ⟨a10, rfl, X10⟩
    · exact ⟨a11, rfl, X11⟩
    · exact ⟨a12, rfl, X12⟩
    · exact ⟨a13, rfl, X13⟩
    · exact ⟨a14, rfl, X14⟩
    · exact ⟨a15, rfl, X15⟩
    · exact ⟨a16, rfl, X16⟩
    · exact ⟨a17, rfl, X17⟩
    · exact ⟨a18, rfl, X18⟩
  refine ⟨_, rfl, L5, [.ref a0, .ref a1, .ref a2, .ref a3, .ref a4, .ref a5, .ref a6, .ref a7, .ref a8, .ref a9, .ref a10, .ref a11, .ref a12, .ref a13, .ref a14, .ref a15, .ref a16, .ref a17, .ref a18], rfl, SqL.of (at_new h5), ?_⟩
  refine for_it (walk_enum (xs := [.ref a0, .ref a1, .ref a2, .ref a3, .ref a4, .ref a5, .ref a6, .ref a7, .ref a8, .ref a9, .ref a10, .ref a11, .ref a12, .ref a13, .ref a14, .ref a15, .ref a16, .ref a17, .ref a18])) (fun i σ H' => Same (upd (upd H18 L4 (.lst [.ref a17, .ref a18])) L5 (.lst [.ref a0, .ref a1, .ref a2, .ref a3, .ref a4, .ref a5, .ref a6, .ref a7, .ref a8, .ref a9, .ref a10, .ref a11, .ref a12, .ref a13, .ref a14, .ref a15, .ref a16, .ref a17, .ref a18])) H' ∧
    ∃ y2 y3 y4 y5 : Option V, σ = [some v, some (.ref L5), y2, y3, y4, y5]) ⟨fun _ _ e => e, _, _, _, _, rfl⟩ ?_ ?_ ?_
  · rintro i σ H' _ ⟨sm, _⟩
    exact SqL.of (sm _ _ (at_new h5))
  · rintro i x σ H1 H2 hi ⟨sm, y2, y3, y4, y5, rfl⟩ ⟨Tp, x1, x2, rfl, nT, rfl, e1, e2⟩
    have hi' : i < 19 := hi
    obtain ⟨ai, ea, hE⟩ := pick i hi'
    cases Option.some.inj e1
    have ex2 : x2 = .ref ai := Option.some.inj (e2.symm.trans ea)
    subst ex2
    have smT : Same H1 (upd H1 Tp (.tup [.int (i : Nat), .ref ai])) := same_new nT
    refine ⟨Tp, [.int (i : Nat), .ref ai], rfl, .inl (.inl upd_same), rfl, .int (i : Nat), [.ref ai], rfl, .ref ai, [], rfl, rfl, ?_⟩
    refine ⟨_, rfl, ai, i, rfl, hi', (hE.same sm).same smT, fun p H3 sm3 ep => ?_⟩
    rw [kinds_map] at ep
    have hE3 := ((hE.same sm).same smT).same sm3
    have ev := T.ev i (by omega)
    -- kinds_here.count(True) != 1 or not kinds_here[k]
    refine ⟨_, rfl, .inl ⟨rfl, _, .inl (.inl ep)⟩, p, kindsOf i, true, rfl, rfl, SqL.of ep, rfl, _, rfl, ?_⟩
    rw [kinds_one i hi']
    refine iteNot rfl ⟨_, rfl, _, rfl, p, _, (i : Nat), .bl true, rfl, rfl, SqL.of ep, atI_nat (by rw [List.getElem?_map, kinds_at i hi'] <;> rfl), true, rfl, iteF ?_⟩
    have bi : decide (((i : Nat) : Int) < 18) = decide (i < 18) := by
      by_cases c : i < 18
      · rw [decide_eq_true c, decide_eq_true (show ((i : Nat) : Int) < 18 by omega)]
      · rw [decide_eq_false c, decide_eq_false (show ¬ ((i : Nat) : Int) < 18 by omega)]
    refine ⟨_, rfl, _, _, rfl, rfl, ?_⟩
    dsimp only
    rw [bi]
    refine ⟨_, rfl, ai, cs i, _, _, _, rfl, .own _, ev, T.vb, hE3, T.kitP hi', _, rfl, rfl, _, rfl, ?_⟩
    refine iteNot (by simp) ⟨_, rfl, ai, cs i, _, _, _, rfl, .ty _, ev, T.vb, hE3, T.kitV hi', _, rfl, rfl, _, rfl, iteNot (by simp) ?_⟩
    refine ⟨_, rfl, ai, cs i, _, _, _, rfl, .ty _, ev, T.vb, hE3, T.kitK hi', _, rfl, rfl, _, rfl, iteNot ?_ ?_⟩
    · cases decide (i < 18) <;> simp
    · exact ⟨(sm.trans smT).trans sm3, _, _, _, _, rfl⟩
  · rintro σ H' ⟨sm, y2, y3, y4, y5, rfl⟩
    have SH := SG.trans sm
    obtain ⟨p1, p2, p3⟩ := pair_good (K := K) g
    refine ⟨_, rfl, v, d, rfl, Gd.Dp.same SH d hd, g, fun H4 sm4 => ⟨true, rfl, iteT ?_⟩⟩
    refine ⟨_, rfl, v, d, rfl, Gd.Dp.same (SH.trans sm4) d hd, g, fun p v' H5 sm5 ep hv => ?_⟩
    refine ⟨_, .list [d, .str "key"], rfl, .lst (SqL.of ep) (.cons hv (.cons (.str _) .nil)), p1, p2, p3, ?_⟩
    refine ⟨_, rfl, (by show 2 ≤ sizeLine; decide), fun L6 h6 => ?_⟩
    have s6 := ((SH.trans sm4).trans sm5).trans (same_new (o := .lst [v, .str "key"]) h6)
    refine ⟨_, .list [d, .str "key"], rfl, .lst (SqL.of upd_same) (.cons (Gd.Dp.same s6 d hd) (.cons (.str _) .nil)), p1, p2, p3, rfl, ?_⟩
    rw [decide_eq_true rfl]
    exact q _ s6
end
end K99
end

section
set_option Elab.async false
set_option linter.all false
set_option maxRecDepth 100000
set_option maxHeartbeats 8000000
namespace K99
open PySem PySem.Spec PyProof.Rows L2 Gd
abbrev sLaw : Stmt := topS 30
theorem scLaw : FnScope ["_law_script", "_law_k"] ["_law_script"] (defScope sLaw) :=
  ⟨rfl, rfl, rfl, by decide +kernel, rfl, by decide +kernel, by decide +kernel⟩
def spLaw (K : PySem.W.Frag) : Sp := fun vs H Q _ => ∃ (a : Addr) (ns : List Int), vs = [.ref a] ∧ SqL K H a (ns.map V.int) ∧ ns.length ≤ 63 ∧ ∀ H', Q (.bl true) H'
theorem Ex1.lists {K : PySem.W.Frag} {H H' : Hp} {p a : Addr} {xs : List V} (n : H p = none) (x : Ex1 p H H') (h : SqL K H a xs) : SqL K H' a xs := by
  rcases h with (h | ⟨o, h⟩) | h
  · exact .inl (.inl (x _ _ (ne_of_none h n) h))
  · exact .inl (.inr ⟨o, x _ _ (ne_of_none h n) h⟩)
  · exact .inr h
structure More99 (mg : Str → Option Value) : Prop where
  len : mg "len" = none
  rng : mg "range" = none
  min : mg "min" = none
section
variable {P : Program} {w : World} {K : PySem.W.Frag} {mg : Str → Option Value} {base : Heap} {f fD fT fR : Addr} {fd dD dT dR : FuncData} {cs : Nat → Addr}
theorem ok_law (F : Fun K "law" "law" sLaw f fd) (T : Cls99 K mg cs) (N : Plain99 K cs) (Z : Names99 mg) (Y : More99 mg)
    (FD : Fun K "_law_feed" "_law_feed" sFeed fD dD) (GD : FnOk P w K mg base CX0 1 fD dD ["_law_script", "_law_k"] (spFeed K)) (bD : Binds K dD ["_law_script", "_law_k"] []) (gD : mg "_law_feed" = some (.ref fD))
    (FT : Fun K "_law_thing" "_law_thing" sThing fT dT) (GT : FnOk P w K mg base CX0 2 fT dT ["_law_feed_here"] (spThing K)) (bT : Binds K dT ["_law_feed_here"] []) (gT : mg "_law_thing" = some (.ref fT))
    (FR : Fun K "_law_right" "_law_right" sRight fR dR) (GR : FnG P w K mg base CX0 13 fR dR ["_law_thing_here"] (spRight K)) (bR : Binds K dR ["_law_thing_here"] []) (gR : mg "_law_right" = some (.ref fR)) :
    FnG P w K mg base CX0 14 f fd ["_law_script"] (spLaw K) := by
  refine okG F scLaw (fun vs H Q E h => ?_) (fun cv A out s H vs Q E gd hr h => ?_)
  · obtain ⟨a, ns, rfl, _⟩ := h
    rfl
  obtain ⟨a, ns, rfl, hS, hl, q⟩ := h
  have nd := scLaw.nd
  have hr1 := hr.mono (show 1 ≤ 13 by decide)
  have hr2 := hr.mono (show 2 ≤ 13 by decide)
  refine ⟨_, pss_cons (ps_for PassesOwn.never rfl (pi_range1 (by rfl) Y.rng (pa_cons (pe_callB (call_min2 rfl) (by rfl) Y.min (by decide +kernel)
        (pa_cons pe_int (pa_cons (pe_callB call_len_seq (by rfl) Y.len PySem.boot_len (pa_cons (pv 0) pa_nil)) pa_nil))) pa_nil)) (pg_name (i := 1) nd rfl (.inl rfl))
      (pss_one (ps_if (pt_not (pt_val (pe_callG GR gd hr (by rfl) gR FR.kp bR .nil pass0 (pa_cons (pe_call GT hr2 (by rfl) gT FT.kp bT .nil pass0
        (pa_cons (pe_call GD hr1 (by rfl) gD FD.kp bD .nil pass0 (pa_cons (pv 0) (pa_cons (pv 1) pa_nil))) pa_nil)) pa_nil)))) pss_never pss_nil)))
    (pss_one (ps_ret (pe_and (pe_callG GR gd hr (by rfl) gR FR.kp bR .nil pass0 (pa_cons (pe_call GT hr2 (by rfl) gT FT.kp bT .nil pass0
        (pa_cons (pe_lst (pa_cons pe_int (pa_cons pe_int (pa_cons pe_int pa_nil)))) pa_nil)) pa_nil))
      (pe_one (pe_not (pe_callB call_isE (by rfl) T.isi (by decide +kernel) (pa_cons (pe_exB (N.oe 19 (by decide)) (N.ib 19 (by decide)) (by rfl) T.g19 (pa_cons pe_str pa_nil))
        (pa_cons (pe_bltn (v := .ty "KeyError") (by rfl) Z.ke (by decide +kernel) rfl) pa_nil)))))))), ?_⟩
  have hlen : (ns.map V.int).length = ns.length := List.length_map _
  have n63 : ((ns.map V.int).length : Int) ≤ 63 := by
    rw [hlen]
    omega
  have lo8 : ∀ m : Int, 0 ≤ m → 0 ≤ (if m < 8 then m else 8) ∧ (if m < 8 then m else 8) ≤ 8 := by
    intro m h0
    split <;> omega
  obtain ⟨b0, b8⟩ := lo8 ((ns.map V.int).length : Int) (by omega)
  refine ⟨_, rfl, a, _, rfl, .inl hS, 8, _, rfl, ?_⟩
  refine ⟨_, rfl, by omega, by omega, ?_⟩
  refine for_range (lo := 0) (fun i σ H' => SqL K H' a (ns.map V.int) ∧ ∃ y : Option V, σ = [some (.ref a), y]) ⟨hS, _, rfl⟩ ?_ ?_
  · rintro i σ H1 hi ⟨hS1, y, rfl⟩
    have hi8 : (i : Int) < 8 := by omega
    refine ⟨_, rfl, _, rfl, a, ns, 0 + i, rfl, hS1, by omega, by omega, fun p fs np hF => ?_⟩
    have xp : Ex1 p H1 (upd H1 p (.lst fs)) := .at
    refine ⟨p, 0, rfl, hF, by omega, fun v d H2 x2 hv g => ?_⟩
    refine ⟨v, d, rfl, hv, g, fun H3 sm3 => ⟨true, rfl, iteF ?_⟩⟩
    exact ⟨sm3.seq (Ex1.lists np (xp.trans x2) hS1), _, rfl⟩
  · rintro σ H1 ⟨hS1, y, rfl⟩
    refine ⟨(by show 3 ≤ sizeLine; decide), fun p np => ?_⟩
    refine ⟨p, 0, rfl, Feed.here (by omega) (by omega), by omega, fun v d H2 x2 hv g => ?_⟩
    refine ⟨v, d, rfl, hv, g, fun H3 sm3 => ⟨true, rfl, iteT ?_⟩⟩
    refine ⟨(by show 1 ≤ 1000; decide), fun e ne => ?_⟩
    obtain ⟨cd, m1, m2⟩ := T.mroP
    have sub : PySem.W.subIn K (.ref (cs 19)) (.type "KeyError") = some false := by
      rw [sub_by m1 (by rw [m2] <;> rfl), m2]
      simp
    refine ⟨e, cs 19, _, _, _, rfl, .ty _, T.ev 19 (by decide), T.vb, .inl upd_same, kit_type sub (by decide +kernel), false, rfl, ?_⟩
    exact q _
end
end K99
end

section
set_option Elab.async false
set_option linter.all false
set_option maxRecDepth 100000
set_option maxHeartbeats 8000000
namespace K99
open PySem PySem.Spec PyProof.Rows L2 Gd
structure ClP (K : PySem.W.Frag) (C : Addr) : Prop where
  ev : EvC K C
  sa : PySem.W.findIn K (.ref C) "__setattr__" = some (some (.builtin "object.__setattr__"))
  ty : PySem.W.typeIn K (.ref C) = some (.type "type")
  kp : PySem.W.keepIn K (.ref C) = true
  cl : (PySem.W.clsIn K C).isSome = true
theorem ClP.tyb {K : PySem.W.Frag} {C : Addr} (h : ClP K C) : ((PySem.W.clsIn K C).isSome && PySem.W.typeIn K (.ref C) == some (.type "type")) = true := by
  rw [h.cl, h.ty]
  simp
abbrev vTail : List Value := [.type "ValueError", .type "Exception", .type "BaseException", .type "object"]
theorem refs_v (c : Addr) : PySem.HandSPX.refsVE (.ref c :: vTail) = true ∧ PySem.HandSPX.refsVE vTail = true := ⟨by rfl, by rfl⟩
section
variable {K : PySem.W.Frag} {C N : Addr} {nm q : Str} {bs bm : List Value} {hdct : Bool} {sn : List Str} {sub : List Value} {ab : Bool} {col : Option Bool}
  {dd : Option Addr} {k0 k1 k2 k3 k5 : Option Value} {nw : String}
theorem cls_of (h : K.lookup C = some (excClassObj nm q C N bs bm hdct sn sub ab col dd k0 k1 k2 k3 k5 nw)) :
    ∃ cd, PySem.W.clsIn K C = some cd ∧ cd.mro = .ref C :: bm := by
  unfold PySem.W.clsIn
  rw [h]
  exact ⟨_, rfl, rfl⟩
theorem some_of (h : K.lookup C = some (excClassObj nm q C N bs bm hdct sn sub ab col dd k0 k1 k2 k3 k5 nw)) : (PySem.W.clsIn K C).isSome = true := by
  unfold PySem.W.clsIn
  rw [h]
  rfl
theorem oex_of (h : K.lookup C = some (excClassObj nm q C N bs bm true sn sub ab col dd k0 k1 k2 k3 k5 "ValueError.__new__"))
    (r : PySem.HandSPX.refsVE bm = true) (p : ClP K C) : OexC K C :=
  ⟨⟨_, _, _, _, _, _, _, _, _, _, _, _, _, _, _, h, r⟩, p.sa, p.ev.sub, p.ty, p.kp⟩
end
theorem all_mk {l : PySem.W.OpenLaw} {w : World} {K : PySem.W.Frag} {h : Heap} {mg : Str → Option Value} {fa : Addr} {C0 C1 C2 C3 C4 C5 C6 C7 C8 C9 C10 C11 C12 C13 C14 C15 C16 C17 C18 C19 f0 f1 f2 f3 f4 f5 f6 f7 f8 g0 g1 g2 g3 g4 g5 g6 : Addr} (X : K.In h) (G : h.Ns mainGlobals mg) (hfa : mg "law" = some (.ref fa))
    {od0 an0 od1 an1 od2 an2 od3 an3 od4 an4 od5 an5 od6 an6 od7 an7 od8 an8 od9 an9 od10 an10 od11 an11 od12 an12 od13 an13 od14 an14 od15 an15 : Option Addr} {sl0 sl1 sl2 sl3 sl4 sl5 sl6 sl7 sl8 sl9 sl10 sl11 sl12 sl13 sl14 sl15 : Array (Option Value)} {oc0 kV0 dc0 pm0 cd0 ct0 oc1 kV1 dc1 pm1 cd1 ct1 oc2 kV2 dc2 pm2 cd2 ct2 oc3 kV3 dc3 pm3 cd3 ct3 oc4 kV4 dc4 pm4 cd4 ct4 oc5 kV5 dc5 pm5 cd5 ct5 oc6 kV6 dc6 pm6 cd6 ct6 oc7 kV7 dc7 pm7 cd7 ct7 oc8 kV8 dc8 pm8 cd8 ct8 oc9 kV9 dc9 pm9 cd9 ct9 oc10 kV10 dc10 pm10 cd10 ct10 oc11 kV11 dc11 pm11 cd11 ct11 oc12 kV12 dc12 pm12 cd12 ct12 oc13 kV13 dc13 pm13 cd13 ct13 oc14 kV14 dc14 pm14 cd14 ct14 oc15 kV15 dc15 pm15 cd15 ct15 : Value}
    {nm0 q0 nm1 q1 nm2 q2 nm3 q3 nm4 q4 nm5 q5 nm6 q6 nm7 q7 nm8 q8 nm9 q9 nm10 q10 nm11 q11 nm12 q12 nm13 q13 nm14 q14 nm15 q15 nm16 q16 nm17 q17 nm18 q18 nm19 q19 : Str} {N0 N1 N2 N3 N4 N5 N6 N7 N8 N9 N10 N11 N12 N13 N14 N15 N16 N17 N18 N19 : Addr} {bs0 su0 bs1 su1 bs2 su2 bs3 su3 bs4 su4 bs5 su5 bs6 su6 bs7 su7 bs8 su8 bs9 su9 bs10 su10 bs11 su11 bs12 su12 bs13 su13 bs14 su14 bs15 su15 bs16 su16 bs17 su17 bs18 su18 bs19 su19 : List Value} {sn0 sn1 sn2 sn3 sn4 sn5 sn6 sn7 sn8 sn9 sn10 sn11 sn12 sn13 sn14 sn15 sn16 sn17 sn18 sn19 : List Str} {ab0 ab1 ab2 ab3 ab4 ab5 ab6 ab7 ab8 ab9 ab10 ab11 ab12 ab13 ab14 ab15 ab16 ab17 ab18 ab19 : Bool}
    {co0 co1 co2 co3 co4 co5 co6 co7 co8 co9 co10 co11 co12 co13 co14 co15 co16 co17 co18 co19 : Option Bool} {dd0 dd1 dd2 dd3 dd4 dd5 dd6 dd7 dd8 dd9 dd10 dd11 dd12 dd13 dd14 dd15 dd16 dd17 dd18 dd19 : Option Addr} {a0_0 a0_1 a0_2 a0_3 a0_5 a1_0 a1_1 a1_2 a1_3 a1_5 a2_0 a2_1 a2_2 a2_3 a2_5 a3_0 a3_1 a3_2 a3_3 a3_5 a4_0 a4_1 a4_2 a4_3 a4_5 a5_0 a5_1 a5_2 a5_3 a5_5 a6_0 a6_1 a6_2 a6_3 a6_5 a7_0 a7_1 a7_2 a7_3 a7_5 a8_0 a8_1 a8_2 a8_3 a8_5 a9_0 a9_1 a9_2 a9_3 a9_5 a10_0 a10_1 a10_2 a10_3 a10_5 a11_0 a11_1 a11_2 a11_3 a11_5 a12_0 a12_1 a12_2 a12_3 a12_5 a13_0 a13_1 a13_2 a13_3 a13_5 a14_0 a14_1 a14_2 a14_3 a14_5 a15_0 a15_1 a15_2 a15_3 a15_5 a16_0 a16_1 a16_2 a16_3 a16_5 a17_0 a17_1 a17_2 a17_3 a17_5 a18_0 a18_1 a18_2 a18_3 a18_5 a19_0 a19_1 a19_2 a19_3 a19_5 : Option Value}
    (aC0 : PySem.W.nsIn K mainGlobals "NoWorth" = some (some (.ref C0)))
    (xC0 : K.lookup C0 = some (excClassObj nm0 q0 C0 N0 bs0 (.ref C19 :: vTail) true sn0 su0 ab0 co0 dd0 a0_0 a0_1 a0_2 a0_3 a0_5 "ValueError.__new__"))
    (b1C0 : PySem.W.findIn K (.ref C0) "__getattribute__" = some (some (.builtin "BaseException.__getattribute__")))
    (b2C0 : PySem.W.findIn K (.ref C0) "__getattr__" = some none)
    (b3C0 : PySem.W.subIn K (.ref C0) (.type "BaseException") = some true)
    (b4C0 : PySem.W.hasDictIn K C0 = true)
    (b5C0 : PySem.W.findIn K (.ref C0) "__class__" = some (some (.builtin "object.__class__")))
    (b6C0 : PySem.W.mroIn K C0 (.type "object") = some true)
    (b7C0 : PySem.W.findIn K (.ref C0) "__setattr__" = some (some (.builtin "object.__setattr__")))
    (b8C0 : PySem.W.typeIn K (.ref C0) = some (.type "type"))
    (b9C0 : PySem.W.keepIn K (.ref C0) = true)
    (iC0 : PySem.W.findIn K (.ref C0) "__init__" = some (some (.builtin "ValueError.__init__")))
    (aC1 : PySem.W.nsIn K mainGlobals "NoDeed" = some (some (.ref C1)))
    (xC1 : K.lookup C1 = some (excClassObj nm1 q1 C1 N1 bs1 (.ref C19 :: vTail) true sn1 su1 ab1 co1 dd1 a1_0 a1_1 a1_2 a1_3 a1_5 "ValueError.__new__"))
    (b1C1 : PySem.W.findIn K (.ref C1) "__getattribute__" = some (some (.builtin "BaseException.__getattribute__")))
    (b2C1 : PySem.W.findIn K (.ref C1) "__getattr__" = some none)
    (b3C1 : PySem.W.subIn K (.ref C1) (.type "BaseException") = some true)
    (b4C1 : PySem.W.hasDictIn K C1 = true)
    (b5C1 : PySem.W.findIn K (.ref C1) "__class__" = some (some (.builtin "object.__class__")))
    (b6C1 : PySem.W.mroIn K C1 (.type "object") = some true)
    (b7C1 : PySem.W.findIn K (.ref C1) "__setattr__" = some (some (.builtin "object.__setattr__")))
    (b8C1 : PySem.W.typeIn K (.ref C1) = some (.type "type"))
    (b9C1 : PySem.W.keepIn K (.ref C1) = true)
    (iC1 : PySem.W.findIn K (.ref C1) "__init__" = some (some (.builtin "ValueError.__init__")))
    (aC2 : PySem.W.nsIn K mainGlobals "Taken" = some (some (.ref C2)))
    (xC2 : K.lookup C2 = some (excClassObj nm2 q2 C2 N2 bs2 (.ref C19 :: vTail) true sn2 su2 ab2 co2 dd2 a2_0 a2_1 a2_2 a2_3 a2_5 "ValueError.__new__"))
    (b1C2 : PySem.W.findIn K (.ref C2) "__getattribute__" = some (some (.builtin "BaseException.__getattribute__")))
    (b2C2 : PySem.W.findIn K (.ref C2) "__getattr__" = some none)
    (b3C2 : PySem.W.subIn K (.ref C2) (.type "BaseException") = some true)
    (b4C2 : PySem.W.hasDictIn K C2 = true)
    (b5C2 : PySem.W.findIn K (.ref C2) "__class__" = some (some (.builtin "object.__class__")))
    (b6C2 : PySem.W.mroIn K C2 (.type "object") = some true)
    (b7C2 : PySem.W.findIn K (.ref C2) "__setattr__" = some (some (.builtin "object.__setattr__")))
    (b8C2 : PySem.W.typeIn K (.ref C2) = some (.type "type"))
    (b9C2 : PySem.W.keepIn K (.ref C2) = true)
    (aC3 : PySem.W.nsIn K mainGlobals "TooMany" = some (some (.ref C3)))
    (xC3 : K.lookup C3 = some (excClassObj nm3 q3 C3 N3 bs3 (.ref C19 :: vTail) true sn3 su3 ab3 co3 dd3 a3_0 a3_1 a3_2 a3_3 a3_5 "ValueError.__new__"))
    (b1C3 : PySem.W.findIn K (.ref C3) "__getattribute__" = some (some (.builtin "BaseException.__getattribute__")))
    (b2C3 : PySem.W.findIn K (.ref C3) "__getattr__" = some none)
    (b3C3 : PySem.W.subIn K (.ref C3) (.type "BaseException") = some true)
    (b4C3 : PySem.W.hasDictIn K C3 = true)
    (b5C3 : PySem.W.findIn K (.ref C3) "__class__" = some (some (.builtin "object.__class__")))
    (b6C3 : PySem.W.mroIn K C3 (.type "object") = some true)
    (b7C3 : PySem.W.findIn K (.ref C3) "__setattr__" = some (some (.builtin "object.__setattr__")))
    (b8C3 : PySem.W.typeIn K (.ref C3) = some (.type "type"))
    (b9C3 : PySem.W.keepIn K (.ref C3) = true)
    (aC4 : PySem.W.nsIn K mainGlobals "NoPlace" = some (some (.ref C4)))
    (xC4 : K.lookup C4 = some (excClassObj nm4 q4 C4 N4 bs4 (.ref C19 :: vTail) true sn4 su4 ab4 co4 dd4 a4_0 a4_1 a4_2 a4_3 a4_5 "ValueError.__new__"))
    (b1C4 : PySem.W.findIn K (.ref C4) "__getattribute__" = some (some (.builtin "BaseException.__getattribute__")))
    (b2C4 : PySem.W.findIn K (.ref C4) "__getattr__" = some none)
    (b3C4 : PySem.W.subIn K (.ref C4) (.type "BaseException") = some true)
    (b4C4 : PySem.W.hasDictIn K C4 = true)
    (b5C4 : PySem.W.findIn K (.ref C4) "__class__" = some (some (.builtin "object.__class__")))
    (b6C4 : PySem.W.mroIn K C4 (.type "object") = some true)
    (b7C4 : PySem.W.findIn K (.ref C4) "__setattr__" = some (some (.builtin "object.__setattr__")))
    (b8C4 : PySem.W.typeIn K (.ref C4) = some (.type "type"))
    (b9C4 : PySem.W.keepIn K (.ref C4) = true)
    (aC5 : PySem.W.nsIn K mainGlobals "NoAsk" = some (some (.ref C5)))
    (xC5 : K.lookup C5 = some (excClassObj nm5 q5 C5 N5 bs5 (.ref C19 :: vTail) true sn5 su5 ab5 co5 dd5 a5_0 a5_1 a5_2 a5_3 a5_5 "ValueError.__new__"))
    (b1C5 : PySem.W.findIn K (.ref C5) "__getattribute__" = some (some (.builtin "BaseException.__getattribute__")))
    (b2C5 : PySem.W.findIn K (.ref C5) "__getattr__" = some none)
    (b3C5 : PySem.W.subIn K (.ref C5) (.type "BaseException") = some true)
    (b4C5 : PySem.W.hasDictIn K C5 = true)
    (b5C5 : PySem.W.findIn K (.ref C5) "__class__" = some (some (.builtin "object.__class__")))
    (b6C5 : PySem.W.mroIn K C5 (.type "object") = some true)
    (b7C5 : PySem.W.findIn K (.ref C5) "__setattr__" = some (some (.builtin "object.__setattr__")))
    (b8C5 : PySem.W.typeIn K (.ref C5) = some (.type "type"))
    (b9C5 : PySem.W.keepIn K (.ref C5) = true)
    (aC6 : PySem.W.nsIn K mainGlobals "Spent" = some (some (.ref C6)))
    (xC6 : K.lookup C6 = some (excClassObj nm6 q6 C6 N6 bs6 (.ref C19 :: vTail) true sn6 su6 ab6 co6 dd6 a6_0 a6_1 a6_2 a6_3 a6_5 "ValueError.__new__"))
    (b1C6 : PySem.W.findIn K (.ref C6) "__getattribute__" = some (some (.builtin "BaseException.__getattribute__")))
    (b2C6 : PySem.W.findIn K (.ref C6) "__getattr__" = some none)
    (b3C6 : PySem.W.subIn K (.ref C6) (.type "BaseException") = some true)
    (b4C6 : PySem.W.hasDictIn K C6 = true)
    (b5C6 : PySem.W.findIn K (.ref C6) "__class__" = some (some (.builtin "object.__class__")))
    (b6C6 : PySem.W.mroIn K C6 (.type "object") = some true)
    (b7C6 : PySem.W.findIn K (.ref C6) "__setattr__" = some (some (.builtin "object.__setattr__")))
    (b8C6 : PySem.W.typeIn K (.ref C6) = some (.type "type"))
    (b9C6 : PySem.W.keepIn K (.ref C6) = true)
    (aC7 : PySem.W.nsIn K mainGlobals "NoRule" = some (some (.ref C7)))
    (xC7 : K.lookup C7 = some (excClassObj nm7 q7 C7 N7 bs7 (.ref C19 :: vTail) true sn7 su7 ab7 co7 dd7 a7_0 a7_1 a7_2 a7_3 a7_5 "ValueError.__new__"))
    (b1C7 : PySem.W.findIn K (.ref C7) "__getattribute__" = some (some (.builtin "BaseException.__getattribute__")))
    (b2C7 : PySem.W.findIn K (.ref C7) "__getattr__" = some none)
    (b3C7 : PySem.W.subIn K (.ref C7) (.type "BaseException") = some true)
    (b4C7 : PySem.W.hasDictIn K C7 = true)
    (b5C7 : PySem.W.findIn K (.ref C7) "__class__" = some (some (.builtin "object.__class__")))
    (b6C7 : PySem.W.mroIn K C7 (.type "object") = some true)
    (b7C7 : PySem.W.findIn K (.ref C7) "__setattr__" = some (some (.builtin "object.__setattr__")))
    (b8C7 : PySem.W.typeIn K (.ref C7) = some (.type "type"))
    (b9C7 : PySem.W.keepIn K (.ref C7) = true)
    (iC7 : PySem.W.findIn K (.ref C7) "__init__" = some (some (.builtin "ValueError.__init__")))
    (aC8 : PySem.W.nsIn K mainGlobals "NoRoom" = some (some (.ref C8)))
    (xC8 : K.lookup C8 = some (excClassObj nm8 q8 C8 N8 bs8 (.ref C19 :: vTail) true sn8 su8 ab8 co8 dd8 a8_0 a8_1 a8_2 a8_3 a8_5 "ValueError.__new__"))
    (b1C8 : PySem.W.findIn K (.ref C8) "__getattribute__" = some (some (.builtin "BaseException.__getattribute__")))
    (b2C8 : PySem.W.findIn K (.ref C8) "__getattr__" = some none)
    (b3C8 : PySem.W.subIn K (.ref C8) (.type "BaseException") = some true)
    (b4C8 : PySem.W.hasDictIn K C8 = true)
    (b5C8 : PySem.W.findIn K (.ref C8) "__class__" = some (some (.builtin "object.__class__")))
    (b6C8 : PySem.W.mroIn K C8 (.type "object") = some true)
    (b7C8 : PySem.W.findIn K (.ref C8) "__setattr__" = some (some (.builtin "object.__setattr__")))
    (b8C8 : PySem.W.typeIn K (.ref C8) = some (.type "type"))
    (b9C8 : PySem.W.keepIn K (.ref C8) = true)
    (iC8 : PySem.W.findIn K (.ref C8) "__init__" = some (some (.builtin "ValueError.__init__")))
    (aC9 : PySem.W.nsIn K mainGlobals "Done" = some (some (.ref C9)))
    (xC9 : K.lookup C9 = some (excClassObj nm9 q9 C9 N9 bs9 (.ref C19 :: vTail) true sn9 su9 ab9 co9 dd9 a9_0 a9_1 a9_2 a9_3 a9_5 "ValueError.__new__"))
    (b1C9 : PySem.W.findIn K (.ref C9) "__getattribute__" = some (some (.builtin "BaseException.__getattribute__")))
    (b2C9 : PySem.W.findIn K (.ref C9) "__getattr__" = some none)
    (b3C9 : PySem.W.subIn K (.ref C9) (.type "BaseException") = some true)
    (b4C9 : PySem.W.hasDictIn K C9 = true)
    (b5C9 : PySem.W.findIn K (.ref C9) "__class__" = some (some (.builtin "object.__class__")))
    (b6C9 : PySem.W.mroIn K C9 (.type "object") = some true)
    (b7C9 : PySem.W.findIn K (.ref C9) "__setattr__" = some (some (.builtin "object.__setattr__")))
    (b8C9 : PySem.W.typeIn K (.ref C9) = some (.type "type"))
    (b9C9 : PySem.W.keepIn K (.ref C9) = true)
    (iC9 : PySem.W.findIn K (.ref C9) "__init__" = some (some (.builtin "ValueError.__init__")))
    (aC10 : PySem.W.nsIn K mainGlobals "NotDone" = some (some (.ref C10)))
    (xC10 : K.lookup C10 = some (excClassObj nm10 q10 C10 N10 bs10 (.ref C19 :: vTail) true sn10 su10 ab10 co10 dd10 a10_0 a10_1 a10_2 a10_3 a10_5 "ValueError.__new__"))
    (b1C10 : PySem.W.findIn K (.ref C10) "__getattribute__" = some (some (.builtin "BaseException.__getattribute__")))
    (b2C10 : PySem.W.findIn K (.ref C10) "__getattr__" = some none)
    (b3C10 : PySem.W.subIn K (.ref C10) (.type "BaseException") = some true)
    (b4C10 : PySem.W.hasDictIn K C10 = true)
    (b5C10 : PySem.W.findIn K (.ref C10) "__class__" = some (some (.builtin "object.__class__")))
    (b6C10 : PySem.W.mroIn K C10 (.type "object") = some true)
    (b7C10 : PySem.W.findIn K (.ref C10) "__setattr__" = some (some (.builtin "object.__setattr__")))
    (b8C10 : PySem.W.typeIn K (.ref C10) = some (.type "type"))
    (b9C10 : PySem.W.keepIn K (.ref C10) = true)
    (iC10 : PySem.W.findIn K (.ref C10) "__init__" = some (some (.builtin "ValueError.__init__")))
    (aC11 : PySem.W.nsIn K mainGlobals "NoName" = some (some (.ref C11)))
    (xC11 : K.lookup C11 = some (excClassObj nm11 q11 C11 N11 bs11 (.ref C19 :: vTail) true sn11 su11 ab11 co11 dd11 a11_0 a11_1 a11_2 a11_3 a11_5 "ValueError.__new__"))
    (b1C11 : PySem.W.findIn K (.ref C11) "__getattribute__" = some (some (.builtin "BaseException.__getattribute__")))
    (b2C11 : PySem.W.findIn K (.ref C11) "__getattr__" = some none)
    (b3C11 : PySem.W.subIn K (.ref C11) (.type "BaseException") = some true)
    (b4C11 : PySem.W.hasDictIn K C11 = true)
    (b5C11 : PySem.W.findIn K (.ref C11) "__class__" = some (some (.builtin "object.__class__")))
    (b6C11 : PySem.W.mroIn K C11 (.type "object") = some true)
    (b7C11 : PySem.W.findIn K (.ref C11) "__setattr__" = some (some (.builtin "object.__setattr__")))
    (b8C11 : PySem.W.typeIn K (.ref C11) = some (.type "type"))
    (b9C11 : PySem.W.keepIn K (.ref C11) = true)
    (iC11 : PySem.W.findIn K (.ref C11) "__init__" = some (some (.builtin "ValueError.__init__")))
    (aC12 : PySem.W.nsIn K mainGlobals "Busy" = some (some (.ref C12)))
    (xC12 : K.lookup C12 = some (excClassObj nm12 q12 C12 N12 bs12 (.ref C19 :: vTail) true sn12 su12 ab12 co12 dd12 a12_0 a12_1 a12_2 a12_3 a12_5 "ValueError.__new__"))
    (b1C12 : PySem.W.findIn K (.ref C12) "__getattribute__" = some (some (.builtin "BaseException.__getattribute__")))
    (b2C12 : PySem.W.findIn K (.ref C12) "__getattr__" = some none)
    (b3C12 : PySem.W.subIn K (.ref C12) (.type "BaseException") = some true)
    (b4C12 : PySem.W.hasDictIn K C12 = true)
    (b5C12 : PySem.W.findIn K (.ref C12) "__class__" = some (some (.builtin "object.__class__")))
    (b6C12 : PySem.W.mroIn K C12 (.type "object") = some true)
    (b7C12 : PySem.W.findIn K (.ref C12) "__setattr__" = some (some (.builtin "object.__setattr__")))
    (b8C12 : PySem.W.typeIn K (.ref C12) = some (.type "type"))
    (b9C12 : PySem.W.keepIn K (.ref C12) = true)
    (iC12 : PySem.W.findIn K (.ref C12) "__init__" = some (some (.builtin "ValueError.__init__")))
    (aC13 : PySem.W.nsIn K mainGlobals "NoStand" = some (some (.ref C13)))
    (xC13 : K.lookup C13 = some (excClassObj nm13 q13 C13 N13 bs13 (.ref C19 :: vTail) true sn13 su13 ab13 co13 dd13 a13_0 a13_1 a13_2 a13_3 a13_5 "ValueError.__new__"))
    (b1C13 : PySem.W.findIn K (.ref C13) "__getattribute__" = some (some (.builtin "BaseException.__getattribute__")))
    (b2C13 : PySem.W.findIn K (.ref C13) "__getattr__" = some none)
    (b3C13 : PySem.W.subIn K (.ref C13) (.type "BaseException") = some true)
    (b4C13 : PySem.W.hasDictIn K C13 = true)
    (b5C13 : PySem.W.findIn K (.ref C13) "__class__" = some (some (.builtin "object.__class__")))
    (b6C13 : PySem.W.mroIn K C13 (.type "object") = some true)
    (b7C13 : PySem.W.findIn K (.ref C13) "__setattr__" = some (some (.builtin "object.__setattr__")))
    (b8C13 : PySem.W.typeIn K (.ref C13) = some (.type "type"))
    (b9C13 : PySem.W.keepIn K (.ref C13) = true)
    (iC13 : PySem.W.findIn K (.ref C13) "__init__" = some (some (.builtin "ValueError.__init__")))
    (aC14 : PySem.W.nsIn K mainGlobals "Unlike" = some (some (.ref C14)))
    (xC14 : K.lookup C14 = some (excClassObj nm14 q14 C14 N14 bs14 (.ref C19 :: vTail) true sn14 su14 ab14 co14 dd14 a14_0 a14_1 a14_2 a14_3 a14_5 "ValueError.__new__"))
    (b1C14 : PySem.W.findIn K (.ref C14) "__getattribute__" = some (some (.builtin "BaseException.__getattribute__")))
    (b2C14 : PySem.W.findIn K (.ref C14) "__getattr__" = some none)
    (b3C14 : PySem.W.subIn K (.ref C14) (.type "BaseException") = some true)
    (b4C14 : PySem.W.hasDictIn K C14 = true)
    (b5C14 : PySem.W.findIn K (.ref C14) "__class__" = some (some (.builtin "object.__class__")))
    (b6C14 : PySem.W.mroIn K C14 (.type "object") = some true)
    (b7C14 : PySem.W.findIn K (.ref C14) "__setattr__" = some (some (.builtin "object.__setattr__")))
    (b8C14 : PySem.W.typeIn K (.ref C14) = some (.type "type"))
    (b9C14 : PySem.W.keepIn K (.ref C14) = true)
    (iC14 : PySem.W.findIn K (.ref C14) "__init__" = some (some (.builtin "ValueError.__init__")))
    (aC15 : PySem.W.nsIn K mainGlobals "NoPlaces" = some (some (.ref C15)))
    (xC15 : K.lookup C15 = some (excClassObj nm15 q15 C15 N15 bs15 (.ref C19 :: vTail) true sn15 su15 ab15 co15 dd15 a15_0 a15_1 a15_2 a15_3 a15_5 "ValueError.__new__"))
    (b1C15 : PySem.W.findIn K (.ref C15) "__getattribute__" = some (some (.builtin "BaseException.__getattribute__")))
    (b2C15 : PySem.W.findIn K (.ref C15) "__getattr__" = some none)
    (b3C15 : PySem.W.subIn K (.ref C15) (.type "BaseException") = some true)
    (b4C15 : PySem.W.hasDictIn K C15 = true)
    (b5C15 : PySem.W.findIn K (.ref C15) "__class__" = some (some (.builtin "object.__class__")))
    (b6C15 : PySem.W.mroIn K C15 (.type "object") = some true)
    (b7C15 : PySem.W.findIn K (.ref C15) "__setattr__" = some (some (.builtin "object.__setattr__")))
    (b8C15 : PySem.W.typeIn K (.ref C15) = some (.type "type"))
    (b9C15 : PySem.W.keepIn K (.ref C15) = true)
    (iC15 : PySem.W.findIn K (.ref C15) "__init__" = some (some (.builtin "ValueError.__init__")))
    (aC16 : PySem.W.nsIn K mainGlobals "NoText" = some (some (.ref C16)))
    (xC16 : K.lookup C16 = some (excClassObj nm16 q16 C16 N16 bs16 (.ref C19 :: vTail) true sn16 su16 ab16 co16 dd16 a16_0 a16_1 a16_2 a16_3 a16_5 "ValueError.__new__"))
    (b1C16 : PySem.W.findIn K (.ref C16) "__getattribute__" = some (some (.builtin "BaseException.__getattribute__")))
    (b2C16 : PySem.W.findIn K (.ref C16) "__getattr__" = some none)
    (b3C16 : PySem.W.subIn K (.ref C16) (.type "BaseException") = some true)
    (b4C16 : PySem.W.hasDictIn K C16 = true)
    (b5C16 : PySem.W.findIn K (.ref C16) "__class__" = some (some (.builtin "object.__class__")))
    (b6C16 : PySem.W.mroIn K C16 (.type "object") = some true)
    (b7C16 : PySem.W.findIn K (.ref C16) "__setattr__" = some (some (.builtin "object.__setattr__")))
    (b8C16 : PySem.W.typeIn K (.ref C16) = some (.type "type"))
    (b9C16 : PySem.W.keepIn K (.ref C16) = true)
    (aC17 : PySem.W.nsIn K mainGlobals "NoLine" = some (some (.ref C17)))
    (xC17 : K.lookup C17 = some (excClassObj nm17 q17 C17 N17 bs17 (.ref C19 :: vTail) true sn17 su17 ab17 co17 dd17 a17_0 a17_1 a17_2 a17_3 a17_5 "ValueError.__new__"))
    (b1C17 : PySem.W.findIn K (.ref C17) "__getattribute__" = some (some (.builtin "BaseException.__getattribute__")))
    (b2C17 : PySem.W.findIn K (.ref C17) "__getattr__" = some none)
    (b3C17 : PySem.W.subIn K (.ref C17) (.type "BaseException") = some true)
    (b4C17 : PySem.W.hasDictIn K C17 = true)
    (b5C17 : PySem.W.findIn K (.ref C17) "__class__" = some (some (.builtin "object.__class__")))
    (b6C17 : PySem.W.mroIn K C17 (.type "object") = some true)
    (b7C17 : PySem.W.findIn K (.ref C17) "__setattr__" = some (some (.builtin "object.__setattr__")))
    (b8C17 : PySem.W.typeIn K (.ref C17) = some (.type "type"))
    (b9C17 : PySem.W.keepIn K (.ref C17) = true)
    (iC17 : PySem.W.findIn K (.ref C17) "__init__" = some (some (.builtin "ValueError.__init__")))
    (aC18 : PySem.W.nsIn K mainGlobals "Unknown" = some (some (.ref C18)))
    (xC18 : K.lookup C18 = some (excClassObj nm18 q18 C18 N18 bs18 (Gk.tail) true sn18 su18 ab18 co18 dd18 a18_0 a18_1 a18_2 a18_3 a18_5 "LookupError.__new__"))
    (b1C18 : PySem.W.findIn K (.ref C18) "__getattribute__" = some (some (.builtin "BaseException.__getattribute__")))
    (b2C18 : PySem.W.findIn K (.ref C18) "__getattr__" = some none)
    (b3C18 : PySem.W.subIn K (.ref C18) (.type "BaseException") = some true)
    (b4C18 : PySem.W.hasDictIn K C18 = true)
    (b5C18 : PySem.W.findIn K (.ref C18) "__class__" = some (some (.builtin "object.__class__")))
    (b6C18 : PySem.W.mroIn K C18 (.type "object") = some true)
    (b7C18 : PySem.W.findIn K (.ref C18) "__setattr__" = some (some (.builtin "object.__setattr__")))
    (b8C18 : PySem.W.typeIn K (.ref C18) = some (.type "type"))
    (b9C18 : PySem.W.keepIn K (.ref C18) = true)
    (aC19 : PySem.W.nsIn K mainGlobals "PlanError" = some (some (.ref C19)))
    (xC19 : K.lookup C19 = some (excClassObj nm19 q19 C19 N19 bs19 (vTail) true sn19 su19 ab19 co19 dd19 a19_0 a19_1 a19_2 a19_3 a19_5 "ValueError.__new__"))
    (b1C19 : PySem.W.findIn K (.ref C19) "__getattribute__" = some (some (.builtin "BaseException.__getattribute__")))
    (b2C19 : PySem.W.findIn K (.ref C19) "__getattr__" = some none)
    (b3C19 : PySem.W.subIn K (.ref C19) (.type "BaseException") = some true)
    (b4C19 : PySem.W.hasDictIn K C19 = true)
    (b5C19 : PySem.W.findIn K (.ref C19) "__class__" = some (some (.builtin "object.__class__")))
    (b6C19 : PySem.W.mroIn K C19 (.type "object") = some true)
    (b7C19 : PySem.W.findIn K (.ref C19) "__setattr__" = some (some (.builtin "object.__setattr__")))
    (b8C19 : PySem.W.typeIn K (.ref C19) = some (.type "type"))
    (b9C19 : PySem.W.keepIn K (.ref C19) = true)
    (iC19 : PySem.W.findIn K (.ref C19) "__init__" = some (some (.builtin "ValueError.__init__")))
    (aF0 : PySem.W.nsIn K mainGlobals "copied" = some (some (.ref f0)))
    (lF0 : K.lookup f0 = some ⟨oc0, od0, .func (PySem.W.fnOf "copied" "copied" (defArgs sCopied) (defBody sCopied) (defScope sCopied) .none kV0 dc0 pm0 an0 cd0 ct0), sl0⟩)
    (cF0 : PySem.W.codeIn K cd0 "copied" = true)
    (kF0 : PySem.W.keepIn K (.ref f0) = true)
    (aF1 : PySem.W.nsIn K mainGlobals "_law_feed" = some (some (.ref f1)))
    (lF1 : K.lookup f1 = some ⟨oc1, od1, .func (PySem.W.fnOf "_law_feed" "_law_feed" (defArgs sFeed) (defBody sFeed) (defScope sFeed) .none kV1 dc1 pm1 an1 cd1 ct1), sl1⟩)
    (cF1 : PySem.W.codeIn K cd1 "_law_feed" = true)
    (kF1 : PySem.W.keepIn K (.ref f1) = true)
    (aF2 : PySem.W.nsIn K mainGlobals "_law_take" = some (some (.ref f2)))
    (lF2 : K.lookup f2 = some ⟨oc2, od2, .func (PySem.W.fnOf "_law_take" "_law_take" (defArgs sTake) (defBody sTake) (defScope sTake) .none kV2 dc2 pm2 an2 cd2 ct2), sl2⟩)
    (cF2 : PySem.W.codeIn K cd2 "_law_take" = true)
    (kF2 : PySem.W.keepIn K (.ref f2) = true)
    (aF3 : PySem.W.nsIn K mainGlobals "_law_thing" = some (some (.ref f3)))
    (lF3 : K.lookup f3 = some ⟨oc3, od3, .func (PySem.W.fnOf "_law_thing" "_law_thing" (defArgs sThing) (defBody sThing) (defScope sThing) .none kV3 dc3 pm3 an3 cd3 ct3), sl3⟩)
    (cF3 : PySem.W.codeIn K cd3 "_law_thing" = true)
    (kF3 : PySem.W.keepIn K (.ref f3) = true)
    (aF4 : PySem.W.nsIn K mainGlobals "_law_kinds" = some (some (.ref f4)))
    (lF4 : K.lookup f4 = some ⟨oc4, od4, .func (PySem.W.fnOf "_law_kinds" "_law_kinds" (defArgs sKinds) (defBody sKinds) (defScope sKinds) .none kV4 dc4 pm4 an4 cd4 ct4), sl4⟩)
    (cF4 : PySem.W.codeIn K cd4 "_law_kinds" = true)
    (kF4 : PySem.W.keepIn K (.ref f4) = true)
    (aF5 : PySem.W.nsIn K mainGlobals "_law_raised" = some (some (.ref f5)))
    (lF5 : K.lookup f5 = some ⟨oc5, od5, .func (PySem.W.fnOf "_law_raised" "_law_raised" (defArgs sRaised) (defBody sRaised) (defScope sRaised) .none kV5 dc5 pm5 an5 cd5 ct5), sl5⟩)
    (cF5 : PySem.W.codeIn K cd5 "_law_raised" = true)
    (kF5 : PySem.W.keepIn K (.ref f5) = true)
    (aF6 : PySem.W.nsIn K mainGlobals "_law_fields_right" = some (some (.ref f6)))
    (lF6 : K.lookup f6 = some ⟨oc6, od6, .func (PySem.W.fnOf "_law_fields_right" "_law_fields_right" (defArgs sFields) (defBody sFields) (defScope sFields) .none kV6 dc6 pm6 an6 cd6 ct6), sl6⟩)
    (cF6 : PySem.W.codeIn K cd6 "_law_fields_right" = true)
    (kF6 : PySem.W.keepIn K (.ref f6) = true)
    (aF7 : PySem.W.nsIn K mainGlobals "_law_right" = some (some (.ref f7)))
    (lF7 : K.lookup f7 = some ⟨oc7, od7, .func (PySem.W.fnOf "_law_right" "_law_right" (defArgs sRight) (defBody sRight) (defScope sRight) .none kV7 dc7 pm7 an7 cd7 ct7), sl7⟩)
    (cF7 : PySem.W.codeIn K cd7 "_law_right" = true)
    (kF7 : PySem.W.keepIn K (.ref f7) = true)
    (aF8 : PySem.W.nsIn K mainGlobals "law" = some (some (.ref f8)))
    (lF8 : K.lookup f8 = some ⟨oc8, od8, .func (PySem.W.fnOf "law" "law" (defArgs sLaw) (defBody sLaw) (defScope sLaw) .none kV8 dc8 pm8 an8 cd8 ct8), sl8⟩)
    (cF8 : PySem.W.codeIn K cd8 "law" = true)
    (kF8 : PySem.W.keepIn K (.ref f8) = true)
    (aI0 : PySem.W.findIn K (.ref C2) "__init__" = some (some (.ref g0)))
    (tI0 : PySem.W.typeIn K (.ref g0) = some (.type "function"))
    (lI0 : K.lookup g0 = some ⟨oc9, od9, .func (PySem.W.fnOf "__init__" "Taken.__init__" (defArgs sITaken) (defBody sITaken) (defScope sITaken) .none kV9 dc9 pm9 an9 cd9 ct9), sl9⟩)
    (cI0 : PySem.W.codeIn K cd9 "Taken.__init__" = true)
    (kI0 : PySem.W.keepIn K (.ref g0) = true)
    (nI0 : PySem.W.findIn K (.ref C2) "name" = some none)
    (aI1 : PySem.W.findIn K (.ref C3) "__init__" = some (some (.ref g1)))
    (tI1 : PySem.W.typeIn K (.ref g1) = some (.type "function"))
    (lI1 : K.lookup g1 = some ⟨oc10, od10, .func (PySem.W.fnOf "__init__" "TooMany.__init__" (defArgs sITooMany) (defBody sITooMany) (defScope sITooMany) .none kV10 dc10 pm10 an10 cd10 ct10), sl10⟩)
    (cI1 : PySem.W.codeIn K cd10 "TooMany.__init__" = true)
    (kI1 : PySem.W.keepIn K (.ref g1) = true)
    (nI1 : PySem.W.findIn K (.ref C3) "most" = some none)
    (aI2 : PySem.W.findIn K (.ref C4) "__init__" = some (some (.ref g2)))
    (tI2 : PySem.W.typeIn K (.ref g2) = some (.type "function"))
    (lI2 : K.lookup g2 = some ⟨oc11, od11, .func (PySem.W.fnOf "__init__" "NoPlace.__init__" (defArgs sINoPlace) (defBody sINoPlace) (defScope sINoPlace) .none kV11 dc11 pm11 an11 cd11 ct11), sl11⟩)
    (cI2 : PySem.W.codeIn K cd11 "NoPlace.__init__" = true)
    (kI2 : PySem.W.keepIn K (.ref g2) = true)
    (nI2 : PySem.W.findIn K (.ref C4) "number" = some none)
    (aI3 : PySem.W.findIn K (.ref C5) "__init__" = some (some (.ref g3)))
    (tI3 : PySem.W.typeIn K (.ref g3) = some (.type "function"))
    (lI3 : K.lookup g3 = some ⟨oc12, od12, .func (PySem.W.fnOf "__init__" "NoAsk.__init__" (defArgs sINoAsk) (defBody sINoAsk) (defScope sINoAsk) .none kV12 dc12 pm12 an12 cd12 ct12), sl12⟩)
    (cI3 : PySem.W.codeIn K cd12 "NoAsk.__init__" = true)
    (kI3 : PySem.W.keepIn K (.ref g3) = true)
    (nI3 : PySem.W.findIn K (.ref C5) "what" = some none)
    (aI4 : PySem.W.findIn K (.ref C6) "__init__" = some (some (.ref g4)))
    (tI4 : PySem.W.typeIn K (.ref g4) = some (.type "function"))
    (lI4 : K.lookup g4 = some ⟨oc13, od13, .func (PySem.W.fnOf "__init__" "Spent.__init__" (defArgs sISpent) (defBody sISpent) (defScope sISpent) .none kV13 dc13 pm13 an13 cd13 ct13), sl13⟩)
    (cI4 : PySem.W.codeIn K cd13 "Spent.__init__" = true)
    (kI4 : PySem.W.keepIn K (.ref g4) = true)
    (nI4 : PySem.W.findIn K (.ref C6) "budget" = some none)
    (aI5 : PySem.W.findIn K (.ref C16) "__init__" = some (some (.ref g5)))
    (tI5 : PySem.W.typeIn K (.ref g5) = some (.type "function"))
    (lI5 : K.lookup g5 = some ⟨oc14, od14, .func (PySem.W.fnOf "__init__" "NoText.__init__" (defArgs sINoText) (defBody sINoText) (defScope sINoText) .none kV14 dc14 pm14 an14 cd14 ct14), sl14⟩)
    (cI5 : PySem.W.codeIn K cd14 "NoText.__init__" = true)
    (kI5 : PySem.W.keepIn K (.ref g5) = true)
    (nI5 : PySem.W.findIn K (.ref C16) "line" = some none)
    (aI6 : PySem.W.findIn K (.ref C18) "__init__" = some (some (.ref g6)))
    (tI6 : PySem.W.typeIn K (.ref g6) = some (.type "function"))
    (lI6 : K.lookup g6 = some ⟨oc15, od15, .func (PySem.W.fnOf "__init__" "Unknown.__init__" (defArgs sIUnknown) (defBody sIUnknown) (defScope sIUnknown) .none kV15 dc15 pm15 an15 cd15 ct15), sl15⟩)
    (cI6 : PySem.W.codeIn K cd15 "Unknown.__init__" = true)
    (kI6 : PySem.W.keepIn K (.ref g6) = true)
    (nI6 : PySem.W.findIn K (.ref C18) "name" = some none)
    (vb1 : PySem.W.specialIn K (.builtin "object.__class__") "__get__" = some (some (.builtin "getset_descriptor.__get__")))
    (vb2 : PySem.W.takesIn K (.builtin "object.__class__") = some true)
    (z_isinstance : PySem.W.nsIn K mainGlobals "isinstance" = some none)
    (z_list : PySem.W.nsIn K mainGlobals "list" = some none)
    (z_tuple : PySem.W.nsIn K mainGlobals "tuple" = some none)
    (z_dict : PySem.W.nsIn K mainGlobals "dict" = some none)
    (z_len : PySem.W.nsIn K mainGlobals "len" = some none)
    (z_abs : PySem.W.nsIn K mainGlobals "abs" = some none)
    (z_str : PySem.W.nsIn K mainGlobals "str" = some none)
    (z_repr : PySem.W.nsIn K mainGlobals "repr" = some none)
    (z_enumerate : PySem.W.nsIn K mainGlobals "enumerate" = some none)
    (z_range : PySem.W.nsIn K mainGlobals "range" = some none)
    (z_min : PySem.W.nsIn K mainGlobals "min" = some none)
    (z_ValueError : PySem.W.nsIn K mainGlobals "ValueError" = some none)
    (z_KeyError : PySem.W.nsIn K mainGlobals "KeyError" = some none)
    (apart : [C0, C1, C2, C3, C4, C5, C6, C7, C8, C9, C10, C11, C12, C13, C14, C15, C16, C17, C18, C19].Nodup) :
    ∃ fd : FuncData, (∀ (s : Shared) (v : Value), BindsTo s fd ⟨[v], []⟩ [("_law_script", v)]) ∧ ∀ base : Heap, K.In base → base.Ns mainGlobals mg → FnG l.prog w K mg base CX0 14 fa fd ["_law_script"] (spLaw K) := by
  have e := hfa.symm.trans (PySem.W.mg_of X G aF8)
  cases e
  have F0 := fun_mk (st := sCopied) lF0 cF0 kF0
  have b0 := F0.binds (ps := ["thing"]) fun _ _ _ _ _ _ us hl => match us, hl with | [_], _ => rfl
  have m0 := PySem.W.mg_of X G aF0
  have F1 := fun_mk (st := sFeed) lF1 cF1 kF1
  have b1 := F1.binds (ps := ["_law_script", "_law_k"]) fun _ _ _ _ _ _ us hl => match us, hl with | [_, _], _ => rfl
  have m1 := PySem.W.mg_of X G aF1
  have F2 := fun_mk (st := sTake) lF2 cF2 kF2
  have b2 := F2.binds (ps := ["_law_feed_here", "_law_many"]) fun _ _ _ _ _ _ us hl => match us, hl with | [_, _], _ => rfl
  have m2 := PySem.W.mg_of X G aF2
  have F3 := fun_mk (st := sThing) lF3 cF3 kF3
  have b3 := F3.binds (ps := ["_law_feed_here"]) fun _ _ _ _ _ _ us hl => match us, hl with | [_], _ => rfl
  have m3 := PySem.W.mg_of X G aF3
  have F4 := fun_mk (st := sKinds) lF4 cF4 kF4
  have b4 := F4.binds (ps := ["_law_refusal"]) fun _ _ _ _ _ _ us hl => match us, hl with | [_], _ => rfl
  have m4 := PySem.W.mg_of X G aF4
  have F5 := fun_mk (st := sRaised) lF5 cF5 kF5
  have b5 := F5.binds (ps := ["_law_thing_here"]) fun _ _ _ _ _ _ us hl => match us, hl with | [_], _ => rfl
  have m5 := PySem.W.mg_of X G aF5
  have F6 := fun_mk (st := sFields) lF6 cF6 kF6
  have b6 := F6.binds (ps := ["_law_thing_here"]) fun _ _ _ _ _ _ us hl => match us, hl with | [_], _ => rfl
  have m6 := PySem.W.mg_of X G aF6
  have F7 := fun_mk (st := sRight) lF7 cF7 kF7
  have b7 := F7.binds (ps := ["_law_thing_here"]) fun _ _ _ _ _ _ us hl => match us, hl with | [_], _ => rfl
  have m7 := PySem.W.mg_of X G aF7
  have F8 := fun_mk (st := sLaw) lF8 cF8 kF8
  have m8 := PySem.W.mg_of X G aF8
  have I0 := fun_mk (st := sITaken) lI0 cI0 kI0
  have bi0 := I0.binds (ps := ["self", "name"]) fun _ _ _ _ _ _ us hl => match us, hl with | [_, _], _ => rfl
  have I1 := fun_mk (st := sITooMany) lI1 cI1 kI1
  have bi1 := I1.binds (ps := ["self", "most"]) fun _ _ _ _ _ _ us hl => match us, hl with | [_, _], _ => rfl
  have I2 := fun_mk (st := sINoPlace) lI2 cI2 kI2
  have bi2 := I2.binds (ps := ["self", "number"]) fun _ _ _ _ _ _ us hl => match us, hl with | [_, _], _ => rfl
  have I3 := fun_mk (st := sINoAsk) lI3 cI3 kI3
  have bi3 := I3.binds (ps := ["self", "what"]) fun _ _ _ _ _ _ us hl => match us, hl with | [_, _], _ => rfl
  have I4 := fun_mk (st := sISpent) lI4 cI4 kI4
  have bi4 := I4.binds (ps := ["self", "budget"]) fun _ _ _ _ _ _ us hl => match us, hl with | [_, _], _ => rfl
  have I5 := fun_mk (st := sINoText) lI5 cI5 kI5
  have bi5 := I5.binds (ps := ["self", "line"]) fun _ _ _ _ _ _ us hl => match us, hl with | [_, _], _ => rfl
  have I6 := fun_mk (st := sIUnknown) lI6 cI6 kI6
  have bi6 := I6.binds (ps := ["self", "name"]) fun _ _ _ _ _ _ us hl => match us, hl with | [_, _], _ => rfl
  have y_isinstance := PySem.W.mg_none_of X G z_isinstance
  have y_list := PySem.W.mg_none_of X G z_list
  have y_tuple := PySem.W.mg_none_of X G z_tuple
  have y_dict := PySem.W.mg_none_of X G z_dict
  have y_len := PySem.W.mg_none_of X G z_len
  have y_abs := PySem.W.mg_none_of X G z_abs
  have y_str := PySem.W.mg_none_of X G z_str
  have y_repr := PySem.W.mg_none_of X G z_repr
  have y_enumerate := PySem.W.mg_none_of X G z_enumerate
  have y_range := PySem.W.mg_none_of X G z_range
  have y_min := PySem.W.mg_none_of X G z_min
  have y_ValueError := PySem.W.mg_none_of X G z_ValueError
  have y_KeyError := PySem.W.mg_none_of X G z_KeyError
  have p0 : ClP K C0 := ⟨⟨b1C0, b2C0, b3C0, b4C0, b5C0, b6C0⟩, b7C0, b8C0, b9C0, some_of xC0⟩
  have p1 : ClP K C1 := ⟨⟨b1C1, b2C1, b3C1, b4C1, b5C1, b6C1⟩, b7C1, b8C1, b9C1, some_of xC1⟩
  have p2 : ClP K C2 := ⟨⟨b1C2, b2C2, b3C2, b4C2, b5C2, b6C2⟩, b7C2, b8C2, b9C2, some_of xC2⟩
  have p3 : ClP K C3 := ⟨⟨b1C3, b2C3, b3C3, b4C3, b5C3, b6C3⟩, b7C3, b8C3, b9C3, some_of xC3⟩
  have p4 : ClP K C4 := ⟨⟨b1C4, b2C4, b3C4, b4C4, b5C4, b6C4⟩, b7C4, b8C4, b9C4, some_of xC4⟩
  have p5 : ClP K C5 := ⟨⟨b1C5, b2C5, b3C5, b4C5, b5C5, b6C5⟩, b7C5, b8C5, b9C5, some_of xC5⟩
  have p6 : ClP K C6 := ⟨⟨b1C6, b2C6, b3C6, b4C6, b5C6, b6C6⟩, b7C6, b8C6, b9C6, some_of xC6⟩
  have p7 : ClP K C7 := ⟨⟨b1C7, b2C7, b3C7, b4C7, b5C7, b6C7⟩, b7C7, b8C7, b9C7, some_of xC7⟩
  have p8 : ClP K C8 := ⟨⟨b1C8, b2C8, b3C8, b4C8, b5C8, b6C8⟩, b7C8, b8C8, b9C8, some_of xC8⟩
  have p9 : ClP K C9 := ⟨⟨b1C9, b2C9, b3C9, b4C9, b5C9, b6C9⟩, b7C9, b8C9, b9C9, some_of xC9⟩
  have p10 : ClP K C10 := ⟨⟨b1C10, b2C10, b3C10, b4C10, b5C10, b6C10⟩, b7C10, b8C10, b9C10, some_of xC10⟩
  have p11 : ClP K C11 := ⟨⟨b1C11, b2C11, b3C11, b4C11, b5C11, b6C11⟩, b7C11, b8C11, b9C11, some_of xC11⟩
  have p12 : ClP K C12 := ⟨⟨b1C12, b2C12, b3C12, b4C12, b5C12, b6C12⟩, b7C12, b8C12, b9C12, some_of xC12⟩
  have p13 : ClP K C13 := ⟨⟨b1C13, b2C13, b3C13, b4C13, b5C13, b6C13⟩, b7C13, b8C13, b9C13, some_of xC13⟩
  have p14 : ClP K C14 := ⟨⟨b1C14, b2C14, b3C14, b4C14, b5C14, b6C14⟩, b7C14, b8C14, b9C14, some_of xC14⟩
  have p15 : ClP K C15 := ⟨⟨b1C15, b2C15, b3C15, b4C15, b5C15, b6C15⟩, b7C15, b8C15, b9C15, some_of xC15⟩
  have p16 : ClP K C16 := ⟨⟨b1C16, b2C16, b3C16, b4C16, b5C16, b6C16⟩, b7C16, b8C16, b9C16, some_of xC16⟩
  have p17 : ClP K C17 := ⟨⟨b1C17, b2C17, b3C17, b4C17, b5C17, b6C17⟩, b7C17, b8C17, b9C17, some_of xC17⟩
  have p18 : ClP K C18 := ⟨⟨b1C18, b2C18, b3C18, b4C18, b5C18, b6C18⟩, b7C18, b8C18, b9C18, some_of xC18⟩
  have p19 : ClP K C19 := ⟨⟨b1C19, b2C19, b3C19, b4C19, b5C19, b6C19⟩, b7C19, b8C19, b9C19, some_of xC19⟩
  have o0 := oex_of xC0 (refs_v C19).1 p0
  have o1 := oex_of xC1 (refs_v C19).1 p1
  have o2 := oex_of xC2 (refs_v C19).1 p2
  have o3 := oex_of xC3 (refs_v C19).1 p3
  have o4 := oex_of xC4 (refs_v C19).1 p4
  have o5 := oex_of xC5 (refs_v C19).1 p5
  have o6 := oex_of xC6 (refs_v C19).1 p6
  have o7 := oex_of xC7 (refs_v C19).1 p7
  have o8 := oex_of xC8 (refs_v C19).1 p8
  have o9 := oex_of xC9 (refs_v C19).1 p9
  have o10 := oex_of xC10 (refs_v C19).1 p10
  have o11 := oex_of xC11 (refs_v C19).1 p11
  have o12 := oex_of xC12 (refs_v C19).1 p12
  have o13 := oex_of xC13 (refs_v C19).1 p13
  have o14 := oex_of xC14 (refs_v C19).1 p14
  have o15 := oex_of xC15 (refs_v C19).1 p15
  have o16 := oex_of xC16 (refs_v C19).1 p16
  have o17 := oex_of xC17 (refs_v C19).1 p17
  have o18 : OexK K C18 := ⟨⟨_, _, _, _, _, _, _, _, _, _, _, _, _, _, xC18⟩, p18.sa⟩
  have o19 := oex_of xC19 (refs_v C19).2 p19
  have inj : ∀ i j : Nat, i < 20 → j < 20 → (fun i => ([C0, C1, C2, C3, C4, C5, C6, C7, C8, C9, C10, C11, C12, C13, C14, C15, C16, C17, C18, C19] : List Addr).getD i 0) i = (fun i => ([C0, C1, C2, C3, C4, C5, C6, C7, C8, C9, C10, C11, C12, C13, C14, C15, C16, C17, C18, C19] : List Addr).getD i 0) j → i = j := by
    intro i j hi hj e
    have e' : ([C0, C1, C2, C3, C4, C5, C6, C7, C8, C9, C10, C11, C12, C13, C14, C15, C16, C17, C18, C19] : List Addr)[i]'hi = [C0, C1, C2, C3, C4, C5, C6, C7, C8, C9, C10, C11, C12, C13, C14, C15, C16, C17, C18, C19][j]'hj := by
      have g : ∀ k (hk : k < 20), ([C0, C1, C2, C3, C4, C5, C6, C7, C8, C9, C10, C11, C12, C13, C14, C15, C16, C17, C18, C19] : List Addr).getD k 0 = [C0, C1, C2, C3, C4, C5, C6, C7, C8, C9, C10, C11, C12, C13, C14, C15, C16, C17, C18, C19][k]'hk := fun k hk => by
        rw [List.getD_eq_getElem?_getD, List.getElem?_eq_getElem hk]
        rfl
      rw [← g i hi, ← g j hj]
      exact e
    exact (List.getElem_inj apart).mp e'
  have all20 : ∀ i : Nat, i < 20 → ClP K ((fun i => ([C0, C1, C2, C3, C4, C5, C6, C7, C8, C9, C10, C11, C12, C13, C14, C15, C16, C17, C18, C19] : List Addr).getD i 0) i) := by
    intro i hi
    have hh : i = 0 ∨ i = 1 ∨ i = 2 ∨ i = 3 ∨ i = 4 ∨ i = 5 ∨ i = 6 ∨ i = 7 ∨ i = 8 ∨ i = 9 ∨ i = 10 ∨ i = 11 ∨ i = 12 ∨ i = 13 ∨ i = 14 ∨ i = 15 ∨ i = 16 ∨ i = 17 ∨ i = 18 ∨ i = 19 := by omega
    rcases hh with rfl | rfl | rfl | rfl | rfl | rfl | rfl | rfl | rfl | rfl | rfl | rfl | rfl | rfl | rfl | rfl | rfl | rfl | rfl | rfl
    · exact p0
    · exact p1
    · exact p2
    · exact p3
    · exact p4
    · exact p5
    · exact p6
    · exact p7
    · exact p8
    · exact p9
    · exact p10
    · exact p11
    · exact p12
    · exact p13
    · exact p14
    · exact p15
    · exact p16
    · exact p17
    · exact p18
    · exact p19
  have mro18 : ∀ i : Nat, i < 18 → ∃ cd, PySem.W.clsIn K ((fun i => ([C0, C1, C2, C3, C4, C5, C6, C7, C8, C9, C10, C11, C12, C13, C14, C15, C16, C17, C18, C19] : List Addr).getD i 0) i) = some cd ∧ cd.mro = [.ref ((fun i => ([C0, C1, C2, C3, C4, C5, C6, C7, C8, C9, C10, C11, C12, C13, C14, C15, C16, C17, C18, C19] : List Addr).getD i 0) i), .ref ((fun i => ([C0, C1, C2, C3, C4, C5, C6, C7, C8, C9, C10, C11, C12, C13, C14, C15, C16, C17, C18, C19] : List Addr).getD i 0) 19), .type "ValueError", .type "Exception", .type "BaseException", .type "object"] := by
    intro i hi
    have hh : i = 0 ∨ i = 1 ∨ i = 2 ∨ i = 3 ∨ i = 4 ∨ i = 5 ∨ i = 6 ∨ i = 7 ∨ i = 8 ∨ i = 9 ∨ i = 10 ∨ i = 11 ∨ i = 12 ∨ i = 13 ∨ i = 14 ∨ i = 15 ∨ i = 16 ∨ i = 17 := by omega
    rcases hh with rfl | rfl | rfl | rfl | rfl | rfl | rfl | rfl | rfl | rfl | rfl | rfl | rfl | rfl | rfl | rfl | rfl | rfl
    · exact cls_of xC0
    · exact cls_of xC1
    · exact cls_of xC2
    · exact cls_of xC3
    · exact cls_of xC4
    · exact cls_of xC5
    · exact cls_of xC6
    · exact cls_of xC7
    · exact cls_of xC8
    · exact cls_of xC9
    · exact cls_of xC10
    · exact cls_of xC11
    · exact cls_of xC12
    · exact cls_of xC13
    · exact cls_of xC14
    · exact cls_of xC15
    · exact cls_of xC16
    · exact cls_of xC17
  have T : Cls99 K mg (fun i => ([C0, C1, C2, C3, C4, C5, C6, C7, C8, C9, C10, C11, C12, C13, C14, C15, C16, C17, C18, C19] : List Addr).getD i 0) := ⟨PySem.W.mg_of X G aC0, PySem.W.mg_of X G aC1, PySem.W.mg_of X G aC2, PySem.W.mg_of X G aC3, PySem.W.mg_of X G aC4, PySem.W.mg_of X G aC5, PySem.W.mg_of X G aC6, PySem.W.mg_of X G aC7, PySem.W.mg_of X G aC8, PySem.W.mg_of X G aC9, PySem.W.mg_of X G aC10, PySem.W.mg_of X G aC11, PySem.W.mg_of X G aC12, PySem.W.mg_of X G aC13, PySem.W.mg_of X G aC14, PySem.W.mg_of X G aC15, PySem.W.mg_of X G aC16, PySem.W.mg_of X G aC17, PySem.W.mg_of X G aC18, PySem.W.mg_of X G aC19, inj, fun i hi => (all20 i hi).ev, fun i hi => (all20 i hi).tyb, mro18, cls_of xC18, cls_of xC19, ⟨vb1, vb2⟩, y_isinstance⟩
  have pl : ∀ i ∈ plainIx, OexC K ((fun i => ([C0, C1, C2, C3, C4, C5, C6, C7, C8, C9, C10, C11, C12, C13, C14, C15, C16, C17, C18, C19] : List Addr).getD i 0) i) ∧ PySem.W.findIn K (.ref ((fun i => ([C0, C1, C2, C3, C4, C5, C6, C7, C8, C9, C10, C11, C12, C13, C14, C15, C16, C17, C18, C19] : List Addr).getD i 0) i)) "__init__" = some (some (.builtin "ValueError.__init__")) := by
    intro i hi
    have hh : i = 0 ∨ i = 1 ∨ i = 7 ∨ i = 8 ∨ i = 9 ∨ i = 10 ∨ i = 11 ∨ i = 12 ∨ i = 13 ∨ i = 14 ∨ i = 15 ∨ i = 17 ∨ i = 19 := by simpa [plainIx] using hi
    rcases hh with rfl | rfl | rfl | rfl | rfl | rfl | rfl | rfl | rfl | rfl | rfl | rfl | rfl
    · exact ⟨o0, iC0⟩
    · exact ⟨o1, iC1⟩
    · exact ⟨o7, iC7⟩
    · exact ⟨o8, iC8⟩
    · exact ⟨o9, iC9⟩
    · exact ⟨o10, iC10⟩
    · exact ⟨o11, iC11⟩
    · exact ⟨o12, iC12⟩
    · exact ⟨o13, iC13⟩
    · exact ⟨o14, iC14⟩
    · exact ⟨o15, iC15⟩
    · exact ⟨o17, iC17⟩
    · exact ⟨o19, iC19⟩
  have N : Plain99 K (fun i => ([C0, C1, C2, C3, C4, C5, C6, C7, C8, C9, C10, C11, C12, C13, C14, C15, C16, C17, C18, C19] : List Addr).getD i 0) := ⟨fun i hi => (pl i hi).1, fun i hi => (pl i hi).2⟩
  have B : Bl mg := ⟨y_isinstance, y_list, y_tuple, y_dict⟩
  refine ⟨PySem.W.fnOf "law" "law" (defArgs sLaw) (defBody sLaw) (defScope sLaw) .none kV8 dc8 pm8 an8 cd8 ct8, fun s v => .of_eq rfl, fun base _ _ => ?_⟩
  have M0 : MkC l.prog w K mg base ((fun i => ([C0, C1, C2, C3, C4, C5, C6, C7, C8, C9, C10, C11, C12, C13, C14, C15, C16, C17, C18, C19] : List Addr).getD i 0) 2) "name" g0 _ := ⟨makesVE o2 aI0 tI0, p2.kp, ok_iTaken I0 o2 nI0 F0 b0 m0 B, bi0, nI0, p2.ev.sub, p2.ty⟩
  have M1 : MkC l.prog w K mg base ((fun i => ([C0, C1, C2, C3, C4, C5, C6, C7, C8, C9, C10, C11, C12, C13, C14, C15, C16, C17, C18, C19] : List Addr).getD i 0) 3) "most" g1 _ := ⟨makesVE o3 aI1 tI1, p3.kp, ok_iTooMany I1 o3 nI1 F0 b0 m0 B, bi1, nI1, p3.ev.sub, p3.ty⟩
  have M2 : MkC l.prog w K mg base ((fun i => ([C0, C1, C2, C3, C4, C5, C6, C7, C8, C9, C10, C11, C12, C13, C14, C15, C16, C17, C18, C19] : List Addr).getD i 0) 4) "number" g2 _ := ⟨makesVE o4 aI2 tI2, p4.kp, ok_iNoPlace I2 o4 nI2 F0 b0 m0 B, bi2, nI2, p4.ev.sub, p4.ty⟩
  have M3 : MkC l.prog w K mg base ((fun i => ([C0, C1, C2, C3, C4, C5, C6, C7, C8, C9, C10, C11, C12, C13, C14, C15, C16, C17, C18, C19] : List Addr).getD i 0) 5) "what" g3 _ := ⟨makesVE o5 aI3 tI3, p5.kp, ok_iNoAsk I3 o5 nI3 F0 b0 m0 B, bi3, nI3, p5.ev.sub, p5.ty⟩
  have M4 : MkC l.prog w K mg base ((fun i => ([C0, C1, C2, C3, C4, C5, C6, C7, C8, C9, C10, C11, C12, C13, C14, C15, C16, C17, C18, C19] : List Addr).getD i 0) 6) "budget" g4 _ := ⟨makesVE o6 aI4 tI4, p6.kp, ok_iSpent I4 o6 nI4 F0 b0 m0 B, bi4, nI4, p6.ev.sub, p6.ty⟩
  have M5 : MkC l.prog w K mg base ((fun i => ([C0, C1, C2, C3, C4, C5, C6, C7, C8, C9, C10, C11, C12, C13, C14, C15, C16, C17, C18, C19] : List Addr).getD i 0) 16) "line" g5 _ := ⟨makesVE o16 aI5 tI5, p16.kp, ok_iNoText I5 o16 nI5 F0 b0 m0 B, bi5, nI5, p16.ev.sub, p16.ty⟩
  have M6 : MkC l.prog w K mg base ((fun i => ([C0, C1, C2, C3, C4, C5, C6, C7, C8, C9, C10, C11, C12, C13, C14, C15, C16, C17, C18, C19] : List Addr).getD i 0) 18) "name" g6 _ := ⟨makesKE o18 aI6 tI6, p18.kp, ok_iUnknown I6 o18 nI6 F0 b0 m0 B, bi6, nI6, p18.ev.sub, p18.ty⟩
  have Z : Names99 mg := ⟨y_repr, y_enumerate, y_ValueError, y_KeyError⟩
  have GR := ok_right (P := l.prog) (w := w) (base := base) F7 T N Z M0 M1 M2 M3 M4 M5 M6 F4 b4 m4 F6 b6 m6 F5 b5 m5
  exact ok_law F8 T N Z ⟨y_len, y_range, y_min⟩ F1 (ok_feed F1 y_len y_abs) b1 m1 F3 (ok_thing F3 F2 b2 m2 y_str) b3 m3 F7 GR b7 m7
end K99
open PySem PySem.W PyProof.Rows
set_option maxRecDepth 100000 in
set_option maxHeartbeats 0 in
theorem PySem.Challenge.cw_plansamid_k99_each_refusal_of_its_class_holds : PySem.Challenge.rw_plansamid_k99_each_refusal_of_its_class.Holds := by
  w_on; o_law; k_head; (case hw => w_witness2)
  k_fill
  refine Gd.walkG (l := PySem.Challenge.rw_plansamid_k99_each_refusal_of_its_class) (m := 63) (n := 14) (x := "_law_script") (sp := K99.spLaw) rfl (by decide) rfl ⟨rfl, by decide, by decide⟩ (fun w h Y => PySem.W.kIn_of Y) ?F ?S
  case S =>
    intro K H a ns h1 _ _ h4
    exact ⟨a, ns, rfl, h4, h1, fun _ => rfl⟩
  case F =>
    intro w mg fa h KX G hmg
    refine' K99.all_mk KX G hmg ?aC0 ?xC0 ?b1C0 ?b2C0 ?b3C0 ?b4C0 ?b5C0 ?b6C0 ?b7C0 ?b8C0 ?b9C0 ?iC0 ?aC1 ?xC1 ?b1C1 ?b2C1 ?b3C1 ?b4C1 ?b5C1 ?b6C1 ?b7C1 ?b8C1 ?b9C1 ?iC1 ?aC2 ?xC2 ?b1C2 ?b2C2 ?b3C2 ?b4C2 ?b5C2 ?b6C2 ?b7C2 ?b8C2 ?b9C2 ?aC3 ?xC3 ?b1C3 ?b2C3 ?b3C3 ?b4C3 ?b5C3 ?b6C3 ?b7C3 ?b8C3 ?b9C3 ?aC4 ?xC4 ?b1C4 ?b2C4 ?b3C4 ?b4C4 ?b5C4 ?b6C4 ?b7C4 ?b8C4 ?b9C4 ?aC5 ?xC5 ?b1C5 ?b2C5 ?b3C5 ?b4C5 ?b5C5 ?b6C5 ?b7C5 ?b8C5 ?b9C5 ?aC6 ?xC6 ?b1C6 ?b2C6 ?b3C6 ?b4C6 ?b5C6 ?b6C6 ?b7C6 ?b8C6 ?b9C6 ?aC7 ?xC7 ?b1C7 ?b2C7 ?b3C7 ?b4C7 ?b5C7 ?b6C7 ?b7C7 ?b8C7 ?b9C7 ?iC7 ?aC8 ?xC8 ?b1C8 ?b2C8 ?b3C8 ?b4C8 ?b5C8 ?b6C8 ?b7C8 ?b8C8 ?b9C8 ?iC8 ?aC9 ?xC9 ?b1C9 ?b2C9 ?b3C9 ?b4C9 ?b5C9 ?b6C9 ?b7C9 ?b8C9 ?b9C9 ?iC9 ?aC10 ?xC10 ?b1C10 ?b2C10 ?b3C10 ?b4C10 ?b5C10 ?b6C10 ?b7C10 ?b8C10 ?b9C10 ?iC10 ?aC11 ?xC11 ?b1C11 ?b2C11 ?b3C11 ?b4C11 ?b5C11 ?b6C11 ?b7C11 ?b8C11 ?b9C11 ?iC11 ?aC12 ?xC12 ?b1C12 ?b2C12 ?b3C12 ?b4C12 ?b5C12 ?b6C12 ?b7C12 ?b8C12 ?b9C12 ?iC12 ?aC13 ?xC13 ?b1C13 ?b2C13 ?b3C13 ?b4C13 ?b5C13 ?b6C13 ?b7C13 ?b8C13 ?b9C13 ?iC13 ?aC14 ?xC14 ?b1C14 ?b2C14 ?b3C14 ?b4C14 ?b5C14 ?b6C14 ?b7C14 ?b8C14 ?b9C14 ?iC14 ?aC15 ?xC15 ?b1C15 ?b2C15 ?b3C15 ?b4C15 ?b5C15 ?b6C15 ?b7C15 ?b8C15 ?b9C15 ?iC15 ?aC16 ?xC16 ?b1C16 ?b2C16 ?b3C16 ?b4C16 ?b5C16 ?b6C16 ?b7C16 ?b8C16 ?b9C16 ?aC17 ?xC17 ?b1C17 ?b2C17 ?b3C17 ?b4C17 ?b5C17 ?b6C17 ?b7C17 ?b8C17 ?b9C17 ?iC17 ?aC18 ?xC18 ?b1C18 ?b2C18 ?b3C18 ?b4C18 ?b5C18 ?b6C18 ?b7C18 ?b8C18 ?b9C18 ?aC19 ?xC19 ?b1C19 ?b2C19 ?b3C19 ?b4C19 ?b5C19 ?b6C19 ?b7C19 ?b8C19 ?b9C19 ?iC19 ?aF0 ?lF0 ?cF0 ?kF0 ?aF1 ?lF1 ?cF1 ?kF1 ?aF2 ?lF2 ?cF2 ?kF2 ?aF3 ?lF3 ?cF3 ?kF3 ?aF4 ?lF4 ?cF4 ?kF4 ?aF5 ?lF5 ?cF5 ?kF5 ?aF6 ?lF6 ?cF6 ?kF6 ?aF7 ?lF7 ?cF7 ?kF7 ?aF8 ?lF8 ?cF8 ?kF8 ?aI0 ?tI0 ?lI0 ?cI0 ?kI0 ?nI0 ?aI1 ?tI1 ?lI1 ?cI1 ?kI1 ?nI1 ?aI2 ?tI2 ?lI2 ?cI2 ?kI2 ?nI2 ?aI3 ?tI3 ?lI3 ?cI3 ?kI3 ?nI3 ?aI4 ?tI4 ?lI4 ?cI4 ?kI4 ?nI4 ?aI5 ?tI5 ?lI5 ?cI5 ?kI5 ?nI5 ?aI6 ?tI6 ?lI6 ?cI6 ?kI6 ?nI6 ?vb1 ?vb2 ?z_isinstance ?z_list ?z_tuple ?z_dict ?z_len ?z_abs ?z_str ?z_repr ?z_enumerate ?z_range ?z_min ?z_ValueError ?z_KeyError ?apart
    (case aC0 => k_is)
    (case xC0 => k_is)
    (case b1C0 => k_is)
    (case b2C0 => k_is)
    (case b3C0 => k_is)
    (case b4C0 => k_is)
    (case b5C0 => k_is)
    (case b6C0 => k_is)
    (case b7C0 => k_is)
    (case b8C0 => k_is)
    (case b9C0 => k_is)
    (case iC0 => k_is)
    (case aC1 => k_is)
    (case xC1 => k_is)
    (case b1C1 => k_is)
    (case b2C1 => k_is)
    (case b3C1 => k_is)
    (case b4C1 => k_is)
    (case b5C1 => k_is)
    (case b6C1 => k_is)
    (case b7C1 => k_is)
    (case b8C1 => k_is)
    (case b9C1 => k_is)
    (case iC1 => k_is)
    (case aC2 => k_is)
    (case xC2 => k_is)
    (case b1C2 => k_is)
    (case b2C2 => k_is)
    (case b3C2 => k_is)
    (case b4C2 => k_is)
    (case b5C2 => k_is)
    (case b6C2 => k_is)
    (case b7C2 => k_is)
    (case b8C2 => k_is)
    (case b9C2 => k_is)
    (case aC3 => k_is)
    (case xC3 => k_is)
    (case b1C3 => k_is)
    (case b2C3 => k_is)
    (case b3C3 => k_is)
    (case b4C3 => k_is)
    (case b5C3 => k_is)
    (case b6C3 => k_is)
    (case b7C3 => k_is)
    (case b8C3 => k_is)
    (case b9C3 => k_is)
    (case aC4 => k_is)
    (case xC4 => k_is)
    (case b1C4 => k_is)
    (case b2C4 => k_is)
    (case b3C4 => k_is)
    (case b4C4 => k_is)
    (case b5C4 => k_is)
    (case b6C4 => k_is)
    (case b7C4 => k_is)
    (case b8C4 => k_is)
    (case b9C4 => k_is)
    (case aC5 => k_is)
    (case xC5 => k_is)
    (case b1C5 => k_is)
    (case b2C5 => k_is)
    (case b3C5 => k_is)
    (case b4C5 => k_is)
    (case b5C5 => k_is)
    (case b6C5 => k_is)
    (case b7C5 => k_is)
    (case b8C5 => k_is)
    (case b9C5 => k_is)
    (case aC6 => k_is)
    (case xC6 => k_is)
    (case b1C6 => k_is)
    (case b2C6 => k_is)
    (case b3C6 => k_is)
    (case b4C6 => k_is)
    (case b5C6 => k_is)
    (case b6C6 => k_is)
    (case b7C6 => k_is)
    (case b8C6 => k_is)
    (case b9C6 => k_is)
    (case aC7 => k_is)
    (case xC7 => k_is)
    (case b1C7 => k_is)
    (case b2C7 => k_is)
    (case b3C7 => k_is)
    (case b4C7 => k_is)
    (case b5C7 => k_is)
    (case b6C7 => k_is)
    (case b7C7 => k_is)
    (case b8C7 => k_is)
    (case b9C7 => k_is)
    (case iC7 => k_is)
    (case aC8 => k_is)
    (case xC8 => k_is)
    (case b1C8 => k_is)
    (case b2C8 => k_is)
    (case b3C8 => k_is)
    (case b4C8 => k_is)
    (case b5C8 => k_is)
    (case b6C8 => k_is)
    (case b7C8 => k_is)
    (case b8C8 => k_is)
    (case b9C8 => k_is)
    (case iC8 => k_is)
    (case aC9 => k_is)
    (case xC9 => k_is)
    (case b1C9 => k_is)
    (case b2C9 => k_is)
    (case b3C9 => k_is)
    (case b4C9 => k_is)
    (case b5C9 => k_is)
    (case b6C9 => k_is)
    (case b7C9 => k_is)
    (case b8C9 => k_is)
    (case b9C9 => k_is)
    (case iC9 => k_is)
    (case aC10 => k_is)
    (case xC10 => k_is)
    (case b1C10 => k_is)
    (case b2C10 => k_is)
    (case b3C10 => k_is)
    (case b4C10 => k_is)
    (case b5C10 => k_is)
    (case b6C10 => k_is)
    (case b7C10 => k_is)
    (case b8C10 => k_is)
    (case b9C10 => k_is)
    (case iC10 => k_is)
    (case aC11 => k_is)
    (case xC11 => k_is)
    (case b1C11 => k_is)
    (case b2C11 => k_is)
    (case b3C11 => k_is)
    (case b4C11 => k_is)
    (case b5C11 => k_is)
    (case b6C11 => k_is)
    (case b7C11 => k_is)
    (case b8C11 => k_is)
    (case b9C11 => k_is)
    (case iC11 => k_is)
    (case aC12 => k_is)
    (case xC12 => k_is)
    (case b1C12 => k_is)
    (case b2C12 => k_is)
    (case b3C12 => k_is)
    (case b4C12 => k_is)
    (case b5C12 => k_is)
    (case b6C12 => k_is)
    (case b7C12 => k_is)
    (case b8C12 => k_is)
    (case b9C12 => k_is)
    (case iC12 => k_is)
    (case aC13 => k_is)
    (case xC13 => k_is)
    (case b1C13 => k_is)
    (case b2C13 => k_is)
    (case b3C13 => k_is)
    (case b4C13 => k_is)
    (case b5C13 => k_is)
    (case b6C13 => k_is)
    (case b7C13 => k_is)
    (case b8C13 => k_is)
    (case b9C13 => k_is)
    (case iC13 => k_is)
    (case aC14 => k_is)
    (case xC14 => k_is)
    (case b1C14 => k_is)
    (case b2C14 => k_is)
    (case b3C14 => k_is)
    (case b4C14 => k_is)
    (case b5C14 => k_is)
    (case b6C14 => k_is)
    (case b7C14 => k_is)
    (case b8C14 => k_is)
    (case b9C14 => k_is)
    (case iC14 => k_is)
    (case aC15 => k_is)
    (case xC15 => k_is)
    (case b1C15 => k_is)
    (case b2C15 => k_is)
    (case b3C15 => k_is)
    (case b4C15 => k_is)
    (case b5C15 => k_is)
    (case b6C15 => k_is)
    (case b7C15 => k_is)
    (case b8C15 => k_is)
    (case b9C15 => k_is)
    (case iC15 => k_is)
    (case aC16 => k_is)
    (case xC16 => k_is)
    (case b1C16 => k_is)
    (case b2C16 => k_is)
    (case b3C16 => k_is)
    (case b4C16 => k_is)
    (case b5C16 => k_is)
    (case b6C16 => k_is)
    (case b7C16 => k_is)
    (case b8C16 => k_is)
    (case b9C16 => k_is)
    (case aC17 => k_is)
    (case xC17 => k_is)
    (case b1C17 => k_is)
    (case b2C17 => k_is)
    (case b3C17 => k_is)
    (case b4C17 => k_is)
    (case b5C17 => k_is)
    (case b6C17 => k_is)
    (case b7C17 => k_is)
    (case b8C17 => k_is)
    (case b9C17 => k_is)
    (case iC17 => k_is)
    (case aC18 => k_is)
    (case xC18 => k_is)
    (case b1C18 => k_is)
    (case b2C18 => k_is)
    (case b3C18 => k_is)
    (case b4C18 => k_is)
    (case b5C18 => k_is)
    (case b6C18 => k_is)
    (case b7C18 => k_is)
    (case b8C18 => k_is)
    (case b9C18 => k_is)
    (case aC19 => k_is)
    (case xC19 => k_is)
    (case b1C19 => k_is)
    (case b2C19 => k_is)
    (case b3C19 => k_is)
    (case b4C19 => k_is)
    (case b5C19 => k_is)
    (case b6C19 => k_is)
    (case b7C19 => k_is)
    (case b8C19 => k_is)
    (case b9C19 => k_is)
    (case iC19 => k_is)
    (case aF0 => k_is)
    (case lF0 => k_is)
    (case cF0 => k_is)
    (case kF0 => k_is)
    (case aF1 => k_is)
    (case lF1 => k_is)
    (case cF1 => k_is)
    (case kF1 => k_is)
    (case aF2 => k_is)
    (case lF2 => k_is)
    (case cF2 => k_is)
    (case kF2 => k_is)
    (case aF3 => k_is)
    (case lF3 => k_is)
    (case cF3 => k_is)
    (case kF3 => k_is)
    (case aF4 => k_is)
    (case lF4 => k_is)
    (case cF4 => k_is)
    (case kF4 => k_is)
    (case aF5 => k_is)
    (case lF5 => k_is)
    (case cF5 => k_is)
    (case kF5 => k_is)
    (case aF6 => k_is)
    (case lF6 => k_is)
    (case cF6 => k_is)
    (case kF6 => k_is)
    (case aF7 => k_is)
    (case lF7 => k_is)
    (case cF7 => k_is)
    (case kF7 => k_is)
    (case aF8 => k_is)
    (case lF8 => k_is)
    (case cF8 => k_is)
    (case kF8 => k_is)
    (case aI0 => k_is)
    (case tI0 => k_is)
    (case lI0 => k_is)
    (case cI0 => k_is)
    (case kI0 => k_is)
    (case nI0 => k_is)
    (case aI1 => k_is)
    (case tI1 => k_is)
    (case lI1 => k_is)
    (case cI1 => k_is)
    (case kI1 => k_is)
    (case nI1 => k_is)
    (case aI2 => k_is)
    (case tI2 => k_is)
    (case lI2 => k_is)
    (case cI2 => k_is)
    (case kI2 => k_is)
    (case nI2 => k_is)
    (case aI3 => k_is)
    (case tI3 => k_is)
    (case lI3 => k_is)
    (case cI3 => k_is)
    (case kI3 => k_is)
    (case nI3 => k_is)
    (case aI4 => k_is)
    (case tI4 => k_is)
    (case lI4 => k_is)
    (case cI4 => k_is)
    (case kI4 => k_is)
    (case nI4 => k_is)
    (case aI5 => k_is)
    (case tI5 => k_is)
    (case lI5 => k_is)
    (case cI5 => k_is)
    (case kI5 => k_is)
    (case nI5 => k_is)
    (case aI6 => k_is)
    (case tI6 => k_is)
    (case lI6 => k_is)
    (case cI6 => k_is)
    (case kI6 => k_is)
    (case nI6 => k_is)
    (case vb1 => k_is)
    (case vb2 => k_is)
    (case z_isinstance => k_is)
    (case z_list => k_is)
    (case z_tuple => k_is)
    (case z_dict => k_is)
    (case z_len => k_is)
    (case z_abs => k_is)
    (case z_str => k_is)
    (case z_repr => k_is)
    (case z_enumerate => k_is)
    (case z_range => k_is)
    (case z_min => k_is)
    (case z_ValueError => k_is)
    (case z_KeyError => k_is)
    (case apart => decide)
end
