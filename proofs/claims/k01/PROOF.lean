import PyProof.Rows.All
import Wide.All
import OpenK.AllK
import Wide.FinOn
import HandS.ForMost
import HandS.ForExc
import HandS.EndBits
import PyProof.ReprRoads
import HandS.IsInst
import PyProof.ReprLen
import HandS.TupAny
import PyProof.Rows.IntBool
import KE.KRevSl
import HandS.Style
import HandS.Codes
import PyProof.FitsInt
import HandS.Conv
import HandS.Walk
import PyProof.NeKinds
import HandS.Text
import HandS.TupLe
import PySem.Challenge.RW_plansamid_k01_worths_and_parts_known

section
set_option Elab.async false
set_option linter.all false
set_option maxRecDepth 100000
set_option maxHeartbeats 4000000
/-! A def's promise where no text of a container is being put together around it (so that repr is served). -/
namespace Gd
open PySem PySem.Spec PyProof.Rows L2

/-- no container is amid its own text -/
def Free (A : Around) : Prop := A.guards = some []

structure FnG (P : Program) (w : World) (K : PySem.W.Frag) (mg : Str → Option Value)
    (base : Heap) (cx : CXT) (n : Nat) (f : Addr) (fd : FuncData) (ps : List Str) (sp : Sp) : Prop where
  len : ∀ vs H Q E, sp vs H Q E → vs.length = ps.length
  run : ∀ (A : Around) (out : List Env) (s : Shared) (H : Hp) (args : Args) (us : List Value)
      (vs : List V) (Q : VK) (E : XK), Free A → Room n A → Env0 P w K mg base A out s H →
      BindsTo s fd args (ps.zip us) → Vals vs us → sp vs H Q E →
      codeAny (model P w) A (.call (.ref f) args) (CR cx out P w H s Q E) s

section
variable {P : Program} {w : World} {K : PySem.W.Frag} {mg : Str → Option Value} {base : Heap} {cx : CXT}
theorem FnG.ofOk {n : Nat} {f : Addr} {fd : FuncData} {ps : List Str} {sp : Sp}
    (F : FnOk P w K mg base cx n f fd ps sp) : FnG P w K mg base cx n f fd ps sp :=
  ⟨F.len, fun A out s H args us vs Q E _ => F.run A out s H args us vs Q E⟩
theorem FnG.mono {m n : Nat} {f : Addr} {fd : FuncData} {ps : List Str} {sp : Sp}
    (F : FnG P w K mg base cx m f fd ps sp) (h : m ≤ n) : FnG P w K mg base cx n f fd ps sp :=
  ⟨F.len, fun A out s H args us vs Q E g r => F.run A out s H args us vs Q E g (r.mono h)⟩
end

section
variable {X : Cx} {cx : CXT} {n : Nat} {f : Addr} {fd : FuncData} {ps : List Str} {sp : Sp}
  {dvs : List V} {ds : List Value} {E : XK} {x : Str} {p pos : Pos} {e : Expr} {es : List Expr} {t : TA}

theorem run_g {pins : List (Addr × Obj)} {σ : L2.St} {H : Hp} {s : Shared} {Q : VK} {us : List Value} {vs : List V}
    (F : FnG X.prog X.w X.K X.mg X.base cx n f fd ps sp) (g : Free X.A) (hr : Room n X.A)
    (hb : Binds X.K fd ps ds) (hd : Vals dvs ds) (hx : Passes cx X E)
    (I : Inv X pins σ H s) (r : Vals vs us) (h : sp (vs ++ dvs) H Q E) :
    wpAny (model X.prog X.w) X.A (call (.ref f) us) (EP X pins σ Q) X.xe s := by
  have rr : Vals (vs ++ dvs) (us ++ ds) := r.append hd
  have hl : (us ++ ds).length = ps.length := (Paired.length rr).symm.trans (F.len _ _ _ _ h)
  have all := F.run X.A X.stack s H ⟨us, []⟩ (us ++ ds) (vs ++ dvs) Q E g hr I.env0 (hb s us I.kIn hl) rr h
  refine wpAny_call (codeAny_mono all ?_)
  intro o s' z
  cases o with
  | error er => exact hx pins σ H s er s' I z
  | ok fl =>
    cases fl with
    | ret u => exact I.after z
    | _ => exact False.elim z

theorem pe_callG (F : FnG X.prog X.w X.K X.mg X.base cx n f fd ps sp) (g : Free X.A) (hr : Room n X.A)
    (hg : Gl X x) (hm : X.mg x = some (.ref f)) (hk : PySem.W.keepIn X.K (.ref f) = true)
    (hb : Binds X.K fd ps ds) (hd : Vals dvs ds) (hx : Passes cx X E) (ha : PA X (e :: es) t)
    (hdb : (x == ("__debug__" : Str)) = false := by decide)
    (he : starEach (e :: es) X.env = (false, eval e X.env) :: starEach es X.env := by rfl)
    (hpl : (backTo pos (starEach es X.env)).any (·.1) = false := by rfl) :
    PE X (.Call (.Name x p) (e :: es) [] pos) (tCall sp dvs E t) := by
  constructor
  intro pins s σ H Q I h
  refine wpAny_Call_Name_kw (ld_glob I hg hm ?_ hdb)
  have args := ha.run pos pins s σ H _ I h
  refine PySem.W.callWith_K (h₀ := X.base) I.ok.mod.kin hk (thn args ?_) he hpl
  rintro us s1 ⟨vs, H1, J, r, q⟩
  exact ⟨J.kIn, run_g F g hr hb hd hx J r q⟩
end

/-! ### by the body -/
section
variable {P : Program} {w : World} {K : PySem.W.Frag} {mg : Str → Option Value} {base : Heap}
theorem FnG.body {cx : CXT} {n : Nat} {f : Addr} {nm ql : Str} {pr : Arguments} {bd : List Stmt} {sc : Scope}
    {dV kV dc pm cv ct oc : Value} {an od : Option Addr} {sl : Array (Option Value)} {N ps : List Str} {sp : Sp}
    (lk : K.lookup f = some ⟨oc, od, .func (PySem.W.fnOf nm ql pr bd sc dV kV dc pm an cv ct), sl⟩)
    (hc : PySem.W.codeIn K cv ql = true) (S : FnScope N ps sc) (len : ∀ vs H Q E, sp vs H Q E → vs.length = ps.length)
    (hb : ∀ (A : Around) (out : List Env) (s : Shared) (H : Hp) (vs : List V) (Q : VK) (E : XK),
      Free (A.deeper (envOfC ql sc s.heap.objs.size f cv)) → Room n (A.deeper (envOfC ql sc s.heap.objs.size f cv)) →
      sp vs H Q E → ∃ t, PSs (cxOf cx P w K mg base N ql sc f cv A out s H E) bd t ∧
        t { nx := fun _ H' => Q .non H', rt := Q } (start N vs) H) :
    FnG P w K mg base cx (n + 1) f (PySem.W.fnOf nm ql pr bd sc dV kV dc pm an cv ct) ps sp := by
  refine ⟨len, ?_⟩
  intro A out s H args us vs Q E g hr e0 hbd r hsp
  have hl := len _ _ _ _ hsp
  have KX : K.In s.heap := e0.mod.kin.keeps fun b o e => (e0.bs b o e).1
  have lim : s.heap.NoLimit := e0.mod.nolimit.keeps fun b o e => (e0.bs b o e).1
  have kinds : ∀ y ∈ ps.zip us, sc.names.lookup y.1 = some .local ∨
      (sc.names.lookup y.1 = some .cell ∧
        ((cellsFrom (s.heap.objs.size + 1) sc.names []).lookup y.1).isSome = true) := by
    rintro ⟨y, v⟩ hy
    rcases S.par y (List.of_mem_zip hy).1 with q | q
    · left; exact q
    · right; exact ⟨q, PySem.W.cellsFrom_some _ _ _ (.inl q)⟩
  have code := PySem.W.codeRec_of KX hc
  refine codeAny_call_function hr.depth (KX _ _ lk) rfl S.co S.gen rfl code (hbd _ _ _ _ ?_)
  refine wpAny_newFunctionEnv_cells S.kind kinds ?_
  intro env he s1 x
  subst he
  refine ⟨lim.keeps x.toInCall.keep, codeAny_func ?_⟩
  obtain ⟨t, ht, hq⟩ := hb A out s H vs Q E g (hr.deeper _) hsp
  have I := inv_start (CX := cx) (P := P) (w := w) (E := E) S hr.hd e0 hl r x
  refine wpAny_mono (ht.run [] s1 (start N vs) H _ I hq) ?_ fun er s' z => z
  intro fl s' z
  cases fl with
  | ret u =>
    obtain ⟨v, σ', H', J, rv, q⟩ := z
    exact ⟨v, H', J.os, J.bare, J.base, J.hok, rv, q⟩
  | next =>
    obtain ⟨σ', H', J, q⟩ := z
    exact ⟨V.non, H', J.os, J.bare, J.base, J.hok, rfl, q⟩
  | brk =>
    obtain ⟨_, _, _, q⟩ := z
    exact q.elim
  | cont =>
    obtain ⟨_, _, _, q⟩ := z
    exact q.elim

theorem okG {x ql : Str} {st : Stmt} {f : Addr} {fd : FuncData} {N ps : List Str} {n : Nat} {sp : Sp}
    (F : Fun K x ql st f fd) (S : FnScope N ps (defScope st)) (len : ∀ vs H Q E, sp vs H Q E → vs.length = ps.length)
    (hb : ∀ (cv : Value) (A : Around) (out : List Env) (s : Shared) (H : Hp) (vs : List V) (Q : VK) (E : XK),
      Free (A.deeper (envOfC ql (defScope st) s.heap.objs.size f cv)) →
      Room n (A.deeper (envOfC ql (defScope st) s.heap.objs.size f cv)) → sp vs H Q E →
      ∃ t, PSs (cxOf CX0 P w K mg base N ql (defScope st) f cv A out s H E).nox (defBody st) t ∧
        t { nx := fun _ H' => Q .non H', rt := Q } (start N vs) H) :
    FnG P w K mg base CX0 (n + 1) f fd ps sp := by
  obtain ⟨oc, od, kV, dc, pm, an, cv, ct, sl, rfl, lk, hc⟩ := F.ex
  refine FnG.body lk hc S len ?_
  intro A out s H vs Q E g hr hsp
  obtain ⟨t, h, q⟩ := hb cv A out s H vs Q E g hr hsp
  exact ⟨t, h.nox, q⟩
end
end Gd
end

section
set_option Elab.async false
set_option linter.all false
set_option maxRecDepth 100000
set_option maxHeartbeats 4000000
/-! The end of a law's row from a promise of Gd.FnG. -/
namespace Gd
open PySem PySem.Spec PyProof.Rows L2

/-- what is wanted of the law's own call -/
def Yes (s1 : Shared) (r : Result) (s' : Shared) : Prop :=
  r = .ok (.ret (.bool true)) ∧ OldK s1.heap s'.heap ∧ s'.os = s1.os ∧ AllBare s'.gens

section
variable {P : Program} {w : World} {K : PySem.W.Frag} {mg mb : Str → Option Value} {cx : CXT} {n : Nat}
  {fa a : Addr} {fd : FuncData} {x : Str} {sp : Sp} {s1 : Shared} {vs : List Value} {ns : List Int}

theorem begun (H : Hp) (only : Only H) (hS : SqL K H a (ns.map V.int)) (hok : HOk P w H s1.heap)
    (at_a : ∀ b, H b ≠ none → b = a) (noK : H a ≠ none → K.lookup a = none)
    (KX : K.In s1.heap) (hns : s1.heap.Ns mainGlobals mg) (hb : s1.heap.Ns builtinsNs mb)
    (hbb : ∀ y : Str, y ≠ "__name__" → mb y = bootBuiltins y) (hlim : s1.heap.NoLimit) (hg : s1.gens = #[])
    (ha : s1.heap.get? a = some { cls := .type "list", data := .seq vs.toArray }) (hr : Room n callerA)
    (F : ∀ base : Heap, K.In base → base.Ns mainGlobals mg → FnG P w K mg base cx n fa fd [x] sp)
    (hbind : ∀ (s : Shared) (u : Value), BindsTo s fd ⟨[u], []⟩ [(x, u)])
    (hsp : sp [.ref a] H (fun v _ => v = .bl true) fun _ _ _ => False)
    (hCX : ∀ e s', cx [] H s1 (fun _ _ _ => False) e s' → False) :
    codeAny (model P w) callerA (.call (.ref fa) ⟨[.ref a], []⟩) (Yes s1) s1 := by
  -- the base: what isn't tracked
  let B := hidT s1.heap H
  have toB : ∀ {b : Addr} {o : Obj}, s1.heap.get? b = some o → H b = none → B.get? b = some o :=
    fun e z => hidT_get e z
  have notDict : ∀ {b : Addr} {o : Obj} {es : Array DictEntry} {m : Nat},
      s1.heap.get? b = some o → o.data = .dict es m → H b = none := by
    intro b o es m e d
    cases q : H b with
    | none => rfl
    | some u =>
      exfalso
      have eb : b = a := at_a b (by simp [q])
      rw [eb, ha] at e
      cases Option.some.inj e
      cases d
  have nsB : ∀ {b : Addr} {m : Str → Option Value}, s1.heap.Ns b m → B.Ns b m := by
    rintro b m ⟨o, es, ep, e, d, r⟩
    exact ⟨o, es, ep, toB e (notDict e d), d, r⟩
  have inB : K.In B := by
    intro b o e
    refine toB (KX b o e) ?_
    cases q : H b with
    | none => rfl
    | some u =>
      have eb : b = a := at_a b (by simp [q])
      have z := noK (by rw [← eb, q]; simp)
      rw [eb, z] at e
      cases e
  have modB : Mod K mg B := by
    obtain ⟨mc, l1, l2⟩ := hlim
    exact ⟨inB, nsB hns, ⟨mb, nsB hb, hbb⟩, ⟨mc, nsB l1, l2⟩⟩
  have nil : ∀ {b : Addr}, b ∉ ([] : List Addr) := fun z => nomatch z
  have e0 : Env0 P w K mg B callerA [] s1 H :=
    ⟨rfl, modB, fun b o e => of_hidT e, Nat.le_of_eq (hidT_size _ _), trivial, fun b z => (nil z).elim, hok, .of_eq hg⟩
  have got := (F B inB (nsB hns)).run callerA [] s1 H ⟨[.ref a], []⟩ [.ref a] [.ref a] _ _ rfl hr e0
    (hbind s1 (.ref a)) (.cons rfl .nil) hsp
  refine codeAny_mono got ?_
  intro r s' z
  cases r with
  | error er => exact (hCX er s' z).elim
  | ok fl =>
    cases fl with
    | ret u =>
      obtain ⟨v, H', os, bare, un, hok', rv, q⟩ := z
      obtain rfl : v = .bl true := q
      obtain rfl : u = Value.bool true := rv
      refine ⟨rfl, OldK.of_keep ?_, os, bare⟩
      intro b o e
      cases q : H b with
      | none => exact un.keep b o e q (fun z => (nil z).elim) (fun z => (nil z).elim)
      | some u =>
        rcases only b with z | ⟨ob, xs, z⟩
        · exact nomatch q.symm.trans z
        · obtain ⟨g1, _⟩ := hok b _ z
          obtain ⟨g2, _⟩ := hok' b _ (un.frzs b ob _ z)
          exact g2.trans (g1.symm.trans e)
    | _ => exact False.elim z

theorem law_callG (KX : K.In s1.heap) (hns : s1.heap.Ns mainGlobals mg) (hb : s1.heap.Ns builtinsNs mb)
    (hbb : ∀ y : Str, y ≠ "__name__" → mb y = bootBuiltins y) (hlim : s1.heap.NoLimit) (hg : s1.gens = #[])
    (ha : s1.heap.get? a = some { cls := .type "list", data := .seq vs.toArray }) (hi : IntsAre vs ns)
    (hl : ns.length ≤ sizeLine) (hr : Room n callerA)
    (F : ∀ base : Heap, K.In base → base.Ns mainGlobals mg → FnG P w K mg base cx n fa fd [x] sp)
    (hbind : ∀ (s : Shared) (u : Value), BindsTo s fd ⟨[u], []⟩ [(x, u)])
    (hsp : ∀ H : Hp, Only H → SqL K H a (ns.map V.int) → sp [.ref a] H (fun v _ => v = .bl true) fun _ _ _ => False)
    (hCX : ∀ H e s', cx [] H s1 (fun _ _ _ => False) e s' → False) :
    codeAny (model P w) callerA (.call (.ref fa) ⟨[.ref a], []⟩) (Yes s1) s1 := by
  have rv := vals_ints hi
  have hz : vs.toArray.size ≤ sizeLine := by
    rw [List.size_toArray, hi.length]
    exact hl
  cases hk : K.lookup a with
  | some o =>
    have e : some o = some _ := (KX a o hk).symm.trans ha
    cases e
    have here : SqL K (fun _ => none) a (ns.map V.int) := .inr ⟨_, vs.toArray, _, hk, rfl, rfl, rfl, hz, by simpa using rv⟩
    have only : Only (fun _ => none) := fun _ => .inl rfl
    exact begun (fun _ => none) only here (fun b u z => nomatch z) (fun b z => absurd rfl z) (fun z => absurd rfl z)
      KX hns hb hbb hlim hg ha hr F hbind (hsp _ only here) (hCX _)
  | none =>
    let H : Hp := fun b => if b = a then some (.frz { cls := .type "list", data := .seq vs.toArray } (.lst (ns.map V.int))) else none
    have Ha : H a = some (.frz { cls := .type "list", data := .seq vs.toArray } (.lst (ns.map V.int))) := if_pos rfl
    have Hn : ∀ {b : Addr}, b ≠ a → H b = none := fun z => if_neg z
    have only : Only H := by
      intro b
      by_cases eb : b = a
      · right
        subst eb
        exact ⟨_, _, Ha⟩
      · left
        exact Hn eb
    have here : SqL K H a (ns.map V.int) := .inl (.inr ⟨_, Ha⟩)
    refine begun H only here ?_ ?_ (fun _ => hk) KX hns hb hbb hlim hg ha hr F hbind (hsp _ only here) (hCX _)
    · intro b u z
      by_cases eb : b = a
      · subst eb
        rw [Ha] at z
        cases z
        exact ⟨ha, by rw [List.length_map]; exact hl, vs, _, rv, ha⟩
      · rw [Hn eb] at z
        cases z
    · intro b z
      by_cases eb : b = a
      · exact eb
      · exact absurd (Hn eb) z
end

theorem walkG {l : PySem.W.OpenLaw} {m n : Nat} {q : Program} {loose : List Str} {XP : (Str → Option Value) → Heap → Prop}
    {YP : World → Heap → Prop} {d : DefRec} {K : Params → PySem.W.Frag} {sp : PySem.W.Frag → Sp} {x : Str}
    (hn : l.most = some m) (hm : m ≤ sizeLine) (hdf : d.params.defaults = []) (hr : Room n callerA)
    (hY : ∀ (w : World) (h : Heap), YP w h → (K w.params).In h)
    (F : ∀ (w : World) (mg : Str → Option Value) (fa : Addr) (h : Heap), (K w.params).In h → h.Ns mainGlobals mg →
      mg d.name = some (.ref fa) → ∃ fd : FuncData, (∀ (s : Shared) (u : Value), BindsTo s fd ⟨[u], []⟩ [(x, u)]) ∧
        ∀ base : Heap, (K w.params).In base → base.Ns mainGlobals mg →
          FnG l.prog w (K w.params) mg base CX0 n fa fd [x] (sp (K w.params)))
    (hsp : ∀ (K : PySem.W.Frag) (H : Hp) (a : Addr) (ns : List Int), ns.length ≤ m →
      (∀ z ∈ ns, Builtin.Int.intBits z ≤ 1048576) → Only H → SqL K H a (ns.map V.int) →
      sp K [.ref a] H (fun v _ => v = .bl true) fun _ _ _ => False) :
    PySem.W.WalkO q loose XP YP l.row.toRowW d [] (fun f vs => PySem.call f vs) := by
  refine Att.attach_callB hn hdf ?_
  intro w s0 s1 mg mb fa o pm cd dc a vs ns G Y ho hd hcd hmg hobj hints hlen hbits hg
  have KX := hY w _ Y
  obtain ⟨fd, hb, hF⟩ := F w mg fa _ KX G.T.g hmg
  exact law_callG KX G.T.g G.T.b G.T.builtins G.T.nolimit hg hobj hints (Nat.le_trans hlen hm) hr hF hb
    (fun H only hS => hsp _ H a ns hlen hbits only hS) fun H e s' z => z.elim
end Gd
end

section
set_option Elab.async false
set_option linter.all false
set_option maxRecDepth 100000
set_option maxHeartbeats 4000000
/-! repr of data, the reading of a promise that is free of texts under way. -/
namespace Gd
open PySem PySem.Spec PyProof.Rows L2

section
variable {K : PySem.W.Frag} {H : Hp}
mutual
theorem Dp.plain : ∀ (d : PyData) {v : V}, Dp K H v d → d.hasDict = false
  | .none, _, _ => by simp only [PyData.hasDict]
  | .bool _, _, _ => by simp only [PyData.hasDict]
  | .int _, _, _ => by simp only [PyData.hasDict]
  | .str _, _, _ => by simp only [PyData.hasDict]
  | .list ds, _, h => by
    cases h with
    | lst _ k =>
      simp only [PyData.hasDict]
      exact DpAll.plain ds k
  | .tuple ds, _, h => by
    cases h with
    | tup _ k =>
      simp only [PyData.hasDict]
      exact DpAll.plain ds k
  | .dict _, _, h => by cases h
theorem DpAll.plain : ∀ (ds : List PyData) {vs : List V}, DpAll K H vs ds → PyData.hasDictAll ds = false
  | [], _, _ => by simp only [PyData.hasDictAll]
  | d :: ds, _, h => by
    cases h with
    | cons a b =>
      simp only [PyData.hasDictAll, Dp.plain d a, DpAll.plain ds b, Bool.or_self]
end
end

/-- repr(x), x data -/
def rRepr (K : PySem.W.Frag) : List V → Hp → VK → Prop := fun xs H Q =>
  ∃ (x : V) (d : PyData), xs = [x] ∧ Dp K H x d ∧ d.showable = true ∧ d.shown.length ≤ sizeLine ∧ d.depth ≤ 60 ∧ Q (.str d.shown) H

section
variable {X : Cx}
theorem call_repr (g : Free X.A) (hu : X.A.units + 64 < cLine) : CallR X (.builtin "repr") (rRepr X.K) := by
  intro pins s σ H xs us Q I r h
  obtain ⟨x, d, rfl, hd, hs, hz, hdp, q⟩ := h
  obtain ⟨u, rfl, ru⟩ := r.one
  have pl := Dp.plain d hd
  obtain ⟨as, rd⟩ := Dp.reads I d x u hd ru
  have fin : ∀ (h' : Heap) (tk tk' : Nat), (∀ b o, s.heap.get? b = some o → h'.get? b = some o) →
      EP X pins σ Q (.str d.shown tk) { s with heap := h', toks := tk' } :=
    fun h' tk tk' k => ⟨.str d.shown, H, I.kept k, ⟨tk, rfl⟩, q⟩
  have fin0 : ∀ (tk tk' : Nat), EP X pins σ Q (.str d.shown tk) { s with toks := tk' } :=
    fun tk tk' => ⟨.str d.shown, H, I.tok tk', ⟨tk, rfl⟩, q⟩
  cases rd with
  | none => exact P.repr_of_none (fin0 _ _)
  | bool b => exact P.repr_of_bool (fin0 _ _)
  | int i t => exact P.repr_of_int (by simpa [PyData.showable] using hs) (fin0 _ _)
  | str z t => exact P.repr_of_str (fin0 _ _) hz
  | list h1 h2 h3 h4 =>
    exact repr_of_reads' (.list h1 h2 h3 h4) hs (PyData.noDict_hsm pl) g (by omega) (fun _ _ e => e) (fun h' u tk k => fin h' u tk k) hz
  | tuple h1 h2 h3 h4 =>
    exact repr_of_reads' (.tuple h1 h2 h3 h4) hs (PyData.noDict_hsm pl) g (by omega) (fun _ _ e => e) (fun h' u tk k => fin h' u tk k) hz
  | dict h1 h2 h3 h4 h5 => simp [PyData.hasDict] at pl
end
end Gd
end

section
set_option Elab.async false
set_option linter.all false
set_option maxRecDepth 100000
set_option maxHeartbeats 4000000
/-! What the laws draw from: a list of three numbers, of which each draw takes one more. -/
namespace Gd
open PySem PySem.Spec PyProof.Rows L2

/-- at p: what is left of a great number, the seed, how many were drawn, at most S -/
def Feed (H : Hp) (p : Addr) (S : Int) : Prop := ∃ g x s : Int, H p = some (.lst [.int g, .int x, .int s]) ∧ 0 ≤ s ∧ s ≤ S
theorem Feed.le {H : Hp} {p : Addr} {S T : Int} (h : Feed H p S) (l : S ≤ T) : Feed H p T := by
  obtain ⟨g, x, s, e, a, b⟩ := h
  exact ⟨g, x, s, e, a, by omega⟩
theorem Feed.here {H : Hp} {p : Addr} {S g x s : Int} (h0 : 0 ≤ s) (h : s ≤ S) : Feed (upd H p (.lst [.int g, .int x, .int s])) p S :=
  ⟨g, x, s, upd_same, h0, h⟩
theorem Feed.stays {H : Hp} {p q : Addr} {S : Int} {o : HO} (h : Feed H p S) (n : H q = none) : Feed (upd H q o) p S := by
  obtain ⟨g, x, s, e, a, b⟩ := h
  refine ⟨g, x, s, ?_, a, b⟩
  rw [upd_ne (ne_of_none e n)]
  exact e
/-- all is as it was, but at p -/
def Ex1 (p : Addr) (H H' : Hp) : Prop := ∀ a o, a ≠ p → H a = some o → H' a = some o
theorem Ex1.refl (p : Addr) (H : Hp) : Ex1 p H H := fun _ _ _ h => h
theorem Ex1.trans {p : Addr} {H H1 H2 : Hp} (a : Ex1 p H H1) (b : Ex1 p H1 H2) : Ex1 p H H2 := fun x o n h => b x o n (a x o n h)
theorem Ex1.at {p : Addr} {H : Hp} {o : HO} : Ex1 p H (upd H p o) := fun a u n e => by
  rw [upd_ne n]
  exact e
theorem Ex1.new {p q : Addr} {H : Hp} {o : HO} (n : H q = none) : Ex1 p H (upd H q o) := fun a u _ e => by
  rw [upd_ne (ne_of_none e n)]
  exact e

theorem Feed.lst {H : Hp} {p : Addr} {S : Int} (h : Feed H p S) : ∃ xs, H p = some (.lst xs) := by
  obtain ⟨g, x, s, e, _⟩ := h
  exact ⟨_, e⟩
theorem Feed.ne {H : Hp} {p q : Addr} {S : Int} (h : Feed H p S) (n : H q = none) : q ≠ p := fun z => by
  obtain ⟨xs, e⟩ := h.lst
  rw [z, e] at n
  cases n
def spTake : Sp := fun vs H Q _ => ∃ (p : Addr) (m S : Int), vs = [.ref p, .int m] ∧ Feed H p S ∧ 0 < m ∧ m < 1073741824 ∧
  S ≤ 1000000000 ∧ ∀ (r : Int) (H' : Hp), 0 ≤ r → r < m → Feed H' p (S + 1) → Ex1 p H H' → Q (.int r) H'

theorem fmod_in (a : Int) {b : Int} (h : 0 < b) : 0 ≤ a.fmod b ∧ a.fmod b < b :=
  ⟨Int.fmod_nonneg_of_pos a h, Int.fmod_lt_of_pos a h⟩
end Gd
end

section
set_option Elab.async false
set_option linter.all false
set_option maxRecDepth 100000
set_option maxHeartbeats 4000000
/-! Data: numbers, texts, truths, None, tuples of such. -/
namespace Gd
open PySem PySem.Spec PyProof.Rows L2

mutual
def tupOnly : PyData → Bool
  | .none => true
  | .bool _ => true
  | .int _ => true
  | .str _ => true
  | .tuple ds => decide (ds.length ≤ 1000) && tupOnlyAll ds
  | .list _ => false
  | .dict _ => false
def tupOnlyAll : List PyData → Bool
  | [] => true
  | d :: ds => tupOnly d && tupOnlyAll ds
end

/-- tuples stay -/
def Tups (K : PySem.W.Frag) (H H' : Hp) : Prop := ∀ a xs, SqT K H a xs → SqT K H' a xs
theorem Tups.refl {K : PySem.W.Frag} {H : Hp} : Tups K H H := fun _ _ h => h
theorem Tups.trans {K : PySem.W.Frag} {H H1 H2 : Hp} (a : Tups K H H1) (b : Tups K H1 H2) : Tups K H H2 := fun x y h => b x y (a x y h)
theorem Tups.upd_lst {K : PySem.W.Frag} {H : Hp} {D : Addr} {xs ys : List V} (e : H D = some (.lst xs)) : Tups K H (upd H D (.lst ys)) := by
  intro a zs h
  rcases h with (h | ⟨o, h⟩) | h
  · refine .inl (.inl ?_)
    rw [upd_ne (fun z => by rw [z, e] at h; cases h)]
    exact h
  · refine .inl (.inr ⟨o, ?_⟩)
    rw [upd_ne (fun z => by rw [z, e] at h; cases h)]
    exact h
  · exact .inr h
theorem Tups.of_same {K : PySem.W.Frag} {H H' : Hp} (s : Same H H') : Tups K H H' := by
  intro a zs h
  rcases h with (h | ⟨o, h⟩) | h
  · exact .inl (.inl (s _ _ h))
  · exact .inl (.inr ⟨o, s _ _ h⟩)
  · exact .inr h

theorem Tups.new {K : PySem.W.Frag} {H : Hp} {q : Addr} {o : HO} (n : H q = none) : Tups K H (upd H q o) :=
  .of_same fun b u e => by
    rw [upd_ne (ne_of_none e n)]
    exact e
theorem Ex1.tups {K : PySem.W.Frag} {H H' : Hp} {p : Addr} {xs : List V} (x : Ex1 p H H') (e : H p = some (.lst xs)) : Tups K H H' := by
  intro a zs h
  rcases h with (h | ⟨o, h⟩) | h
  · exact .inl (.inl (x _ _ (fun z => by rw [z, e] at h; cases h) h))
  · exact .inl (.inr ⟨o, x _ _ (fun z => by rw [z, e] at h; cases h) h⟩)
  · exact .inr h
section
variable {K : PySem.W.Frag} {H H' : Hp}
mutual
theorem Dp.tups (t : Tups K H H') : ∀ (d : PyData) {v : V}, tupOnly d = true → Dp K H v d → Dp K H' v d
  | .none, _, _, h => by cases h; exact .non
  | .bool _, _, _, h => by cases h; exact .bl _
  | .int _, _, _, h => by cases h; exact .int _
  | .str _, _, _, h => by cases h; exact .str _
  | .tuple ds, _, o, h => by
    cases h with
    | tup a b =>
      simp only [tupOnly, Bool.and_eq_true] at o
      exact .tup (t _ _ a) (DpAll.tups t ds o.2 b)
  | .list _, _, o, _ => by simp [tupOnly] at o
  | .dict _, _, _, h => by cases h
theorem DpAll.tups (t : Tups K H H') : ∀ (ds : List PyData) {vs : List V}, tupOnlyAll ds = true → DpAll K H vs ds → DpAll K H' vs ds
  | [], _, _, h => by cases h; exact .nil
  | d :: ds, _, o, h => by
    simp only [tupOnlyAll, Bool.and_eq_true] at o
    cases h with
    | cons a b => exact .cons (Dp.tups t d o.1 a) (DpAll.tups t ds o.2 b)
end
mutual
theorem Dp.same (s : Same H H') : ∀ (d : PyData) {v : V}, Dp K H v d → Dp K H' v d
  | .none, _, h => by cases h; exact .non
  | .bool _, _, h => by cases h; exact .bl _
  | .int _, _, h => by cases h; exact .int _
  | .str _, _, h => by cases h; exact .str _
  | .tuple ds, _, h => by
    cases h with
    | tup a b => exact .tup (Tups.of_same s _ _ a) (DpAll.same s ds b)
  | .list ds, _, h => by
    cases h with
    | lst a b => exact .lst (s.seq a) (DpAll.same s ds b)
  | .dict _, _, h => by cases h
theorem DpAll.same (s : Same H H') : ∀ (ds : List PyData) {vs : List V}, DpAll K H vs ds → DpAll K H' vs ds
  | [], _, h => by cases h; exact .nil
  | d :: ds, _, h => by
    cases h with
    | cons a b => exact .cons (Dp.same s d a) (DpAll.same s ds b)
end
theorem DpAll.len : ∀ {vs : List V} {ds : List PyData}, DpAll K H vs ds → vs.length = ds.length
  | _, _, .nil => rfl
  | _, _, .cons _ b => congrArg (· + 1) (DpAll.len b)
theorem DpAll.at_ : ∀ {vs : List V} {ds : List PyData} {i : Nat} {v : V}, DpAll K H vs ds → vs[i]? = some v → ∃ d, ds[i]? = some d ∧ Dp K H v d
  | _, _, _, _, .nil, e => by simp at e
  | _, _, 0, _, .cons a _, e => by
    cases Option.some.inj e
    exact ⟨_, rfl, a⟩
  | _, _, i + 1, _, .cons _ b, e => DpAll.at_ (i := i) b e
theorem DpAll.snoc : ∀ {vs : List V} {ds : List PyData} {v : V} {d : PyData}, DpAll K H vs ds → Dp K H v d → DpAll K H (vs ++ [v]) (ds ++ [d])
  | _, _, _, _, .nil, h => .cons h .nil
  | _, _, _, _, .cons a b, h => .cons a (DpAll.snoc b h)
theorem tupOnlyAll_at : ∀ {ds : List PyData} {i : Nat} {d : PyData}, tupOnlyAll ds = true → ds[i]? = some d → tupOnly d = true
  | [], _, _, _, e => by simp at e
  | x :: r, 0, d, o, e => by
    simp only [tupOnlyAll, Bool.and_eq_true] at o
    cases Option.some.inj e
    exact o.1
  | x :: r, i + 1, d, o, e => by
    simp only [tupOnlyAll, Bool.and_eq_true] at o
    exact tupOnlyAll_at (i := i) o.2 e
theorem tupOnlyAll_take : ∀ {ds : List PyData}, tupOnlyAll ds = true → ∀ i : Nat, tupOnlyAll (ds.take i) = true
  | [], _, i => by rw [List.take_nil] <;> rfl
  | x :: r, o, 0 => rfl
  | x :: r, o, i + 1 => by
    simp only [tupOnlyAll, Bool.and_eq_true] at o
    simp only [List.take_succ_cons, tupOnlyAll, Bool.and_eq_true]
    exact ⟨o.1, tupOnlyAll_take o.2 i⟩
theorem depth_at : ∀ {ds : List PyData} {i : Nat} {d : PyData}, ds[i]? = some d → d.depth ≤ PyData.depthAll ds
  | [], _, _, e => by simp at e
  | x :: r, 0, d, e => by
    cases Option.some.inj e
    simp only [PyData.depthAll]
    omega
  | x :: r, i + 1, d, e => by
    have h := depth_at (ds := r) (i := i) e
    simp only [PyData.depthAll]
    omega
end

/-- the built-in class of data -/
def kindN : PyData → String
  | .none => "NoneType"
  | .bool _ => "bool"
  | .int _ => "int"
  | .str _ => "str"
  | .list _ => "list"
  | .tuple _ => "tuple"
  | .dict _ => "dict"
theorem Dp.kind {K : PySem.W.Frag} {H : Hp} {v : V} {d : PyData} (h : Dp K H v d) (o : tupOnly d = true) : TyX K H v (.type (kindN d)) := by
  cases h with
  | non => exact .base .non
  | bl b => exact .base (.bl b)
  | int i => exact .base (.int i)
  | str x => exact .base (.str x)
  | lst _ _ => simp [tupOnly] at o
  | tup a _ =>
    rcases a with (a | ⟨z, a⟩) | ⟨z, its, n, a, c, _⟩
    · exact .base (.tup a)
    · exact .fTuple a
    · exact .kTuple a c
section
theorem kb0 : kitB "NoneType" "list" = some false ∧ kitB "NoneType" "tuple" = some false ∧ kitB "NoneType" "dict" = some false := by decide +kernel
theorem kb1 : kitB "bool" "list" = some false ∧ kitB "bool" "tuple" = some false ∧ kitB "bool" "dict" = some false := by decide +kernel
theorem kb2 : kitB "int" "list" = some false ∧ kitB "int" "tuple" = some false ∧ kitB "int" "dict" = some false := by decide +kernel
theorem kb3 : kitB "str" "list" = some false ∧ kitB "str" "tuple" = some false ∧ kitB "str" "dict" = some false := by decide +kernel
theorem kb4 : kitB "tuple" "list" = some false ∧ kitB "tuple" "tuple" = some true ∧ kitB "tuple" "dict" = some false := by decide +kernel
theorem kind_list {d : PyData} (o : tupOnly d = true) : kitB (kindN d) "list" = some false := by
  cases d with
  | none => exact kb0.1
  | bool b => exact kb1.1
  | int i => exact kb2.1
  | str x => exact kb3.1
  | tuple ds => exact kb4.1
  | list ds => simp [tupOnly] at o
  | dict ds => simp [tupOnly] at o
theorem kind_dict {d : PyData} (o : tupOnly d = true) : kitB (kindN d) "dict" = some false := by
  cases d with
  | none => exact kb0.2.2
  | bool b => exact kb1.2.2
  | int i => exact kb2.2.2
  | str x => exact kb3.2.2
  | tuple ds => exact kb4.2.2
  | list ds => simp [tupOnly] at o
  | dict ds => simp [tupOnly] at o
theorem kind_tuple {d : PyData} (o : tupOnly d = true) (n : ¬ ∃ ds, d = .tuple ds) : kitB (kindN d) "tuple" = some false := by
  cases d with
  | none => exact kb0.2.1
  | bool b => exact kb1.2.1
  | int i => exact kb2.2.1
  | str x => exact kb3.2.1
  | tuple ds => exact absurd ⟨ds, rfl⟩ n
  | list ds => simp [tupOnly] at o
  | dict ds => simp [tupOnly] at o
end
end Gd
end

section
set_option Elab.async false
set_option linter.all false
set_option maxRecDepth 100000
set_option maxHeartbeats 4000000
/-! Data with lists, and with two small dicts; what is not in it: the addresses of N. -/
namespace Gd
open PySem PySem.Spec PyProof.Rows L2

mutual
inductive Dd (K : PySem.W.Frag) (H : Hp) (N : Addr → Prop) : V → PyData → Prop
  | non : Dd K H N .non .none
  | bl (b : Bool) : Dd K H N (.bl b) (.bool b)
  | int (i : Int) : Dd K H N (.int i) (.int i)
  | str (x : Str) : Dd K H N (.str x) (.str x)
  | lst {a : Addr} {xs : List V} {ds : List PyData} : H a = some (.lst xs) → ¬ N a → a ≠ sysModules → DdAll K H N xs ds → Dd K H N (.ref a) (.list ds)
  | tup {a : Addr} {xs : List V} {ds : List PyData} : SqT K H a xs → DdAll K H N xs ds → Dd K H N (.ref a) (.tuple ds)
  | dct0 {a : Addr} : H a = some (.dK []) → ¬ N a → Dd K H N (.ref a) (.dict [])
  | dct1 {a : Addr} {x : Str} {i : Int} : H a = some (.dK [(Sum.inr x, .int i)]) → ¬ N a → Dd K H N (.ref a) (.dict [(.str x, .int i)])
inductive DdAll (K : PySem.W.Frag) (H : Hp) (N : Addr → Prop) : List V → List PyData → Prop
  | nil : DdAll K H N [] []
  | cons {v : V} {vs : List V} {d : PyData} {ds : List PyData} : Dd K H N v d → DdAll K H N vs ds → DdAll K H N (v :: vs) (d :: ds)
end

section
variable {K : PySem.W.Frag} {H H' : Hp} {N N' : Addr → Prop}
mutual
theorem Dd.stay (t : Tups K H H') (x : ∀ a o, ¬ N a → H a = some o → H' a = some o) (m : ∀ a, N' a → N a) : ∀ (d : PyData) {v : V}, Dd K H N v d → Dd K H' N' v d
  | .none, _, h => by cases h; exact .non
  | .bool _, _, h => by cases h; exact .bl _
  | .int _, _, h => by cases h; exact .int _
  | .str _, _, h => by cases h; exact .str _
  | .tuple ds, _, h => by
    cases h with
    | tup a b => exact .tup (t _ _ a) (DdAll.stay t x m ds b)
  | .list ds, _, h => by
    cases h with
    | lst a n g b => exact .lst (x _ _ n a) (fun z => n (m _ z)) g (DdAll.stay t x m ds b)
  | .dict ds, _, h => by
    cases h with
    | dct0 a n => exact .dct0 (x _ _ n a) (fun z => n (m _ z))
    | dct1 a n => exact .dct1 (x _ _ n a) (fun z => n (m _ z))
theorem DdAll.stay (t : Tups K H H') (x : ∀ a o, ¬ N a → H a = some o → H' a = some o) (m : ∀ a, N' a → N a) : ∀ (ds : List PyData) {vs : List V}, DdAll K H N vs ds → DdAll K H' N' vs ds
  | [], _, h => by cases h; exact .nil
  | d :: ds, _, h => by
    cases h with
    | cons a b => exact .cons (Dd.stay t x m d a) (DdAll.stay t x m ds b)
end
theorem Dd.same {v : V} {d : PyData} (s : Same H H') (h : Dd K H N v d) : Dd K H' N v d := Dd.stay (Tups.of_same s) (fun a o _ e => s a o e) (fun _ z => z) d h
theorem DdAll.same {vs : List V} {ds : List PyData} (s : Same H H') (h : DdAll K H N vs ds) : DdAll K H' N vs ds := DdAll.stay (Tups.of_same s) (fun a o _ e => s a o e) (fun _ z => z) ds h
theorem Dd.free {v : V} {d : PyData} (h : Dd K H N v d) : Dd K H (fun _ => False) v d := Dd.stay .refl (fun a o _ e => e) (fun _ z => z.elim) d h
theorem DdAll.free {vs : List V} {ds : List PyData} (h : DdAll K H N vs ds) : DdAll K H (fun _ => False) vs ds := DdAll.stay .refl (fun a o _ e => e) (fun _ z => z.elim) ds h
/-- behind a draw -/
theorem Dd.drawn {p : Addr} {ys : List V} {v : V} {d : PyData} (e : H p = some (.lst ys)) (x : Ex1 p H H') (h : Dd K H (· = p) v d) : Dd K H' (· = p) v d :=
  Dd.stay (x.tups e) (fun a o n q => x a o n q) (fun _ z => z) d h
theorem DdAll.drawn {p : Addr} {ys : List V} {vs : List V} {ds : List PyData} (e : H p = some (.lst ys)) (x : Ex1 p H H') (h : DdAll K H (· = p) vs ds) : DdAll K H' (· = p) vs ds :=
  DdAll.stay (x.tups e) (fun a o n q => x a o n q) (fun _ z => z) ds h
mutual
/-- what is new is not in it -/
theorem Dd.shun {q : Addr} (n : H q = none) : ∀ (d : PyData) {v : V}, Dd K H N v d → Dd K H (fun a => N a ∨ a = q) v d
  | .none, _, h => by cases h; exact .non
  | .bool _, _, h => by cases h; exact .bl _
  | .int _, _, h => by cases h; exact .int _
  | .str _, _, h => by cases h; exact .str _
  | .tuple ds, _, h => by
    cases h with
    | tup a b => exact .tup a (DdAll.shun n ds b)
  | .list ds, _, h => by
    cases h with
    | lst a m g b => exact .lst a (fun z => z.elim m (fun z => by rw [z, n] at a; cases a)) g (DdAll.shun n ds b)
  | .dict ds, _, h => by
    cases h with
    | dct0 a m => exact .dct0 a (fun z => z.elim m (fun z => by rw [z, n] at a; cases a))
    | dct1 a m => exact .dct1 a (fun z => z.elim m (fun z => by rw [z, n] at a; cases a))
theorem DdAll.shun {q : Addr} (n : H q = none) : ∀ (ds : List PyData) {vs : List V}, DdAll K H N vs ds → DdAll K H (fun a => N a ∨ a = q) vs ds
  | [], _, h => by cases h; exact .nil
  | d :: ds, _, h => by
    cases h with
    | cons a b => exact .cons (Dd.shun n d a) (DdAll.shun n ds b)
end
theorem DdAll.len : ∀ {vs : List V} {ds : List PyData}, DdAll K H N vs ds → vs.length = ds.length
  | _, _, .nil => rfl
  | _, _, .cons _ b => congrArg (· + 1) (DdAll.len b)
theorem DdAll.at_ : ∀ {vs : List V} {ds : List PyData} {i : Nat} {v : V}, DdAll K H N vs ds → vs[i]? = some v → ∃ d, ds[i]? = some d ∧ Dd K H N v d
  | _, _, _, _, .nil, e => by simp at e
  | _, _, 0, _, .cons a _, e => by
    cases Option.some.inj e
    exact ⟨_, rfl, a⟩
  | _, _, i + 1, _, .cons _ b, e => DdAll.at_ (i := i) b e
theorem DdAll.app : ∀ {vs us : List V} {ds es : List PyData}, DdAll K H N vs ds → DdAll K H N us es → DdAll K H N (vs ++ us) (ds ++ es)
  | _, _, _, _, .nil, h => h
  | _, _, _, _, .cons a b, h => .cons a (DdAll.app b h)
theorem DdAll.take : ∀ {vs : List V} {ds : List PyData}, DdAll K H N vs ds → ∀ i : Nat, DdAll K H N (vs.take i) (ds.take i)
  | _, _, .nil, i => by rw [List.take_nil, List.take_nil]; exact .nil
  | _, _, .cons _ _, 0 => .nil
  | _, _, .cons a b, i + 1 => .cons a (DdAll.take b i)
theorem DdAll.drop : ∀ {vs : List V} {ds : List PyData}, DdAll K H N vs ds → ∀ i : Nat, DdAll K H N (vs.drop i) (ds.drop i)
  | _, _, .nil, i => by rw [List.drop_nil, List.drop_nil]; exact .nil
  | _, _, .cons a b, 0 => .cons a b
  | _, _, .cons a b, i + 1 => DdAll.drop b i
theorem DdAll.rev : ∀ {vs : List V} {ds : List PyData}, DdAll K H N vs ds → DdAll K H N vs.reverse ds.reverse
  | _, _, .nil => .nil
  | _, _, .cons a b => by
    rw [List.reverse_cons, List.reverse_cons]
    exact DdAll.app (DdAll.rev b) (.cons a .nil)
mutual
theorem Dd.ofDp : ∀ (d : PyData) {v : V}, tupOnly d = true → Dp K H v d → Dd K H N v d
  | .none, _, _, h => by cases h; exact .non
  | .bool _, _, _, h => by cases h; exact .bl _
  | .int _, _, _, h => by cases h; exact .int _
  | .str _, _, _, h => by cases h; exact .str _
  | .tuple ds, _, o, h => by
    cases h with
    | tup a b =>
      simp only [tupOnly, Bool.and_eq_true] at o
      exact .tup a (DdAll.ofDp ds o.2 b)
  | .list _, _, o, _ => by simp [tupOnly] at o
  | .dict _, _, o, _ => by simp [tupOnly] at o
theorem DdAll.ofDp : ∀ (ds : List PyData) {vs : List V}, tupOnlyAll ds = true → DpAll K H vs ds → DdAll K H N vs ds
  | [], _, _, h => by cases h; exact .nil
  | d :: ds, _, o, h => by
    simp only [tupOnlyAll, Bool.and_eq_true] at o
    cases h with
    | cons a b => exact .cons (Dd.ofDp d o.1 a) (DdAll.ofDp ds o.2 b)
end
theorem Dd.kind {v : V} {d : PyData} (h : Dd K H N v d) : TyX K H v (.type (kindN d)) := by
  cases h with
  | non => exact .base .non
  | bl b => exact .base (.bl b)
  | int i => exact .base (.int i)
  | str x => exact .base (.str x)
  | lst e _ _ _ => exact .base (.lst e)
  | dct0 e _ => exact .base (.dK e)
  | dct1 e _ => exact .base (.dK e)
  | tup a _ =>
    rcases a with (a | ⟨z, a⟩) | ⟨z, its, n, a, c, _⟩
    · exact .base (.tup a)
    · exact .fTuple a
    · exact .kTuple a c
end
section
variable {X : Cx} {pins : List (Addr × Obj)} {σ : L2.St} {H : Hp} {s : Shared} {N : Addr → Prop}
theorem dk_reads (I : Inv X pins σ H s) {a : Addr} {kvs : List (Key × V)} (e : H a = some (.dK kvs)) :
    (a == sysModules) = false ∧ ∃ vs, KV kvs vs ∧ s.heap.DictOf (mixKind X.prog X.w) a vs := (I.hok a _ e).2
mutual
theorem Dd.reads (I : Inv X pins σ H s) : ∀ (d : PyData) (v : V) (u : Value), Dd X.K H N v d → RelV v u → ∃ as, Reads s.heap u d as ∧ sysModules ∉ as
  | .none, _, _, h, r => by
    cases h
    cases r
    exact ⟨[], .none, nofun⟩
  | .bool b, _, _, h, r => by
    cases h
    cases r
    exact ⟨[], .bool b, nofun⟩
  | .int i, _, _, h, r => by
    cases h
    obtain ⟨t, rfl⟩ := r
    exact ⟨[], .int i t, nofun⟩
  | .str x, _, _, h, r => by
    cases h
    obtain ⟨t, rfl⟩ := r
    exact ⟨[], .str x t, nofun⟩
  | .list ds, _, _, h, r => by
    cases h with
    | lst hs _ g ha =>
      cases r
      obtain ⟨its, rv, pl, _⟩ := I.list (SqL.of hs)
      obtain ⟨o, n, ho, hc, _, hd⟩ := pl
      obtain ⟨as, hr, hn⟩ := Dd.readsAll I ds _ its ha rv
      refine ⟨_, .list ho hc hd hr, fun m => ?_⟩
      rcases List.mem_cons.mp m with m | m
      · exact g m.symm
      · exact hn m
  | .tuple ds, _, _, h, r => by
    cases h with
    | tup hs ha =>
      cases r
      obtain ⟨its, rv, pl, _⟩ := I.tuple hs
      obtain ⟨o, ho, hc, n, hd⟩ := pl
      obtain ⟨as, hr, hn⟩ := Dd.readsAll I ds _ its ha rv
      exact ⟨as, .tuple ho hc hd hr, hn⟩
  | .dict ds, _, _, h, r => by
    cases h with
    | dct0 e _ =>
      cases r
      obtain ⟨g, vs, kv, o, es, ep, ho, ex, hd, ks, ps, _⟩ := dk_reads I e
      cases kv
      cases hes : es.toList with
      | nil =>
        refine ⟨_, .dict (as := []) (bs := []) ho ex.1 hd ?_ ?_, fun m => ?_⟩
        · rw [hes]; exact .nil
        · rw [hes]; exact .nil
        · rcases List.mem_cons.mp m with m | m
          · rw [← m] at g
            simp at g
          · cases m
      | cons z zs =>
        rw [hes] at ps
        cases ps
    | @dct1 a x i e _ =>
      cases r
      obtain ⟨g, vs, kv, o, es, ep, ho, ex, hd, ks, ps, _⟩ := dk_reads I e
      cases kv with
      | @cons _ q _ _ r0 rest =>
      cases rest
      obtain ⟨qk, qv⟩ := q
      obtain ⟨rk, t, rv⟩ := r0
      dsimp only at rk rv
      subst rk rv
      cases hes : es.toList with
      | nil =>
        rw [hes] at ps
        cases ps
      | cons z zs =>
        rw [hes] at ps
        cases ps with
        | cons p1 p2 p3 =>
        cases p3
        obtain ⟨tk, ek⟩ : ∃ tk, z.key = .str x tk := by
          have p1 : keyIs (Sum.inr x) z.key = true := p1
          rcases keyIs_shape p1 with ⟨i, t, h1, h2⟩ | ⟨y, t, h1, h2⟩
          · cases h1
          · cases h1
            exact ⟨t, h2⟩
        refine ⟨_, .dict (as := [] ++ []) (bs := [] ++ []) ho ex.1 hd ?_ ?_, fun m => ?_⟩
        · rw [hes]
          show ReadsAll s.heap [z.key] [.str x] _
          rw [ek]
          exact .cons (.str x tk) .nil
        · rw [hes]
          show ReadsAll s.heap [z.val] [.int i] _
          rw [p2]
          exact .cons (.int i t) .nil
        · rcases List.mem_cons.mp m with m | m
          · rw [← m] at g
            simp at g
          · cases m
theorem Dd.readsAll (I : Inv X pins σ H s) : ∀ (ds : List PyData) (vs : List V) (us : List Value), DdAll X.K H N vs ds → Vals vs us → ∃ as, ReadsAll s.heap us ds as ∧ sysModules ∉ as
  | [], _, _, h, r => by
    cases h
    cases r
    exact ⟨[], .nil, nofun⟩
  | d :: ds, _, _, h, r => by
    cases h with
    | cons h1 h2 =>
      cases r with
      | cons r1 r2 =>
        obtain ⟨as, q1, n1⟩ := Dd.reads I d _ _ h1 r1
        obtain ⟨bs, q2, n2⟩ := Dd.readsAll I ds _ _ h2 r2
        exact ⟨as ++ bs, .cons q1 q2, fun m => (List.mem_append.mp m).elim n1 n2⟩
end
/-- repr(x), x such data -/
def rReprD (K : PySem.W.Frag) : List V → Hp → VK → Prop := fun xs H Q =>
  ∃ (x : V) (d : PyData) (N : Addr → Prop), xs = [x] ∧ Dd K H N x d ∧ d.showable = true ∧ d.shown.length ≤ sizeLine ∧ d.depth ≤ 60 ∧ Q (.str d.shown) H
theorem call_reprD (g : Free X.A) (hu : X.A.units + 64 < cLine) : CallR X (.builtin "repr") (rReprD X.K) := by
  intro pins s σ H xs us Q I r h
  obtain ⟨x, d, N, rfl, hd, hs, hz, hdp, q⟩ := h
  obtain ⟨u, rfl, ru⟩ := r.one
  obtain ⟨as, rd, hn⟩ := Dd.reads I d x u hd ru
  have fin : ∀ (h' : Heap) (tk tk' : Nat), (∀ b o, s.heap.get? b = some o → h'.get? b = some o) →
      EP X pins σ Q (.str d.shown tk) { s with heap := h', toks := tk' } :=
    fun h' tk tk' k => ⟨.str d.shown, H, I.kept k, ⟨tk, rfl⟩, q⟩
  have fin0 : ∀ (tk tk' : Nat), EP X pins σ Q (.str d.shown tk) { s with toks := tk' } :=
    fun tk tk' => ⟨.str d.shown, H, I.tok tk', ⟨tk, rfl⟩, q⟩
  cases rd with
  | none => exact P.repr_of_none (fin0 _ _)
  | bool b => exact P.repr_of_bool (fin0 _ _)
  | int i t => exact P.repr_of_int (by simpa [PyData.showable] using hs) (fin0 _ _)
  | str z t => exact P.repr_of_str (fin0 _ _) hz
  | list h1 h2 h3 h4 =>
    exact repr_of_reads' (.list h1 h2 h3 h4) hs (fun _ => hn) g (by omega) (fun _ _ e => e) (fun h' u tk k => fin h' u tk k) hz
  | tuple h1 h2 h3 h4 =>
    exact repr_of_reads' (.tuple h1 h2 h3 h4) hs (fun _ => hn) g (by omega) (fun _ _ e => e) (fun h' u tk k => fin h' u tk k) hz
  | dict h1 h2 h3 h4 h5 =>
    exact repr_of_reads' (.dict h1 h2 h3 h4 h5) hs (fun _ => hn) g (by omega) (fun _ _ e => e) (fun h' u tk k => fin h' u tk k) hz
end
end Gd
end

section
set_option Elab.async false
set_option linter.all false
set_option maxRecDepth 100000
set_option maxHeartbeats 4000000
namespace Gd
open PySem PySem.Spec PyProof.Rows L2

section
variable {X : Cx}
/-- the address of a new object is none of the interpreter's own -/
theorem new_no {pins : List (Addr × Obj)} {σ : L2.St} {H : Hp} {s : Shared} (I : Inv X pins σ H s) : s.heap.objs.size ≠ sysModules := Nat.ne_of_gt I.big
def tLstS (t : TA) : TE := fun σ H Q => t σ H fun xs H1 => xs.length ≤ sizeLine ∧ ∀ p, H1 p = none → p ≠ sysModules → Q (.ref p) (upd H1 p (.lst xs))
theorem pe_lstS {es : List Expr} {pos : Pos} {t : TA} (h : PA X es t) : PE X (.List es pos) (tLstS t) := by
  constructor
  intro pins s σ H Q I hq
  refine wpAny_List_spliced (thn (h.run pos pins s σ H _ I hq) ?_)
  rintro us s1 ⟨xs, H1, J, r, z, q⟩
  have hn : H1 s1.heap.objs.size = none := J.hok.fresh (Nat.le_refl _)
  have J2 := J.laid (a := s1.heap.objs.size) (o := .lst xs) (h' := s1.heap.push { cls := .type "list", data := .seq us.toArray }) (t' := s1.toks)
    (fun b u e => Heap.get?_push_of_some _ e) (Nat.le_refl _) ⟨z, us, 0, r, Heap.get?_push_size _ rfl⟩
  exact ⟨by rw [← r.length]; exact z, .ref s1.heap.objs.size, _, J2, rfl, q _ hn (new_no J)⟩
theorem call_listS : CallR X (.type "list") (fun xs H Q => ∃ p ys, xs = [.ref p] ∧ SqT X.K H p ys ∧ ∀ l, H l = none → l ≠ sysModules → Q (.ref l) (upd H l (.lst ys))) := by
  intro pins s σ H xs us Q I r h
  obtain ⟨p, ys, rfl, hq, q⟩ := h
  obtain ⟨u, rfl, rx⟩ := r.one
  cases rx
  obtain ⟨its, r', pl, hz⟩ := I.tuple hq
  have hlen := r'.length
  obtain ⟨o, ho, hc, n, hd⟩ := pl
  refine call_list_seq p (.inr rfl) ho hc hd ?_ (by simp only [List.size_toArray] <;> omega)
  intro h' c' kp e
  have J := I.laid (a := s.heap.objs.size) (o := .lst ys) (t' := s.toks) kp (Nat.le_refl _) ⟨hz, its, c', r', e⟩
  exact ⟨.ref s.heap.objs.size, _, J, rfl, q _ (I.hok.fresh (Nat.le_refl _)) (new_no I)⟩

/-! truths as numbers -/
theorem op_add_bi : OpR X (binaryOp .Add) (fun x y H Q => ∃ k i, x = .bl k ∧ y = .int i ∧ Q (.int ((if k = true then 1 else 0) + i)) H) := by
  intro pins s σ H x y v u Q I rx ry h
  obtain ⟨k, i, rfl, rfl, q⟩ := h
  obtain ⟨t, rfl⟩ := ry
  cases rx
  exact IntBool.add_bool_int ⟨.int ((if k = true then 1 else 0) + i), H, I.tok _, ⟨_, rfl⟩, q⟩
theorem op_sub_ib : OpR X (binaryOp .Sub) (fun x y H Q => ∃ i k, x = .int i ∧ y = .bl k ∧ Q (.int (i - (if k = true then 1 else 0))) H) := by
  intro pins s σ H x y v u Q I rx ry h
  obtain ⟨i, k, rfl, rfl, q⟩ := h
  obtain ⟨t, rfl⟩ := rx
  cases ry
  exact IntBool.sub_int_bool ⟨.int (i - (if k = true then 1 else 0)), H, I.tok _, ⟨_, rfl⟩, q⟩
theorem call_str_bool : CallR X (.type "str") (fun xs H Q => ∃ b, xs = [.bl b] ∧ Q (.str (if b then "True" else "False")) H) := by
  intro pins s σ H xs us Q I r h
  obtain ⟨b, rfl, q⟩ := h
  obtain ⟨u, rfl, rx⟩ := r.one
  cases rx
  exact PySem.P.str_of_bool ⟨.str (if b then "True" else "False"), H, I.tok _, ⟨_, rfl⟩, q⟩
end

/-! a dict is no text -/
section
variable {A : Around} {s : Shared} {P : Program} {w : World}
theorem dict_declines (d : Addr) (b : Str) (u : Tok) :
    Meets (Builtin.«dict.__eq__» ⟨[.ref d, .str b u], []⟩) (fun _ R s => s.TypeIs (.ref d) "dict" ∧ R (.ok (.ret .notImplemented)) s) :=
  .of_wp fun prog w A R s h => by
    obtain ⟨hd, h⟩ := h
    show wpAny _ _ (Builtin.Dict.dictSlotArgs "__eq__" ⟨[.ref d, .str b u], []⟩ >>= _) _ _ s
    refine wpAny_bind ?_
    unfold Builtin.Dict.dictSlotArgs
    refine wpAny_bind (wpAny_notOrdered_dict hd ?_)
    refine wpAny_pure ?_
    refine wpAny_bind (wpAny_isInstance (T := "str") (typeIs_str s b u) PySem.F.sub_str_dict ?_)
    simp only [Bool.not_false, if_true]
    exact wpAny_bind (wpAny_rule (wpAny_pure ⟨_, rfl, h⟩))
theorem str_declines (d : Addr) (es : Array DictEntry) (ep : Nat) (b : Str) (u : Tok) :
    Meets (Builtin.«str.__eq__» ⟨[.str b u, .ref d], []⟩)
      (fun _ R s => s.heap.get? d = some { cls := .type "dict", dict := none, data := .dict es ep, slots := #[] } ∧ R (.ok (.ret .notImplemented)) s) :=
  .of_wp fun prog w A R s h => by
    obtain ⟨hp, g, d, tk, os⟩ := s
    obtain ⟨hd, h⟩ := h
    wp_walk using wpAny_load hd
    exact ⟨_, rfl, h⟩
variable {d : Addr} {es : Array DictEntry} {ep : Nat}
theorem rc_dict_str (b : Str) (u : Tok) (ho : s.heap.get? d = some { cls := .type "dict", dict := none, data := .dict es ep, slots := #[] }) (hu : A.units < cLine) :
    SeqAt.RcAt A s (.ref d) (.str b u) false := fun prog w E Q h =>
  SeqAt.rc_eq_decline_or (k := false) ⟨_, ho, rfl⟩ (typeIs_str s b u) (by decide) PySem.F.sub_str_dict PySem.F.slot_dict_eq PySem.F.slot_str_eq_refl
    (fun _ hq => call_meets PySem.F.slot_dict_eq ⟨_, ho, rfl⟩ PySem.F.entry_dict_eq (PySem.F.args_dict_eq_2 _ _) (dict_declines d b u) ⟨⟨_, ho, rfl⟩, hq⟩)
    (fun _ hq => call_meets PySem.F.slot_str_eq_refl (typeIs_str s b u) PySem.F.entry_str_eq (PySem.F.args_str_eq_2 _ _) (str_declines d es ep b u) ⟨ho, hq⟩)
    (fun _ hq => wpAny_of_eq (rfl : isSame (.ref d) (.str b u) = pure false) hq) (.inr hu) h
theorem rc_str_dict (b : Str) (u : Tok) (ho : s.heap.get? d = some { cls := .type "dict", dict := none, data := .dict es ep, slots := #[] }) (hu : A.units < cLine) :
    SeqAt.RcAt A s (.str b u) (.ref d) false := fun prog w E Q h =>
  SeqAt.rc_eq_decline_or (k := false) (typeIs_str s b u) ⟨_, ho, rfl⟩ (by decide) PySem.F.sub_dict_str PySem.F.slot_str_eq PySem.F.slot_dict_eq_refl
    (fun _ hq => call_meets PySem.F.slot_str_eq (typeIs_str s b u) PySem.F.entry_str_eq (PySem.F.args_str_eq_2 _ _) (str_declines d es ep b u) ⟨ho, hq⟩)
    (fun _ hq => call_meets PySem.F.slot_dict_eq_refl ⟨_, ho, rfl⟩ PySem.F.entry_dict_eq (PySem.F.args_dict_eq_2 _ _) (dict_declines d b u) ⟨⟨_, ho, rfl⟩, hq⟩)
    (fun _ hq => wpAny_of_eq (rfl : isSame (.str b u) (.ref d) = pure false) hq) (.inr hu) h
theorem eq_str_dict (b : Str) (u : Tok) (ho : s.heap.get? d = some { cls := .type "dict", dict := none, data := .dict es ep, slots := #[] }) (hu : A.units < cLine) :
    SeqAt.EqAt A s (.str b u) (.ref d) false := fun prog w E Q h => by
  unfold eqBool
  refine wpAny_holding (wpAny_ite_split (fun q => absurd (eq_of_beq q) nofun) (fun _ => ?_))
  exact wpAny_bind (rc_str_dict b u ho hu prog w E _ (wpAny_truthy_bool h))
end

/-! data beside a text -/
def isStr (d : PyData) (b : Str) : Bool := match d with
  | .str x => x == b
  | _ => false
section
variable {X : Cx} {pins : List (Addr × Obj)} {σ : L2.St} {H : Hp} {s : Shared} {N : Addr → Prop} {A : Around}
theorem Dd.dictAt (I : Inv X pins σ H s) {v : V} {u : Value} {ks : List (PyData × PyData)} (h : Dd X.K H N v (.dict ks)) (r : RelV v u) :
    ∃ d es ep, u = .ref d ∧ s.heap.get? d = some { cls := .type "dict", dict := none, data := .dict es ep, slots := #[] } := by
  have key : ∀ {a : Addr} {kvs : List (Key × V)}, H a = some (.dK kvs) → ∃ es ep, s.heap.get? a = some { cls := .type "dict", dict := none, data := .dict es ep, slots := #[] } := by
    intro a kvs e
    obtain ⟨_, vs, _, o, es, ep, ho, ⟨e1, e2, e3⟩, hd, _⟩ := dk_reads I e
    obtain ⟨oc, od, dt, sl⟩ := o
    dsimp only at e1 e2 e3 hd
    subst e1 e2 e3 hd
    exact ⟨es, ep, ho⟩
  cases h with
  | dct0 e _ =>
    cases r
    obtain ⟨es, ep, ho⟩ := key e
    exact ⟨_, es, ep, rfl, ho⟩
  | dct1 e _ =>
    cases r
    obtain ⟨es, ep, ho⟩ := key e
    exact ⟨_, es, ep, rfl, ho⟩
theorem Dd.strEq (I : Inv X pins σ H s) (hu : A.units < cLine) {d : PyData} {v : V} {u : Value} (h : Dd X.K H N v d) (r : RelV v u) (b : Str) (t : Tok) :
    SeqAt.EqAt A s (.str b t) u (isStr d b) := by
  cases d with
  | none =>
    cases h
    cases r
    exact .str_none b t
  | bool k =>
    cases h
    cases r
    exact .str_bool b t k
  | int i =>
    cases h
    obtain ⟨t2, rfl⟩ := r
    exact .str_int b t i t2
  | str x =>
    cases h
    obtain ⟨t2, rfl⟩ := r
    have e := SeqAt.EqAt.str_str (A := A) (s := s) b t x t2
    have e2 : isStr (.str x) b = (b == x) := by
      show (x == b) = (b == x)
      exact Bool.eq_iff_iff.mpr ⟨fun z => by rw [eq_of_beq z] <;> exact beq_self_eq_true _, fun z => by rw [eq_of_beq z] <;> exact beq_self_eq_true _⟩
    rw [e2]
    exact e
  | list ds =>
    cases h with
    | lst e n g k =>
    cases r
    obtain ⟨its, _, pl, _⟩ := I.list (SqL.of e)
    exact .str_list b t pl.isList hu
  | tuple ds =>
    cases h with
    | tup e k =>
    cases r
    obtain ⟨its, _, pl, _⟩ := I.tuple e
    exact .str_tuple b t pl hu
  | dict ks =>
    obtain ⟨a, es, ep, rfl, ho⟩ := Dd.dictAt I h r
    exact eq_str_dict b t ho hu
end
end Gd
end

section
set_option Elab.async false
set_option linter.all false
set_option maxRecDepth 100000
set_option maxHeartbeats 4000000
namespace Gd
open PySem PySem.Spec PyProof.Rows L2

section
variable {X : Cx}
/-- data == a text -/
def rEqS (K : PySem.W.Frag) : R2 := fun x y H Q => ∃ (N : Addr → Prop) (d : PyData) (b : Str), Dd K H N x d ∧ y = .str b ∧ Q (.bl (isStr d b)) H
theorem op_eqS (hu : X.A.units < cLine) : OpR X (compareOp .Eq) (rEqS X.K) := by
  intro pins s σ H x y v u Q I rx ry h
  obtain ⟨N, d, b, h, rfl, q⟩ := h
  obtain ⟨t, rfl⟩ := ry
  have fin : EP X pins σ Q (.bool (isStr d b)) s := ⟨.bl _, H, I, rfl, q⟩
  cases d with
  | none =>
    cases h
    cases rx
    exact SeqAt.RcAt.none_str b t _ _ _ _ fin
  | bool k =>
    cases h
    cases rx
    exact SeqAt.RcAt.bool_str k b t _ _ _ _ fin
  | int i =>
    cases h
    obtain ⟨t2, rfl⟩ := rx
    exact SeqAt.RcAt.int_str i t2 b t _ _ _ _ fin
  | str z =>
    cases h
    obtain ⟨t2, rfl⟩ := rx
    exact SeqAt.RcAt.str_str z t2 b t _ _ _ _ fin
  | list ds =>
    cases h with
    | lst e n g k =>
    cases rx
    obtain ⟨its, _, pl, _⟩ := I.list (SqL.of e)
    exact SeqAt.RcAt.list_str b t pl.isList hu _ _ _ _ fin
  | tuple ds =>
    cases h with
    | tup e k =>
    cases rx
    obtain ⟨its, _, pl, _⟩ := I.tuple e
    exact SeqAt.RcAt.tuple_str b t pl hu _ _ _ _ fin
  | dict ks =>
    obtain ⟨a, es, ep, rfl, ho⟩ := Dd.dictAt I h rx
    exact rc_dict_str b t ho hu _ _ _ _ fin

/-- data not in a tuple of texts -/
def rNiS (K : PySem.W.Frag) : R2 := fun x y H Q => ∃ (N : Addr → Prop) (d : PyData) (p : Addr) (bs : List Str), Dd K H N x d ∧ y = .ref p ∧ SqT K H p (bs.map V.str) ∧ Q (.bl (!bs.any (isStr d))) H
def hitS (d : PyData) : Value → Bool
  | .str b _ => isStr d b
  | _ => false
theorem hits {d : PyData} : ∀ {bs : List Str} {us : List Value}, Vals (bs.map V.str) us → us.any (hitS d) = bs.any (isStr d) ∧ ∀ u ∈ us, ∃ b t, u = .str b t
  | [], _, h => by
    cases h
    exact ⟨rfl, nofun⟩
  | b :: bs, _, h => by
    cases h with
    | cons r rs =>
    obtain ⟨t, rfl⟩ := r
    obtain ⟨e, f⟩ := hits rs
    refine ⟨?_, fun u m => ?_⟩
    · rw [List.any_cons, List.any_cons, e]
      rfl
    · rcases List.mem_cons.mp m with rfl | m
      · exact ⟨b, t, rfl⟩
      · exact f u m
theorem op_notInS (hu : X.A.units + 1 < cLine) : OpR X (compareOp .NotIn) (rNiS X.K) := by
  intro pins s σ H x y v u Q I rx ry h
  obtain ⟨N, d, p, bs, hd, rfl, hp, q⟩ := h
  cases ry
  obtain ⟨its, r, pl, _⟩ := I.tuple hp
  obtain ⟨e, f⟩ := hits (d := d) r
  refine SeqAt.notIn_tupleAt (hitS d) pl (fun w hw => ?_) ⟨.bl _, H, I, rfl, ?_⟩
  · obtain ⟨b, t, rfl⟩ := f w (by simpa using hw)
    exact Dd.strEq I (by show X.A.units + 1 < cLine; exact hu) hd rx b t
  · rw [show its.toArray.any (hitS d) = its.any (hitS d) by simp, e]
    exact q
/-- a tuple == () -/
def rEqT0 (K : PySem.W.Frag) : R2 := fun x y H Q => ∃ a b xs, x = .ref a ∧ y = .ref b ∧ SqT K H a xs ∧ SqT K H b [] ∧ Q (.bl xs.isEmpty) H
theorem op_eqT0 (hu : X.A.units < cLine) : OpR X (compareOp .Eq) (rEqT0 X.K) := by
  intro pins s σ H x y v u Q I rx ry h
  obtain ⟨a, b, xs, rfl, rfl, ha, hb, q⟩ := h
  cases rx
  cases ry
  obtain ⟨its, r, pl, _⟩ := I.tuple ha
  obtain ⟨its2, r2, pl2, _⟩ := I.tuple hb
  cases r2
  have e : ((List.range (min its.toArray.size (#[] : Array Value).size)).all (fun _ => true) && its.toArray.size == (#[] : Array Value).size) = xs.isEmpty := by
    cases r with
    | nil => rfl
    | cons _ _ => simp
  refine SeqAt.RcAt.tuples (e := fun _ => true) pl pl2 hu (fun j _ h2 => absurd h2 (by simp)) _ _ _ _ ⟨.bl _, H, I, rfl, ?_⟩
  rw [e]
  exact q
end

/-! t[::-1] -/
section
variable {prog : Program} {w : World} {A : Around} {E : Value → Shared → Prop} {s : Shared}
theorem places_rev (n : Nat) : Builtin.Slice.slicePlaces ((n : Int) - 1) (-1) (-1) = n := by
  unfold Builtin.Slice.slicePlaces
  rw [if_neg (by decide)]
  split
  · rw [show (-(-1) : Int) = 1 by decide, Int.ediv_one]
    omega
  · omega
theorem pick_rev (xs : Array Value) : ((List.range xs.size).filterMap fun (k : Nat) => xs[(((xs.size : Int) - 1) + (k : Int) * (-1)).toNat]?).toArray = xs.toList.reverse.toArray := by
  have e : (List.range xs.size).filterMap (fun (k : Nat) => xs[(((xs.size : Int) - 1) + (k : Int) * (-1)).toNat]?) =
      ((List.range xs.size).map fun k => xs.size - 1 - k).filterMap (xs[·]?) := by
    rw [List.filterMap_map]
    refine congrArg (fun f => List.filterMap f (List.range xs.size)) (funext fun k => ?_)
    show xs[(((xs.size : Int) - 1) + (k : Int) * (-1)).toNat]? = xs[xs.size - 1 - k]?
    rw [show (((xs.size : Int) - 1) + (k : Int) * (-1)).toNat = xs.size - 1 - k by omega]
  rw [e, PySem.W.krv_range, List.filterMap_reverse, PySem.W.krv_all]
theorem applied_rev {sl : Addr} {vs : Value} {n : Nat} {Q : Int × Int × Nat → Shared → Prop} (hs : s.heap.IsSliceOf sl .none .none vs) (ps : IsPart vs (some (-1)))
    (h : Q ((n : Int) - 1, -1, n) s) : wpAny (model prog w) A (Builtin.Slice.sliceApplied (.ref sl) (pure (n : Int))) Q E s := by
  obtain ⟨os, hos, hcs, hds⟩ := id hs
  unfold Builtin.Slice.sliceApplied Builtin.Slice.sliceFields
  refine wpAny_bind (wpAny_bind (wpAny_field hos hds (x := .none) rfl ?_))
  refine wpAny_bind (wpAny_field hos hds (x := .none) rfl (wpAny_bind (wpAny_field hos hds (x := vs) rfl (wpAny_pure ?_))))
  refine wpAny_bind (HT.slicePart_ ps ?_)
  show wpAny _ _ (if ((-1 : Int) == 0) = true then _ else _) _ _ s
  rw [if_neg (by decide)]
  refine wpAny_bind (slicePart_none (wpAny_bind (slicePart_none (wpAny_bind (wpAny_pure ?_)))))
  show wpAny _ _ (pure ((n : Int) - 1, (-1 : Int), Builtin.Slice.slicePlaces ((n : Int) - 1) (-1) (-1))) _ _ s
  rw [places_rev]
  exact wpAny_pure h
theorem get_rev {t sl : Addr} {items : Array Value} {vs : Value} {Q : Value → Shared → Prop} (ht : IsTup s.heap t items) (hs : s.heap.IsSliceOf sl .none .none vs) (ps : IsPart vs (some (-1)))
    (h : Q (.ref s.heap.objs.size) { s with heap := s.heap.push { cls := .type "tuple", data := .seq items.toList.reverse.toArray } })
    (hz : items.size ≤ sizeLine) : wpAny (model prog w) A (getItem (.ref t) (.ref sl)) Q E s := by
  have ok : sizeOk (.seq items.toList.reverse.toArray) := by
    show items.toList.reverse.toArray.size ≤ sizeLine
    simpa using hz
  obtain ⟨os, hos, hcs, hds⟩ := id hs
  have hT : s.TypeIs (.ref sl) "slice" := ⟨os, hos, hcs⟩
  unfold getItem
  try with_reducible refine wpAny_holding ?_
  refine wpAny_bind (wpAny_sequenceKey ht.typeIs (by decide) ?_)
  refine wpAny_bind (wpAny_callSpecial?_slot (name := Str.ofString "__getitem__") ht.typeIs PyProof.Rows.slot_tuple_getitem
    (wpAny_call_entry PyProof.Rows.slot_tuple_getitem ht.typeIs entry_tuple_getitem ?_ (args_tuple_getitem _ _)))
  show wpAny _ _ (Builtin.Tuple.tupleItemsOf (.ref t) >>= _) _ _ s
  refine wpAny_bind (PyProof.Rows.tupleItemsOf_ ht (wpAny_bind (wpAny_typeOf hT ?_)))
  rw [if_pos (by decide)]
  refine wpAny_bind (applied_rev hs ps ?_)
  have no : ¬ ((((items.size : Int) - 1) == 0 && (-1 : Int) == 1 && items.size == items.size) = true) := by simp
  show wpAny _ _ (if (((items.size : Int) - 1) == 0 && (-1 : Int) == 1 && items.size == items.size) = true then _ else _) _ _ s
  rw [if_neg no, pick_rev]
  first
    | exact wpAny_bind (m := Builtin.Tuple.tupleExact _) (wpAny_newObj_type (wpAny_pure ⟨_, rfl, wpAny_pure h⟩) ok)
    | exact wpAny_bind (m := Builtin.Tuple.tupleExact _) (wpAny_newObj_type (wpAny_bind (wpAny_pure (wpAny_pure ⟨_, rfl, wpAny_pure h⟩))) ok)
    | exact wpAny_bind (wpAny_bind (m := Builtin.Tuple.tupleExact _) (wpAny_newObj_type (wpAny_pure (wpAny_pure ⟨_, rfl, wpAny_pure h⟩)) ok))
    | exact wpAny_bind (wpAny_bind (m := Builtin.Tuple.tupleExact _) (wpAny_newObj_type (wpAny_pure ⟨_, rfl, wpAny_pure h⟩) ok))
end
section
variable {X : Cx}
def tRevT (K : PySem.W.Frag) (te : TE) : TE := fun σ H Q => te σ H fun x H1 => ∃ a xs, x = .ref a ∧ SqT K H1 a xs ∧ ∀ p, H1 p = none → Q (.ref p) (upd H1 p (.tup xs.reverse))
theorem pe_revT {e : Expr} {te : TE} {k : Nat} {p1 p2 p3 pos : Pos} (he : PE X e te) :
    PE X (.Subscript e (.Slice none none (some (.UnaryOp .USub (.Constant (.int 1) k p1) p2)) p3) pos) (tRevT X.K te) := by
  constructor
  intro pins s σ H Q I h
  refine Subscript_ (thn (he.run pins s σ H _ I h) ?_)
  rintro v s1 ⟨x, H1, I1, r1, a, xs, rfl, hx, q⟩
  cases r1
  have hst : PO X (some (.UnaryOp .USub (.Constant (.int 1) k p1) p2)) (tPart (tUn (rU fun i => .int (-i)) (tC (.int 1)))) := po_some (pe_un un_neg pe_int)
  refine wpAny_Slice (thn (po_none.run pins s1 σ H1 (fun o H2 => o = none ∧ H2 = H1) I1 ⟨rfl, rfl⟩) ?_)
  rintro vl s2 ⟨l, H2, I2, pl, rfl, rfl⟩
  refine thn (po_none.run pins s2 σ H2 (fun o H3 => o = none ∧ H3 = H2) I2 ⟨rfl, rfl⟩) ?_
  rintro vu s3 ⟨u, H3, I3, pu, rfl, rfl⟩
  refine thn (hst.run pins s3 σ H3 (fun o H4 => o = some (-1) ∧ H4 = H3) I3 ⟨1, rfl, -1, rfl, rfl, rfl⟩) ?_
  rintro vs s4 ⟨o, H4, I4, ps, rfl, rfl⟩
  cases pl
  cases pu
  have J : Inv X pins σ H4 { s4 with heap := s4.heap.push { cls := .type "slice", data := .fields #[.none, .none, vs] } } := I4.kept (t' := s4.toks) fun b ob z => Heap.get?_push_of_some _ z
  obtain ⟨its, r, ht, hz⟩ := J.tuple hx
  have hlen := r.length
  refine tail_any (ops := [.ref a, .ref s4.heap.objs.size]) ht.typeIs (PyProof.Rows.slot_tuple_getitem.lookup) ?_ (by with_unfolding_all rfl)
  refine get_rev ht (Heap.IsSliceOf.new _ .none .none vs) ps ?_ (by rw [List.size_toArray]; omega)
  refine ⟨.ref _, _, J.laid (t' := s4.toks) (o := .tup xs.reverse) (fun b ob z => Heap.get?_push_of_some _ z) (Nat.le_refl _) ?_, rfl, q _ (J.hok.fresh (Nat.le_refl _))⟩
  exact ⟨by rw [List.length_reverse]; exact hz, _, r.reverse, IsTup.new _ _⟩
end
end Gd
end

section
set_option Elab.async false
set_option linter.all false
set_option maxRecDepth 100000
set_option maxHeartbeats 4000000
namespace K01
open PySem PySem.Spec PyProof.Rows L2 Gd
def topS (i : Nat) : Stmt := PySem.Challenge.pw_plansamid_k01_worths_and_parts_known.main.body.getD i (.Pass ⟨0, 0, 0, 0⟩)
abbrev sFeed : Stmt := topS 14
abbrev sTake : Stmt := topS 15
theorem scFeed : FnScope ["_law_script", "_law_k", "_law_cell", "_law_great"] ["_law_script", "_law_k"] (defScope sFeed) :=
  ⟨rfl, rfl, rfl, by decide +kernel, rfl, by decide +kernel, by decide +kernel⟩
theorem scTake : FnScope ["_law_feed_here", "_law_many", "_law_digit", "_law_many_so", "_law_mixed"] ["_law_feed_here", "_law_many"] (defScope sTake) :=
  ⟨rfl, rfl, rfl, by decide +kernel, rfl, by decide +kernel, by decide +kernel⟩
section
variable {P : Program} {w : World} {K : PySem.W.Frag} {mg : Str → Option Value} {base : Heap} {f : Addr} {fd : FuncData}
theorem ok_take (F : Fun K "_law_take" "_law_take" sTake f fd) : FnOk P w K mg base CX0 1 f fd ["_law_feed_here", "_law_many"] spTake := by
  refine F.ok scTake (fun vs H Q E h => ?_) (fun cdv A outer s H vs Q E hr h => ?_)
  · obtain ⟨p, m, S, rfl, _⟩ := h
    rfl
  obtain ⟨p, m, S, rfl, ⟨g, x, n, ep, n0, nS⟩, m0, m1, hS, q⟩ := h
  have nd := scTake.nd
  refine ⟨_, pss_cons (ps_if (pt_cmpR op_gt (pe_ix ix_list (pv 0) pe_int (fun _ _ => rfl)) pe_int (nomark _))
      (pss_cons (ps_set (i := 2) nd rfl (.inl rfl) (pe_op op_modN (pe_ix ix_list (pv 0) pe_int (fun _ _ => rfl)) (pv 1)))
      (pss_cons (ps_asg (pe_op op_fdivN (pe_ix ix_list (pv 0) pe_int (fun _ _ => rfl)) (pv 1)) (pg_sub (pv 0) pe_int set_list))
      (pss_one (ps_ret (pv 2))))) pss_nil)
    (pss_cons (ps_set (i := 3) nd rfl (.inl rfl) (pe_op op_add (pe_ix ix_list (pv 0) pe_int (fun _ _ => rfl)) pe_int))
    (pss_cons (ps_asg (pv 3) (pg_sub (pv 0) pe_int set_list))
    (pss_cons (ps_set (i := 4) nd rfl (.inl rfl) (pe_op op_modN (pe_op op_add (pe_op op_add (pe_ix ix_list (pv 0) pe_int (fun _ _ => rfl))
        (pe_op op_mul (pe_op op_mul pe_int (pv 3)) (pv 3))) (pe_op op_mul pe_int (pv 3))) pe_int))
    (pss_cons (ps_set (i := 4) nd rfl (.inl rfl) (pe_op op_modN (pe_op op_add (pe_op op_add (pe_op op_mul (pv 4) (pv 4))
        (pe_op op_mul pe_int (pv 4))) (pv 3)) pe_int))
    (pss_cons (ps_set (i := 4) nd rfl (.inl rfl) (pe_op op_modN (pe_op op_add (pe_op op_mul (pv 4) (pv 4)) (pe_op op_mul pe_int (pv 4))) pe_int))
    (pss_one (ps_ret (pe_op op_modN (pe_op op_fdivN (pv 4) pe_int) (pv 1))))))))), ?_⟩
  have L : SqL K H p [.int g, .int x, .int n] := SqL.of ep
  refine ⟨_, rfl, p, _, 0, .int g, rfl, rfl, L, atI_nat (j := 0) rfl, g, 0, rfl, rfl, _, rfl, ite2 (fun c => ?_) (fun c => ?_)⟩
  · refine ⟨_, rfl, p, _, 0, .int g, rfl, rfl, L, atI_nat (j := 0) rfl, _, rfl, g, m, rfl, rfl, by omega, ?_⟩
    refine ⟨_, rfl, p, _, 0, .int g, rfl, rfl, L, atI_nat (j := 0) rfl, _, rfl, g, m, rfl, rfl, ⟨by omega, by omega⟩, ?_⟩
    refine ⟨_, rfl, p, _, 0, 0, rfl, rfl, ep, rfl, ?_⟩
    refine ⟨_, rfl, ?_⟩
    obtain ⟨r0, r1⟩ := fmod_in g m0
    exact q _ _ r0 r1 (Feed.here (by omega) (by omega)) .at
  · refine ⟨_, rfl, p, _, 2, .int n, rfl, rfl, L, atI_nat (j := 2) rfl, n, 1, rfl, rfl, ?_⟩
    refine ⟨_, rfl, _, rfl, p, _, 2, 2, rfl, rfl, ep, rfl, ?_⟩
    have L2 : SqL K (upd H p (.lst [.int g, .int x, .int (n + 1)])) p [.int g, .int x, .int (n + 1)] := SqL.of upd_same
    refine ⟨_, rfl, p, _, 1, .int x, rfl, rfl, L2, atI_nat (j := 1) rfl, _, rfl, _, _, rfl, rfl, .inl ⟨by omega, by omega⟩, _, rfl, _, _, rfl, rfl, .inr ⟨by omega, by omega⟩, _, _, rfl, rfl,
      _, rfl, _, _, rfl, rfl, .inl ⟨by omega, by omega⟩, _, _, rfl, rfl, _, _, rfl, rfl, by omega, ?_⟩
    obtain ⟨a0, a1⟩ := fmod_in (x + 40692 * (n + 1) * (n + 1) + 69621 * (n + 1)) (b := 2147483647) (by omega)
    dsimp only
    generalize (x + 40692 * (n + 1) * (n + 1) + 69621 * (n + 1)).fmod 2147483647 = m1 at a0 a1 ⊢
    refine ⟨_, rfl, _, rfl, m1, m1, rfl, rfl, .inl ⟨by omega, by omega⟩, _, rfl, _, m1, rfl, rfl, .inl ⟨by omega, by omega⟩, _, _, rfl, rfl, _, rfl, _, _, rfl, rfl, _, _, rfl, rfl, by omega, ?_⟩
    obtain ⟨b0, b1⟩ := fmod_in (m1 * m1 + 39373 * m1 + (n + 1)) (b := 2147483579) (by omega)
    dsimp only
    generalize (m1 * m1 + 39373 * m1 + (n + 1)).fmod 2147483579 = m2 at b0 b1 ⊢
    refine ⟨_, rfl, _, rfl, m2, m2, rfl, rfl, .inl ⟨by omega, by omega⟩, _, rfl, _, m2, rfl, rfl, .inl ⟨by omega, by omega⟩, _, _, rfl, rfl, _, _, rfl, rfl, by omega, ?_⟩
    obtain ⟨c0, c1⟩ := fmod_in (m2 * m2 + 16807 * m2) (b := 2147483549) (by omega)
    dsimp only
    generalize (m2 * m2 + 16807 * m2).fmod 2147483549 = m3 at c0 c1 ⊢
    refine ⟨_, rfl, m3, 64, rfl, rfl, ⟨by omega, by omega⟩, _, rfl, _, m, rfl, rfl, by omega, ?_⟩
    obtain ⟨d0, d1⟩ := fmod_in (m3.fdiv 64) m0
    exact q _ _ d0 d1 (Feed.here (by omega) (by omega)) .at

/-- the seed of turn k -/
def spFeed (K : PySem.W.Frag) : Sp := fun vs H Q _ => ∃ (a : Addr) (ns : List Int) (k : Int), vs = [.ref a, .int k] ∧ SqL K H a (ns.map V.int) ∧
  0 ≤ k ∧ k ≤ 1000 ∧ ∀ (p : Addr) (fs : List V), H p = none → Feed (upd H p (.lst fs)) p 0 → Q (.ref p) (upd H p (.lst fs))
theorem ok_feed (F : Fun K "_law_feed" "_law_feed" sFeed f fd) (ml : mg "len" = none) (ma : mg "abs" = none) :
    FnOk P w K mg base CX0 1 f fd ["_law_script", "_law_k"] (spFeed K) := by
  refine F.ok scFeed (fun vs H Q E h => ?_) (fun cdv A outer s H vs Q E hr h => ?_)
  · obtain ⟨a, ns, k, rfl, _⟩ := h
    rfl
  obtain ⟨a, ns, k, rfl, hS, k0, k1, q⟩ := h
  have nd := scFeed.nd
  refine ⟨_, pss_cons (ps_set (i := 2) nd rfl (.inl rfl) pe_int)
    (C8.pss_cut (ps_if (pt_cmpR op_lt (pv 1) (pe_callB call_len_seq (by rfl) ml PySem.boot_len (pa_cons (pv 0) pa_nil)) (nomark _))
      (pss_one (ps_set (i := 2) nd rfl (.inl rfl) (pe_ix ix_list (pv 0) (pv 1) (fun _ _ => rfl)))) pss_nil)
    (pss_cons (ps_set (i := 3) nd rfl (.inl rfl) (pe_callB call_abs (by rfl) ma (by decide +kernel) (pa_cons (pv 2) pa_nil)))
    (C8.pss_cut (ps_if (pt_cmpR op_lt (pv 3) (pe_op op_pow pe_int pe_int) (nomark _))
      (pss_one (ps_set (i := 3) nd rfl (.inl rfl) pe_int)) pss_nil)
    (pss_one (ps_ret (pe_lst (pa_cons (pv 3) (pa_cons (pe_op op_modN (pe_op op_add (pe_op op_add (pe_op op_mul (pe_op op_modN (pv 2) pe_int) pe_int)
        (pe_op op_mul pe_int (pv 1))) pe_int) pe_int) (pa_cons pe_int pa_nil))))))))), ?_⟩
  refine ⟨fun σ' H' => H' = H ∧ ∃ c : Int, σ' = [some (.ref a), some (.int k), some (.int c), none], ?_, ?_⟩
  · refine ⟨_, rfl, _, rfl, a, _, rfl, .inl hS, _, _, rfl, rfl, _, rfl, ite2 (fun e => ?_) (fun e => ?_)⟩
    · have e' : k < ((ns.map V.int).length : Int) := of_decide_eq_true e
      rw [List.length_map] at e'
      have h2 : k.toNat < ns.length := by omega
      have g : atI (ns.map V.int) ((k.toNat : Nat) : Int) = some (.int ns[k.toNat]) :=
        atI_nat (by rw [List.getElem?_map, List.getElem?_eq_getElem h2] <;> rfl)
      rw [show ((k.toNat : Nat) : Int) = k by omega] at g
      exact ⟨_, rfl, _, rfl, a, _, k, _, rfl, rfl, hS, g, rfl, _, rfl⟩
    · exact ⟨rfl, _, rfl⟩
  rintro σ' H' ⟨rfl, c, rfl⟩
  refine ⟨_, rfl, c, rfl, ?_⟩
  refine ⟨fun σ' H2 => H2 = H' ∧ ∃ b : Int, σ' = [some (.ref a), some (.int k), some (.int c), some (.int b)], ?_, ?_⟩
  · refine ⟨_, rfl, 10, 18, rfl, rfl, ⟨by decide, by decide, by decide⟩, _, _, rfl, rfl, _, rfl, ite2 (fun e => ?_) (fun e => ?_)⟩
    · exact ⟨rfl, _, rfl⟩
    · exact ⟨rfl, _, rfl⟩
  rintro σ' H2 ⟨rfl, b, rfl⟩
  obtain ⟨a0, a1⟩ := fmod_in c (b := 2147483423) (by omega)
  refine ⟨_, rfl, _, rfl, c, _, rfl, rfl, by omega, _, _, rfl, rfl, .inl ⟨by omega, by omega⟩, _, rfl, _, k, rfl, rfl, .inl ⟨by omega, by omega⟩, _, _, rfl, rfl,
    _, _, rfl, rfl, _, _, rfl, rfl, by omega, (by show 3 ≤ sizeLine; decide), fun p hp => ?_⟩
  exact q p _ hp (Feed.here (by omega) (by omega))
end
end K01
end

section
set_option Elab.async false
set_option linter.all false
set_option maxRecDepth 100000
set_option maxHeartbeats 4000000
namespace K01
open PySem PySem.Spec PyProof.Rows L2 Gd

/-! what a part is, by its data -/
def isLab (x : Str) : Bool := decide (1 ≤ x.length) && decide (x.length ≤ 8) && x.cps.toList.all (fun c => decide (c ∈ ("abcdefghijklmnopqrstuvwxyz" : Str).cps.toList))
def isLabD : PyData → Bool
  | .str x => isLab x
  | _ => false
def isNum : PyData → Bool
  | .int i => decide (-(10 ^ 30 : Int) < i) && decide (i < 10 ^ 30)
  | _ => false
def isWor : PyData → Bool
  | .none => true
  | d => isNum d
def signs : List Str := ["plus", "less", "times", "over"]
def cnt : Nat → PyData → Nat
  | 0, _ => 0
  | k + 1, .tuple ds => match ds with
    | [w, n] => if isStr w "number" && isNum n then 1 else 0
    | [w, x, y] =>
      if isStr w "cell" then (if isLabD x && isLabD y then 1 else 0)
      else if signs.any (isStr w) then (if decide (0 < cnt k x) && decide (0 < cnt k y) then 1 + cnt k x + cnt k y else 0) else 0
    | _ => 0
  | _ + 1, _ => 0
def isPart (d : PyData) : Bool := decide (1 ≤ cnt 5 d) && decide (cnt 5 d ≤ 15)

/-! sizes -/
mutual
def okD (k : Nat) : PyData → Bool
  | .none => true
  | .bool _ => true
  | .int i => decide (i.natAbs ≤ 10 ^ 64 + k)
  | .str x => decide (x.length ≤ 100 + k) && x.cps.toList.all (fun c => decide (c < 128))
  | .list ds => decide (ds.length ≤ k) && okAll k ds
  | .tuple ds => decide (ds.length ≤ k) && okAll k ds
  | .dict kvs => okKv k kvs
def okAll (k : Nat) : List PyData → Bool
  | [] => true
  | d :: ds => okD k d && okAll k ds
def okKv (k : Nat) : List (PyData × PyData) → Bool
  | [] => true
  | (a, b) :: r => okD k a && okD k b && okKv k r
end
mutual
theorem okD.mono {k m : Nat} (l : k ≤ m) : ∀ d : PyData, okD k d = true → okD m d = true
  | .none, _ => rfl
  | .bool _, _ => rfl
  | .int i, h => by
    simp only [okD, decide_eq_true_eq] at h ⊢
    exact Nat.le_trans h (Nat.add_le_add_left l _)
  | .str x, h => by
    simp only [okD, Bool.and_eq_true, decide_eq_true_eq] at h ⊢
    exact ⟨by omega, h.2⟩
  | .list ds, h => by
    simp only [okD, Bool.and_eq_true, decide_eq_true_eq] at h ⊢
    exact ⟨by omega, okAll.mono l ds h.2⟩
  | .tuple ds, h => by
    simp only [okD, Bool.and_eq_true, decide_eq_true_eq] at h ⊢
    exact ⟨by omega, okAll.mono l ds h.2⟩
  | .dict kvs, h => by
    simp only [okD] at h ⊢
    exact okKv.mono l kvs h
theorem okAll.mono {k m : Nat} (l : k ≤ m) : ∀ ds : List PyData, okAll k ds = true → okAll m ds = true
  | [], _ => rfl
  | d :: ds, h => by
    simp only [okAll, Bool.and_eq_true] at h ⊢
    exact ⟨okD.mono l d h.1, okAll.mono l ds h.2⟩
theorem okKv.mono {k m : Nat} (l : k ≤ m) : ∀ kvs : List (PyData × PyData), okKv k kvs = true → okKv m kvs = true
  | [], _ => rfl
  | (a, b) :: r, h => by
    simp only [okKv, Bool.and_eq_true] at h ⊢
    exact ⟨⟨okD.mono l a h.1.1, okD.mono l b h.1.2⟩, okKv.mono l r h.2⟩
end
theorem int_short {i : Int} {k : Nat} (hk : k ≤ 50) (h : i.natAbs ≤ 10 ^ 64 + k) : (PyData.int i).shown.length ≤ 100 ∧ i.natAbs.log2 < 1920 := by
  have h1 : i.natAbs < 10 ^ 65 := Nat.lt_of_le_of_lt h (Nat.lt_of_le_of_lt (Nat.add_le_add_left hk _) (by decide))
  have h2 : i.natAbs < 2 ^ 1920 := Nat.lt_of_lt_of_le h1 (by decide +kernel)
  refine ⟨?_, ?_⟩
  · have e := int_text_length_le10 (k := 65) (by decide) h1
    have e2 : (PyData.int i).shown.length = (toString i).length := by
      show (Str.ofString (toString i)).length = _
      rw [PySem.ofString_length]
    omega
  · by_cases z : i.natAbs = 0
    · rw [z]; decide
    · exact (Nat.log2_lt z).mpr h2
mutual
theorem okD.short {k : Nat} (hk : k ≤ 50) : ∀ d : PyData, okD k d = true → d.leavesShort 100 = true ∧ d.showable = true
  | .none, _ => ⟨rfl, rfl⟩
  | .bool _, _ => ⟨rfl, rfl⟩
  | .int i, h => by
    simp only [okD, decide_eq_true_eq] at h
    obtain ⟨a, b⟩ := int_short hk h
    refine ⟨?_, ?_⟩
    · simpa only [PyData.leavesShort, decide_eq_true_eq] using a
    · simpa [PyData.showable] using b
  | .str x, h => by
    simp only [okD, Bool.and_eq_true, List.all_eq_true, decide_eq_true_eq] at h
    refine ⟨?_, ?_⟩
    · simp only [PyData.leavesShort, List.all_eq_true, decide_eq_true_eq]
      intro c hc
      exact Nat.lt_of_lt_of_le (h.2 c hc) (by decide)
    · simp [PyData.showable]
  | .list ds, h => by
    simp only [okD, Bool.and_eq_true] at h
    obtain ⟨a, b⟩ := okAll.short hk ds h.2
    exact ⟨by simpa only [PyData.leavesShort] using a, by simpa only [PyData.showable] using b⟩
  | .tuple ds, h => by
    simp only [okD, Bool.and_eq_true] at h
    obtain ⟨a, b⟩ := okAll.short hk ds h.2
    exact ⟨by simpa only [PyData.leavesShort] using a, by simpa only [PyData.showable] using b⟩
  | .dict kvs, h => by
    simp only [okD] at h
    obtain ⟨a, b⟩ := okKv.short hk kvs h
    exact ⟨by simpa only [PyData.leavesShort] using a, by simpa only [PyData.showable] using b⟩
theorem okAll.short {k : Nat} (hk : k ≤ 50) : ∀ ds : List PyData, okAll k ds = true → PyData.leavesShortAll 100 ds = true ∧ PyData.showableAll ds = true
  | [], _ => ⟨rfl, rfl⟩
  | d :: ds, h => by
    simp only [okAll, Bool.and_eq_true] at h
    obtain ⟨a, b⟩ := okD.short hk d h.1
    obtain ⟨a2, b2⟩ := okAll.short hk ds h.2
    exact ⟨by simp only [PyData.leavesShortAll, a, a2, Bool.and_self], by simp only [PyData.showableAll, b, b2, Bool.and_self]⟩
theorem okKv.short {k : Nat} (hk : k ≤ 50) : ∀ kvs : List (PyData × PyData), okKv k kvs = true → PyData.leavesShortKv 100 kvs = true ∧ PyData.showableKv kvs = true
  | [], _ => ⟨rfl, rfl⟩
  | (x, y) :: r, h => by
    simp only [okKv, Bool.and_eq_true] at h
    obtain ⟨a, b⟩ := okD.short hk x h.1.1
    obtain ⟨a1, b1⟩ := okD.short hk y h.1.2
    obtain ⟨a2, b2⟩ := okKv.short hk r h.2
    exact ⟨by simp only [PyData.leavesShortKv, a, a1, a2, Bool.and_self], by simp only [PyData.showableKv, b, b1, b2, Bool.and_self]⟩
end
/-- data of bounded size: k longest, w heaviest, n deepest -/
structure Fit (k w n : Nat) (d : PyData) : Prop where
  ok : okD k d = true
  wt : d.weight ≤ w
  dp : d.depth ≤ n
theorem Fit.mono {k w n k' w' n' : Nat} {d : PyData} (f : Fit k w n d) (hk : k ≤ k') (hw : w ≤ w') (hn : n ≤ n') : Fit k' w' n' d :=
  ⟨okD.mono hk d f.ok, Nat.le_trans f.wt hw, Nat.le_trans f.dp hn⟩
theorem Fit.shown {k w n : Nat} {d : PyData} (f : Fit k w n d) (hk : k ≤ 50) (hw : w ≤ 100000) : d.shown.length ≤ sizeLine ∧ d.showable = true := by
  obtain ⟨a, b⟩ := okD.short hk d f.ok
  have h := PyData.shown_le 100 (by decide) d a
  have hw2 := f.wt
  have z : sizeLine = 16777216 := rfl
  exact ⟨by omega, b⟩
theorem okAll_at {k : Nat} : ∀ {ds : List PyData} {i : Nat} {d : PyData}, okAll k ds = true → ds[i]? = some d → okD k d = true
  | [], _, _, _, e => by simp at e
  | x :: r, 0, d, o, e => by
    simp only [okAll, Bool.and_eq_true] at o
    cases Option.some.inj e
    exact o.1
  | x :: r, i + 1, d, o, e => by
    simp only [okAll, Bool.and_eq_true] at o
    exact okAll_at (i := i) o.2 e
end K01
end

section
set_option Elab.async false
set_option linter.all false
set_option maxRecDepth 100000
set_option maxHeartbeats 4000000
namespace K01
open PySem PySem.Spec PyProof.Rows L2 Gd
abbrev sName : Stmt := topS 7
abbrev sWhole : Stmt := topS 8
abbrev sNumber : Stmt := topS 9
abbrev sWorth : Stmt := topS 10
abbrev sPart : Stmt := topS 11
abbrev sCount : Stmt := topS 12
theorem scName : FnScope ["thing", "letter"] ["thing"] (defScope sName) :=
  ⟨rfl, rfl, rfl, by decide +kernel, rfl, by decide +kernel, by decide +kernel⟩
theorem scWhole : FnScope ["thing"] ["thing"] (defScope sWhole) :=
  ⟨rfl, rfl, rfl, by decide +kernel, rfl, by decide +kernel, by decide +kernel⟩
theorem scNumber : FnScope ["thing"] ["thing"] (defScope sNumber) :=
  ⟨rfl, rfl, rfl, by decide +kernel, rfl, by decide +kernel, by decide +kernel⟩
theorem scWorth : FnScope ["thing"] ["thing"] (defScope sWorth) :=
  ⟨rfl, rfl, rfl, by decide +kernel, rfl, by decide +kernel, by decide +kernel⟩
theorem scPart : FnScope ["thing"] ["thing"] (defScope sPart) :=
  ⟨rfl, rfl, rfl, by decide +kernel, rfl, by decide +kernel, by decide +kernel⟩
theorem scCount : FnScope ["thing", "deep", "first", "second"] ["thing", "deep"] (defScope sCount) :=
  ⟨rfl, rfl, rfl, by decide +kernel, rfl, by decide +kernel, by decide +kernel⟩

/-! which built-in class data is of -/
def isT : PyData → Bool
  | .tuple _ => true
  | _ => false
def isS : PyData → Bool
  | .str _ => true
  | _ => false
def isI : PyData → Bool
  | .int _ => true
  | .bool _ => true
  | _ => false
def isB : PyData → Bool
  | .bool _ => true
  | _ => false
theorem k_tup : ∀ d : PyData, kitB (kindN d) "tuple" = some (isT d)
  | .none => show kitB "NoneType" "tuple" = some false by decide +kernel
  | .bool _ => show kitB "bool" "tuple" = some false by decide +kernel
  | .int _ => show kitB "int" "tuple" = some false by decide +kernel
  | .str _ => show kitB "str" "tuple" = some false by decide +kernel
  | .list _ => show kitB "list" "tuple" = some false by decide +kernel
  | .tuple _ => show kitB "tuple" "tuple" = some true by decide +kernel
  | .dict _ => show kitB "dict" "tuple" = some false by decide +kernel
theorem k_str : ∀ d : PyData, kitB (kindN d) "str" = some (isS d)
  | .none => show kitB "NoneType" "str" = some false by decide +kernel
  | .bool _ => show kitB "bool" "str" = some false by decide +kernel
  | .int _ => show kitB "int" "str" = some false by decide +kernel
  | .str _ => show kitB "str" "str" = some true by decide +kernel
  | .list _ => show kitB "list" "str" = some false by decide +kernel
  | .tuple _ => show kitB "tuple" "str" = some false by decide +kernel
  | .dict _ => show kitB "dict" "str" = some false by decide +kernel
theorem k_int : ∀ d : PyData, kitB (kindN d) "int" = some (isI d)
  | .none => show kitB "NoneType" "int" = some false by decide +kernel
  | .bool _ => show kitB "bool" "int" = some true by decide +kernel
  | .int _ => show kitB "int" "int" = some true by decide +kernel
  | .str _ => show kitB "str" "int" = some false by decide +kernel
  | .list _ => show kitB "list" "int" = some false by decide +kernel
  | .tuple _ => show kitB "tuple" "int" = some false by decide +kernel
  | .dict _ => show kitB "dict" "int" = some false by decide +kernel
theorem k_bool : ∀ d : PyData, kitB (kindN d) "bool" = some (isB d)
  | .none => show kitB "NoneType" "bool" = some false by decide +kernel
  | .bool _ => show kitB "bool" "bool" = some true by decide +kernel
  | .int _ => show kitB "int" "bool" = some false by decide +kernel
  | .str _ => show kitB "str" "bool" = some false by decide +kernel
  | .list _ => show kitB "list" "bool" = some false by decide +kernel
  | .tuple _ => show kitB "tuple" "bool" = some false by decide +kernel
  | .dict _ => show kitB "dict" "bool" = some false by decide +kernel

/-- the program's constants -/
structure Cs (K : PySem.W.Frag) (mg : Str → Option Value) (pS : Addr) : Prop where
  letters : ∃ t, mg "_LETTERS" = some (.str "abcdefghijklmnopqrstuvwxyz" t)
  longest : ∃ t, mg "_LONGEST_NAME" = some (.int 8 t)
  great : ∃ t, mg "_TOO_GREAT" = some (.int (10 ^ 30) t)
  deepest : ∃ t, mg "_DEEPEST" = some (.int 5 t)
  most : ∃ t, mg "_MOST_PARTS" = some (.int 15 t)
  sgn : mg "_SIGNS" = some (.ref pS)
  isi : mg "isinstance" = none
  str : mg "str" = none
  int : mg "int" = none
  bool : mg "bool" = none
  tup : mg "tuple" = none
  len : mg "len" = none
  all : mg "all" = none
  abs : mg "abs" = none
  sq : ∀ H, SqT K H pS (K01.signs.map V.str)

/-- a small checker: its answer by the data -/
def spChk (K : PySem.W.Frag) (f : PyData → Bool) : Sp := fun vs H Q _ => ∃ (N : Addr → Prop) (v : V) (d : PyData), vs = [v] ∧ Dd K H N v d ∧ okD 50 d = true ∧
  ∀ H', Same H H' → Q (.bl (f d)) H'
theorem spChk.len {K : PySem.W.Frag} {f : PyData → Bool} : ∀ vs H Q E, spChk K f vs H Q E → vs.length = 1 := by
  rintro vs H Q E ⟨N, v, d, rfl, _⟩
  rfl
section
variable {P : Program} {w : World} {K : PySem.W.Frag} {mg : Str → Option Value} {base : Heap} {f : Addr} {fd : FuncData} {pS : Addr}
theorem ok_whole (F : Fun K "is_whole" "is_whole" sWhole f fd) (C : Cs K mg pS) :
    FnOk P w K mg base CX0 1 f fd ["thing"] (spChk K fun d => isI d && !isB d) := by
  refine F.ok scWhole spChk.len (fun cdv A outer s H vs Q E hr h => ?_)
  obtain ⟨N, v, d, rfl, hd, ok, q⟩ := h
  have nd := scWhole.nd
  refine ⟨_, pss_one (ps_ret (pe_and (pe_callB call_isi (by rfl) C.isi (by decide +kernel) (pa_cons (pv 0) (pa_cons (pe_bltn (v := .ty "int") (by rfl) C.int (by decide +kernel) rfl) pa_nil)))
    (pe_one (pe_not (pe_callB call_isi (by rfl) C.isi (by decide +kernel) (pa_cons (pv 0) (pa_cons (pe_bltn (v := .ty "bool") (by rfl) C.bool (by decide +kernel) rfl) pa_nil))))))), ?_⟩
  refine ⟨_, rfl, _, _, _, _, isI d, rfl, .ty _, hd.kind, kit_ty (k_int d), _, rfl, ite2 (fun e => ?_) (fun e => ?_)⟩
  · refine ⟨_, rfl, _, _, _, _, isB d, rfl, .ty _, hd.kind, kit_ty (k_bool d), _, rfl, ?_⟩
    have z : Q (.bl (isI d && !isB d)) H := q H (fun _ _ e => e)
    rw [e, Bool.true_and] at z
    exact z
  · have z : Q (.bl (isI d && !isB d)) H := q H (fun _ _ e => e)
    rw [Bool.eq_false_iff.mpr e, Bool.false_and] at z
    exact z
/-- a number near nought -/
def nearB (m : Int) (d : PyData) : Bool := match d with
  | .int i => decide (-m < i) && decide (i < m)
  | _ => false
theorem isI_num {K : PySem.W.Frag} {H : Hp} {N : Addr → Prop} {v : V} {d : PyData} (hd : Dd K H N v d) (e : (isI d && !isB d) = true) : ∃ i, d = .int i ∧ v = .int i := by
  cases hd with
  | int i => exact ⟨i, rfl, rfl⟩
  | bl b => exact absurd e Bool.false_ne_true
  | non => exact absurd e Bool.false_ne_true
  | str _ => exact absurd e Bool.false_ne_true
  | lst _ _ _ _ => exact absurd e Bool.false_ne_true
  | tup _ _ => exact absurd e Bool.false_ne_true
  | dct0 _ _ => exact absurd e Bool.false_ne_true
  | dct1 _ _ => exact absurd e Bool.false_ne_true
theorem isNum_no {d : PyData} (e : ¬ (isI d && !isB d) = true) : isNum d = false := by
  cases d with
  | int i => exact absurd rfl e
  | _ => rfl
variable {fW : Addr} {fdW : FuncData}
theorem ok_number (F : Fun K "is_number" "is_number" sNumber f fd) (C : Cs K mg pS) (FW : Fun K "is_whole" "is_whole" sWhole fW fdW)
    (bW : Binds K fdW ["thing"] []) (gW : mg "is_whole" = some (.ref fW)) :
    FnOk P w K mg base CX0 2 f fd ["thing"] (spChk K isNum) := by
  have G : FnOk P w K mg base CX0 1 fW fdW ["thing"] (spChk K fun d => isI d && !isB d) := ok_whole FW C
  refine F.ok scNumber spChk.len (fun cdv A outer s H vs Q E hr h => ?_)
  obtain ⟨N, v, d, rfl, hd, ok, q⟩ := h
  have nd := scNumber.nd
  obtain ⟨tg, gg⟩ := C.great
  refine ⟨_, pss_one (ps_ret (pe_and (pe_call G hr (by rfl) gW FW.kp bW .nil pass0 (pa_cons (pv 0) pa_nil))
    (pe_one (pe_chain op_lt op_lt (pe_un un_neg (pe_glob (v := .int (10 ^ 30)) (by rfl) gg ⟨_, rfl⟩)) (pv 0) (pe_glob (v := .int (10 ^ 30)) (by rfl) gg ⟨_, rfl⟩))))), ?_⟩
  refine ⟨_, rfl, N, v, d, rfl, hd, ok, fun H' sm => ⟨_, rfl, ite2 (fun e => ?_) (fun e => ?_)⟩⟩
  · obtain ⟨i, rfl, rfl⟩ := isI_num hd e
    have z := q H' sm
    refine ⟨_, rfl, _, rfl, _, _, rfl, rfl, _, rfl, ite2 (fun c => ?_) (fun c => ?_)⟩
    · refine ⟨_, _, rfl, rfl, ?_⟩
      rw [show isNum (.int i) = (decide (-(10 ^ 30 : Int) < i) && decide (i < 10 ^ 30)) from rfl, c, Bool.true_and] at z
      exact z
    · rw [show isNum (.int i) = (decide (-(10 ^ 30 : Int) < i) && decide (i < 10 ^ 30)) from rfl, Bool.eq_false_iff.mpr c, Bool.false_and] at z
      exact z
  · have z := q H' sm
    rw [isNum_no e] at z
    exact z
variable {fN : Addr} {fdN : FuncData}
theorem ok_worth (F : Fun K "is_worth" "is_worth" sWorth f fd) {n : Nat} (G : FnOk P w K mg base CX0 n fN fdN ["thing"] (spChk K isNum)) (FN : Fun K "is_number" "is_number" sNumber fN fdN)
    (bN : Binds K fdN ["thing"] []) (gN : mg "is_number" = some (.ref fN)) :
    FnOk P w K mg base CX0 (n + 1) f fd ["thing"] (spChk K isWor) := by
  refine F.ok scWorth spChk.len (fun cdv A outer s H vs Q E hr h => ?_)
  obtain ⟨N, v, d, rfl, hd, ok, q⟩ := h
  have nd := scWorth.nd
  refine ⟨_, pss_one (ps_ret (pe_or (pe_cmpR op_isN (pv 0) pe_non (nomark _)) (pe_one (pe_call G hr (by rfl) gN FN.kp bN .nil pass0 (pa_cons (pv 0) pa_nil))))), ?_⟩
  refine ⟨_, rfl, rfl, _, rfl, ite2 (fun e => ?_) (fun e => ?_)⟩
  · have e2 : v = .non := of_decide_eq_true e
    subst e2
    cases hd
    exact q H (fun _ _ e => e)
  · refine ⟨_, rfl, N, v, d, rfl, hd, ok, fun H' sm => ?_⟩
    have z := q H' sm
    have e2 : isWor d = isNum d := by
      cases d with
      | none =>
        cases hd
        exact absurd rfl e
      | _ => rfl
    rw [e2] at z
    exact z
theorem ok_name (F : Fun K "is_name" "is_name" sName f fd) (C : Cs K mg pS) :
    FnOk P w K mg base CX0 1 f fd ["thing"] (spChk K isLabD) := by
  refine F.ok scName spChk.len (fun cdv A outer s H vs Q E hr h => ?_)
  obtain ⟨N, v, d, rfl, hd, ok, q⟩ := h
  have nd := scName.nd
  obtain ⟨tl, gl⟩ := C.letters
  obtain ⟨tn, gn⟩ := C.longest
  refine ⟨_, pss_cons (ps_if (PW.pt (pw_or (pt_not (pt_val (pe_callB call_isi (by rfl) C.isi (by decide +kernel) (pa_cons (pv 0) (pa_cons (pe_bltn (v := .ty "str") (by rfl) C.str (by decide +kernel) rfl) pa_nil)))))
      (pw_or1 (pt_not (pt_chain op_le op_le pe_int (pe_callB call_len_str (by rfl) C.len PySem.boot_len (pa_cons (pv 0) pa_nil)) (pe_glob (v := .int 8) (by rfl) gn ⟨_, rfl⟩))))))
      (pss_one (ps_ret pe_bl)) pss_nil)
    (pss_one (ps_ret (pe_callB (cr_all rfl) (by rfl) C.all (by decide +kernel) (pa_cons (pe_lc (own := [("letter", 1)]) (g := gName 1) (tt := tYes) rfl nd (pi_str (pv 0))
        (blkOk_by (N := ["thing", "letter"]) (sc := defScope sName) (by decide +kernel)) (fun _ _ _ _ _ => pg_name (i := 1) nd rfl (Or.inl rfl)) (fun _ _ _ _ _ => pts_nil)
        (fun _ _ _ _ _ => pe_cmpR op_in_sign (pv 1) (pe_glob (v := .str "abcdefghijklmnopqrstuvwxyz") (by rfl) gl ⟨_, rfl⟩) (by rfl))) pa_nil)))), ?_⟩
  refine ⟨_, rfl, _, _, _, _, isS d, rfl, .ty _, hd.kind, kit_ty (k_str d), _, rfl, ?_⟩
  have no : ∀ e : isLabD d = false, Q (.bl false) H := fun e => by
    have z := q H (fun _ _ e => e)
    rw [e] at z
    exact z
  cases hs : isS d with
  | false =>
    have e : isLabD d = false := by
      cases d with
      | str x => exact Bool.noConfusion hs
      | _ => rfl
    exact iteT (no e)
  | true =>
    refine iteF ?_
    cases d with
    | str x =>
      cases hd
      obtain ⟨xl, xa⟩ : x.length ≤ 150 ∧ x.cps.toList.all (fun c => decide (c < 128)) = true := by simpa only [okD, Bool.and_eq_true, decide_eq_true_eq] using ok
      have xz : x.length ≤ sizeLine := Nat.le_trans xl (by decide)
      have lab : isLabD (.str x) = (decide (1 ≤ x.length) && decide (x.length ≤ 8) && x.cps.toList.all (fun c => decide (c ∈ ("abcdefghijklmnopqrstuvwxyz" : Str).cps.toList))) := rfl
      have cast1 : decide ((1 : Int) ≤ (x.length : Int)) = decide (1 ≤ x.length) := decide_eq_decide.mpr (by omega)
      have cast8 : decide ((x.length : Int) ≤ 8) = decide (x.length ≤ 8) := decide_eq_decide.mpr (by omega)
      refine ⟨_, rfl, x, rfl, xz, _, _, rfl, rfl, _, rfl, ite2 (fun c1 => ?_) (fun c1 => ?_)⟩
      · refine ⟨_, _, rfl, rfl, _, rfl, ?_⟩
        cases c8 : decide ((x.length : Int) ≤ 8) with
        | false =>
          rw [cast8] at c8
          refine iteT (no ?_)
          rw [lab, c8, Bool.and_false, Bool.false_and]
        | true =>
          refine iteF ?_
          rw [cast8] at c8
          rw [cast1] at c1
          rw [c1, c8, Bool.true_and, Bool.true_and] at lab
          refine ⟨_, rfl, x, rfl, fun D hD => ?_⟩
          let al : List Nat := ("abcdefghijklmnopqrstuvwxyz" : Str).cps.toList
          refine lc_it walk_str (fun i H' => Same H H' ∧ H' D = some (.lst ((x.cps.toList.take i).map fun c => V.bl (decide (c ∈ al))))) ?_ ?_ ?_ ?_
          · exact ⟨fun b u e => by rw [upd_ne (ne_of_none e hD)]; exact e, upd_same⟩
          · exact fun _ _ _ _ => trivial
          · rintro i v H1 H2 hi ⟨sm, eD⟩ ⟨rfl, c, ec, rfl⟩
            refine ⟨rfl, ?_⟩
            unfold tYes
            dsimp only
            rw [if_pos rfl]
            have hl : ((x.cps.toList.take i).map fun c => V.bl (decide (c ∈ al))).length < sizeLine := by
              rw [List.length_map, List.length_take]
              have : min i x.cps.toList.length ≤ i := Nat.min_le_left _ _
              have e3 : x.length = x.cps.size := rfl
              have z : sizeLine = 16777216 := rfl
              omega
            refine ⟨_, rfl, c, _, rfl, rfl, _, eD, hl, ?_, ?_⟩
            · intro b u e
              rw [upd_ne (ne_of_none e hD)]
              exact sm _ _ e
            · have e2 : x.cps.toList.take (i + 1) = x.cps.toList.take i ++ [c] := by
                rw [List.take_add_one, Array.getElem?_toList, ec]
                rfl
              rw [e2, List.map_append]
              exact upd_same
          · rintro H1 ⟨sm, eD⟩
            have e3 : x.cps.size = x.cps.toList.length := rfl
            rw [e3, List.take_length] at eD
            have e4 : (x.cps.toList.map fun c => V.bl (decide (c ∈ al))) = (x.cps.toList.map fun c => decide (c ∈ al)).map V.bl := by
              rw [List.map_map]
              rfl
            rw [e4] at eD
            refine ⟨D, _, rfl, SqL.of eD, ?_⟩
            have z := q H1 sm
            rw [lab] at z
            rw [List.all_map]
            exact z
      · refine ⟨_, rfl, iteT (no ?_)⟩
        rw [cast1] at c1
        rw [lab, Bool.eq_false_iff.mpr c1, Bool.false_and, Bool.false_and]
    | _ => exact Bool.noConfusion hs
end
end K01
end

section
set_option Elab.async false
set_option linter.all false
set_option maxRecDepth 100000
set_option maxHeartbeats 4000000
namespace K01
open PySem PySem.Spec PyProof.Rows L2 Gd
/-- how many parts, n levels left but one -/
def spCount (K : PySem.W.Frag) (n : Nat) : Sp := fun vs H Q _ => ∃ (N : Addr → Prop) (v : V) (d : PyData) (dp : Int), vs = [v, .int dp] ∧ Dd K H N v d ∧ okD 50 d = true ∧
  dp + n = 7 ∧ 1 ≤ n ∧ ∀ H', Same H H' → Q (.int (cnt (n - 1) d : Nat)) H'
theorem cnt_two {k : Nat} {w n : PyData} : cnt (k + 1) (.tuple [w, n]) = if isStr w "number" && isNum n then 1 else 0 := rfl
theorem cnt_three {k : Nat} {w x y : PyData} : cnt (k + 1) (.tuple [w, x, y]) = if isStr w "cell" then (if isLabD x && isLabD y then 1 else 0)
      else if signs.any (isStr w) then (if decide (0 < cnt k x) && decide (0 < cnt k y) then 1 + cnt k x + cnt k y else 0) else 0 := rfl
theorem cnt_other {k : Nat} {ds : List PyData} (h2 : ds.length ≠ 2) (h3 : ds.length ≠ 3) : cnt (k + 1) (.tuple ds) = 0 := by
  match ds, h2, h3 with
  | [], _, _ => rfl
  | [_], _, _ => rfl
  | [_, _], h, _ => exact absurd rfl h
  | [_, _, _], _, h => exact absurd rfl h
  | _ :: _ :: _ :: _ :: _, _, _ => rfl
theorem cnt_no {k : Nat} {d : PyData} (h : isT d = false) : cnt k d = 0 := by
  cases k with
  | zero => rfl
  | succ k =>
    cases d with
    | tuple _ => exact Bool.noConfusion h
    | _ => rfl
theorem dd_two {K : PySem.W.Frag} {H : Hp} {N : Addr → Prop} {xs : List V} {ds : List PyData} (h : DdAll K H N xs ds) (l : xs.length = 2) :
    ∃ v u d e, xs = [v, u] ∧ ds = [d, e] ∧ Dd K H N v d ∧ Dd K H N u e := by
  cases h with
  | nil => cases l
  | cons h1 h =>
    cases h with
    | nil => cases l
    | cons h2 h =>
      cases h with
      | nil => exact ⟨_, _, _, _, rfl, rfl, h1, h2⟩
      | cons _ _ =>
        simp only [List.length_cons] at l
        omega
theorem dd_three {K : PySem.W.Frag} {H : Hp} {N : Addr → Prop} {xs : List V} {ds : List PyData} (h : DdAll K H N xs ds) (l : xs.length = 3) :
    ∃ v u w d e f, xs = [v, u, w] ∧ ds = [d, e, f] ∧ Dd K H N v d ∧ Dd K H N u e ∧ Dd K H N w f := by
  cases h with
  | nil => cases l
  | cons h1 h =>
    obtain ⟨u, w, e, f, rfl, rfl, a, b⟩ := dd_two h (Nat.succ.inj l)
    exact ⟨_, _, _, _, _, _, rfl, rfl, h1, a, b⟩
section
variable {P : Program} {w : World} {K : PySem.W.Frag} {mg : Str → Option Value} {base : Heap} {f : Addr} {fd : FuncData} {pS : Addr}
variable {fN fL : Addr} {fdN fdL : FuncData}
theorem count_step {n : Nat} (F : Fun K "_count_parts" "_count_parts" sCount f fd) (C : Cs K mg pS) (G : FnOk P w K mg base CX0 (n + 2) f fd ["thing", "deep"] (spCount K n))
    (b : Binds K fd ["thing", "deep"] []) (gF : mg "_count_parts" = some (.ref f))
    (GN : FnOk P w K mg base CX0 2 fN fdN ["thing"] (spChk K isNum)) (FN : Fun K "is_number" "is_number" sNumber fN fdN) (bN : Binds K fdN ["thing"] []) (gN : mg "is_number" = some (.ref fN))
    (GL : FnOk P w K mg base CX0 1 fL fdL ["thing"] (spChk K isLabD)) (FL : Fun K "is_name" "is_name" sName fL fdL) (bL : Binds K fdL ["thing"] []) (gL : mg "is_name" = some (.ref fL)) :
    FnOk P w K mg base CX0 (n + 1 + 2) f fd ["thing", "deep"] (spCount K (n + 1)) := by
  refine F.ok scCount (fun vs H Q E h => ?_) (fun cdv A outer s H vs Q E hr h => ?_)
  · obtain ⟨N, v, d, dp, rfl, _⟩ := h
    rfl
  obtain ⟨N, v, d, dp, rfl, hd, ok, hn, _, q⟩ := h
  have nd := scCount.nd
  have hu := hu_of hr
  have hrN := hr.mono (show 2 ≤ n + 2 by omega)
  have hrL := hr.mono (show 1 ≤ n + 2 by omega)
  obtain ⟨t5, g5⟩ := C.deepest
  refine ⟨_, pss_cons (ps_if (PW.pt (pw_or (pt_not (pt_val (pe_callB call_isi (by rfl) C.isi (by decide +kernel) (pa_cons (pv 0) (pa_cons (pe_bltn (v := .ty "tuple") (by rfl) C.tup (by decide +kernel) rfl) pa_nil)))))
      (pw_or1 (pt_cmpR op_gt (pv 1) (pe_glob (v := .int 5) (by rfl) g5 ⟨_, rfl⟩) (nomark _))))) (pss_one (ps_ret pe_int)) pss_nil)
    (pss_cons (ps_if (pt_cmpR op_eq (pe_callB call_len_seq (by rfl) C.len PySem.boot_len (pa_cons (pv 0) pa_nil)) pe_int (nomark _))
      (pss_one (ps_ret (pe_ifExp (PW.pt (pw_and (pt_cmpR (op_eqS hr.units0) (pe_ix ix_tup (pv 0) pe_int (fun _ _ => rfl)) pe_str (nomark _))
        (pw_and1 (pt_val (pe_call GN hrN (by rfl) gN FN.kp bN .nil pass0 (pa_cons (pe_ix ix_tup (pv 0) pe_int (fun _ _ => rfl)) pa_nil)))))) pe_int pe_int))) pss_nil)
    (pss_cons (ps_if (pt_cmpR op_ne (pe_callB call_len_seq (by rfl) C.len PySem.boot_len (pa_cons (pv 0) pa_nil)) pe_int (nomark _)) (pss_one (ps_ret pe_int)) pss_nil)
    (pss_cons (ps_if (pt_cmpR (op_eqS hr.units0) (pe_ix ix_tup (pv 0) pe_int (fun _ _ => rfl)) pe_str (nomark _))
      (pss_one (ps_ret (pe_ifExp (PW.pt (pw_and (pt_val (pe_call GL hrL (by rfl) gL FL.kp bL .nil pass0 (pa_cons (pe_ix ix_tup (pv 0) pe_int (fun _ _ => rfl)) pa_nil)))
        (pw_and1 (pt_val (pe_call GL hrL (by rfl) gL FL.kp bL .nil pass0 (pa_cons (pe_ix ix_tup (pv 0) pe_int (fun _ _ => rfl)) pa_nil)))))) pe_int pe_int))) pss_nil)
    (pss_cons (ps_if (pt_cmpR (op_notInS hu) (pe_ix ix_tup (pv 0) pe_int (fun _ _ => rfl)) (pe_glob (v := .ref pS) (by rfl) C.sgn rfl) (by rfl)) (pss_one (ps_ret pe_int)) pss_nil)
    (pss_cons (ps_set (i := 2) nd rfl (.inl rfl) (pe_call G hr (by rfl) gF F.kp b .nil pass0 (pa_cons (pe_ix ix_tup (pv 0) pe_int (fun _ _ => rfl)) (pa_cons (pe_op op_add (pv 1) pe_int) pa_nil))))
    (pss_cons (ps_set (i := 3) nd rfl (.inl rfl) (pe_call G hr (by rfl) gF F.kp b .nil pass0 (pa_cons (pe_ix ix_tup (pv 0) pe_int (fun _ _ => rfl)) (pa_cons (pe_op op_add (pv 1) pe_int) pa_nil))))
    (pss_one (ps_ret (pe_ifExp (PW.pt (pw_and (pt_cmpR op_gt (pv 2) pe_int (nomark _)) (pw_and1 (pt_cmpR op_gt (pv 3) pe_int (nomark _)))))
      (pe_op op_add (pe_op op_add pe_int (pv 2)) (pv 3)) pe_int))))))))), ?_⟩
  refine ⟨_, rfl, _, _, _, _, isT d, rfl, .ty _, hd.kind, kit_ty (k_tup d), _, rfl, ?_⟩
  have no : ∀ {H' : Hp}, Same H H' → cnt n d = 0 → Q (.int 0) H' := fun sm e => by
    have z := q _ sm
    rw [Nat.add_sub_cancel, e] at z
    exact z
  cases ht : isT d with
  | false => exact iteT (no (fun _ _ e => e) (cnt_no ht))
  | true =>
  refine iteF ⟨_, rfl, _, _, rfl, rfl, _, rfl, ite2 (fun c => ?_) (fun c => ?_)⟩
  · have c := of_decide_eq_true c
    have e0 : n = 0 := by omega
    subst e0
    exact no (fun _ _ e => e) rfl
  have c : ¬ dp > 5 := fun z => c (decide_eq_true z)
  obtain ⟨k, rfl⟩ : ∃ k, n = k + 1 := ⟨n - 1, by omega⟩
  rw [Nat.add_sub_cancel] at q
  cases d with
  | tuple ds =>
    cases hd with
    | @tup a xs _ hS hA =>
    have hlen : xs.length = ds.length := hA.len
    obtain ⟨okl, oka⟩ : ds.length ≤ 50 ∧ okAll 50 ds = true := by simpa only [okD, Bool.and_eq_true, decide_eq_true_eq] using ok
    have same0 : Same H H := fun _ _ e => e
    refine ⟨_, rfl, a, xs, rfl, .inr hS, rfl, _, rfl, ite2 (fun c2 => ?_) (fun c2 => ?_)⟩
    · have c2 : xs.length = 2 := by
        have := of_decide_eq_true c2
        injection this
        omega
      obtain ⟨vw, vn, dw, dn, rfl, rfl, hw, hv⟩ := dd_two hA c2
      have o1 : okD 50 dn = true := okAll_at (i := 1) oka rfl
      refine ⟨_, rfl, a, _, _, vw, rfl, rfl, hS, atI_nat (j := 0) rfl, N, dw, _, hw, rfl, _, rfl, ite2 (fun e => ?_) (fun e => ?_)⟩
      · refine ⟨_, rfl, a, _, _, vn, rfl, rfl, hS, atI_nat (j := 1) rfl, N, vn, dn, rfl, hv, o1, fun H' sm => ⟨_, rfl, ?_⟩⟩
        have z := q H' sm
        rw [cnt_two, e, Bool.true_and] at z
        cases hn : isNum dn with
        | true =>
          rw [hn] at z
          exact z
        | false =>
          rw [hn] at z
          exact z
      · refine no same0 ?_
        rw [cnt_two, Bool.eq_false_iff.mpr e, Bool.false_and]
        rfl
    have c2 : xs.length ≠ 2 := fun z => c2 (decide_eq_true (by rw [z]; rfl))
    refine ⟨_, rfl, a, xs, rfl, .inr hS, rfl, _, rfl, ?_⟩
    by_cases c3 : xs.length = 3
    · refine iteNS (by rw [c3]; rfl) ?_
      obtain ⟨vw, vx, vy, dw, dx, dy, rfl, rfl, hw, hx, hy⟩ := dd_three hA c3
      have o1 : okD 50 dx = true := okAll_at (i := 1) oka rfl
      have o2 : okD 50 dy = true := okAll_at (i := 2) oka rfl
      refine ⟨_, rfl, a, _, _, vw, rfl, rfl, hS, atI_nat (j := 0) rfl, N, dw, _, hw, rfl, _, rfl, ite2 (fun e => ?_) (fun e => ?_)⟩
      · refine ⟨_, rfl, a, _, _, vx, rfl, rfl, hS, atI_nat (j := 1) rfl, N, vx, dx, rfl, hx, o1, fun H' sm => ⟨_, rfl, ite2 (fun l1 => ?_) (fun l1 => ?_)⟩⟩
        · refine ⟨_, rfl, a, _, _, vy, rfl, rfl, Tups.of_same sm _ _ hS, atI_nat (j := 2) rfl, N, vy, dy, rfl, hy.same sm, o2, fun H2 sm2 => ⟨_, rfl, ?_⟩⟩
          have z := q H2 (sm.trans sm2)
          rw [cnt_three, e, if_pos rfl, l1, Bool.true_and] at z
          cases hn : isLabD dy with
          | true =>
            rw [hn] at z
            exact z
          | false =>
            rw [hn] at z
            exact z
        · refine no sm ?_
          rw [cnt_three, e, if_pos rfl, Bool.eq_false_iff.mpr l1, Bool.false_and]
          rfl
      · have e : isStr dw "cell" = false := Bool.eq_false_iff.mpr e
        refine ⟨_, rfl, a, _, _, vw, rfl, rfl, hS, atI_nat (j := 0) rfl, N, dw, pS, signs, hw, rfl, C.sq H, _, rfl, ?_⟩
        cases hs : signs.any (isStr dw) with
        | false =>
          refine iteT (no same0 ?_)
          rw [cnt_three, e, hs]
          rfl
        | true =>
          refine iteF ?_
          refine ⟨_, rfl, a, _, _, vx, rfl, rfl, hS, atI_nat (j := 1) rfl, _, rfl, _, _, rfl, rfl, N, vx, dx, _, rfl, hx, o1, by omega, by omega, fun H1 sm1 => ?_⟩
          have hS1 := Tups.of_same sm1 _ _ hS
          refine ⟨_, rfl, a, _, _, vy, rfl, rfl, hS1, atI_nat (j := 2) rfl, _, rfl, _, _, rfl, rfl, N, vy, dy, _, rfl, hy.same sm1, o2, by omega, by omega, fun H2 sm2 => ?_⟩
          have z := q H2 (sm1.trans sm2)
          rw [cnt_three, e, hs, if_neg Bool.false_ne_true, if_pos rfl] at z
          rw [Nat.add_sub_cancel]
          refine ⟨_, rfl, _, _, rfl, rfl, _, rfl, ite2 (fun p1 => ?_) (fun p1 => ?_)⟩
          · have p1 : 0 < cnt k dx := by
              have := of_decide_eq_true p1
              omega
            rw [decide_eq_true p1, Bool.true_and] at z
            refine ⟨_, rfl, _, _, rfl, rfl, _, rfl, ite2 (fun p2 => ?_) (fun p2 => ?_)⟩
            · have p2 : 0 < cnt k dy := by
                have := of_decide_eq_true p2
                omega
              rw [decide_eq_true p2, if_pos rfl] at z
              refine ⟨_, rfl, _, _, rfl, rfl, _, rfl, _, _, rfl, rfl, ?_⟩
              have e9 : (((1 + cnt k dx + cnt k dy : Nat)) : Int) = 1 + (cnt k dx : Int) + (cnt k dy : Int) := by omega
              rw [e9] at z
              exact z
            · have p2 : ¬ 0 < cnt k dy := fun h => p2 (decide_eq_true (by omega))
              rw [decide_eq_false p2, if_neg Bool.false_ne_true] at z
              exact z
          · have p1 : ¬ 0 < cnt k dx := fun h => p1 (decide_eq_true (by omega))
            rw [decide_eq_false p1, Bool.false_and, if_neg Bool.false_ne_true] at z
            exact z
    · refine (?_ : if (!decide (V.int (xs.length : Int) = V.int 3)) = true then _ else _)
      have c4 : decide (V.int (xs.length : Int) = V.int 3) = false := decide_eq_false fun z => by
        injection z with z
        omega
      rw [c4]
      refine iteT (no same0 (cnt_other ?_ ?_))
      · omega
      · omega
  | _ => exact Bool.noConfusion ht
theorem count_none : FnOk P w K mg base CX0 2 f fd ["thing", "deep"] (spCount K 0) := by
  have bad : ∀ vs H Q E, ¬ spCount K 0 vs H Q E := by
    rintro vs H Q E ⟨N, v, d, dp, _, _, _, _, h, _⟩
    omega
  exact ⟨fun vs H Q E h => absurd h (bad vs H Q E), fun A outer s H args us vs Q E _ _ _ _ h => absurd h (bad vs H Q E)⟩
theorem ok_count (F : Fun K "_count_parts" "_count_parts" sCount f fd) (C : Cs K mg pS)
    (b : Binds K fd ["thing", "deep"] []) (gF : mg "_count_parts" = some (.ref f))
    (GN : FnOk P w K mg base CX0 2 fN fdN ["thing"] (spChk K isNum)) (FN : Fun K "is_number" "is_number" sNumber fN fdN) (bN : Binds K fdN ["thing"] []) (gN : mg "is_number" = some (.ref fN))
    (GL : FnOk P w K mg base CX0 1 fL fdL ["thing"] (spChk K isLabD)) (FL : Fun K "is_name" "is_name" sName fL fdL) (bL : Binds K fdL ["thing"] []) (gL : mg "is_name" = some (.ref fL)) :
    ∀ n : Nat, FnOk P w K mg base CX0 (n + 2) f fd ["thing", "deep"] (spCount K n)
  | 0 => count_none
  | n + 1 => count_step F C (ok_count F C b gF GN FN bN gN GL FL bL gL n) b gF GN FN bN gN GL FL bL gL
variable {fC : Addr} {fdC : FuncData}
theorem ok_part (F : Fun K "is_part" "is_part" sPart f fd) (C : Cs K mg pS) (G : FnOk P w K mg base CX0 8 fC fdC ["thing", "deep"] (spCount K 6))
    (FC : Fun K "_count_parts" "_count_parts" sCount fC fdC) (bC : Binds K fdC ["thing", "deep"] []) (gC : mg "_count_parts" = some (.ref fC)) :
    FnOk P w K mg base CX0 9 f fd ["thing"] (spChk K isPart) := by
  refine F.ok scPart spChk.len (fun cdv A outer s H vs Q E hr h => ?_)
  obtain ⟨N, v, d, rfl, hd, ok, q⟩ := h
  have nd := scPart.nd
  obtain ⟨t, g⟩ := C.most
  refine ⟨_, pss_one (ps_ret (pe_chain op_le op_le pe_int (pe_call G hr (by rfl) gC FC.kp bC .nil pass0 (pa_cons (pv 0) (pa_cons pe_int pa_nil))) (pe_glob (v := .int 15) (by rfl) g ⟨_, rfl⟩))), ?_⟩
  refine ⟨_, rfl, N, v, d, _, rfl, hd, ok, by omega, by omega, fun H' sm => ⟨_, _, rfl, rfl, _, rfl, ite2 (fun c => ?_) (fun c => ?_)⟩⟩
  · have z := q H' sm
    have c1 : 1 ≤ cnt 5 d := by
      have c : (1 : Int) ≤ (cnt 5 d : Nat) := of_decide_eq_true c
      omega
    have e : isPart d = decide ((cnt 5 d : Int) ≤ 15) := by
      unfold isPart
      rw [decide_eq_true c1, Bool.true_and]
      exact decide_eq_decide.mpr (by omega)
    rw [e] at z
    exact ⟨_, _, rfl, rfl, z⟩
  · have z := q H' sm
    have c1 : ¬ 1 ≤ cnt 5 d := fun h => c (decide_eq_true (show (1 : Int) ≤ (cnt 5 d : Nat) by omega))
    have e : isPart d = false := by
      unfold isPart
      rw [decide_eq_false c1, Bool.false_and]
    rw [e] at z
    exact z
end
end K01
end

section
set_option Elab.async false
set_option linter.all false
set_option maxRecDepth 100000
set_option maxHeartbeats 4000000
namespace Gd
open PySem PySem.Spec PyProof.Rows L2
theorem fresh_same {H : Hp} {q : Addr} {o : HO} (n : H q = none) : Same H (upd H q o) := fun b u e => by
  rw [upd_ne (ne_of_none e n)]
  exact e
section
variable {X : Cx}
/-- a list beside [] -/
def rL0 (K : PySem.W.Frag) (neg : Bool) : R2 := fun x y H Q => ∃ a b xs, x = .ref a ∧ y = .ref b ∧ SqL K H a xs ∧ SqL K H b [] ∧ Q (.bl (if neg then !xs.isEmpty else xs.isEmpty)) H
theorem op_eqL0 (hu : X.A.units < cLine) : OpR X (compareOp .Eq) (rL0 X.K false) := by
  intro pins s σ H x y v u Q I rx ry h
  obtain ⟨a, b, xs, rfl, rfl, ha, hb, q⟩ := h
  cases rx
  cases ry
  obtain ⟨its, r, pl, _⟩ := I.list ha
  obtain ⟨its2, r2, pl2, _⟩ := I.list hb
  cases r2
  cases r with
  | nil => exact SeqAt.RcAt.lists (e := fun _ => true) pl.isList pl2.isList rfl hu (fun j h1 _ => absurd h1 (by simp)) _ _ _ _ ⟨.bl _, H, I, rfl, q⟩
  | cons _ _ => exact SeqAt.RcAt.lists_lengths pl.isList pl2.isList (by simp) hu _ _ _ _ ⟨.bl _, H, I, rfl, q⟩
theorem op_neL0 (hu : X.A.units < cLine) : OpR X (compareOp .NotEq) (rL0 X.K true) := by
  intro pins s σ H x y v u Q I rx ry h
  obtain ⟨a, b, xs, rfl, rfl, ha, hb, q⟩ := h
  cases rx
  cases ry
  obtain ⟨its, r, pl, _⟩ := I.list ha
  obtain ⟨its2, r2, pl2, _⟩ := I.list hb
  cases r2
  cases r with
  | nil => exact SeqAt.RcNeAt.lists (e := fun _ => true) pl.isList pl2.isList rfl hu (fun j h1 _ => absurd h1 (by simp)) _ _ _ _ ⟨.bl _, H, I, rfl, q⟩
  | cons _ _ => exact SeqAt.RcNeAt.lists_lengths pl.isList pl2.isList (by simp) hu _ _ _ _ ⟨.bl _, H, I, rfl, q⟩
end
end Gd
namespace K01
open PySem PySem.Spec PyProof.Rows L2 Gd
abbrev sLWhole : Stmt := topS 21
abbrev sLLabel : Stmt := topS 22
theorem scLWhole : FnScope ["_law_so_now", "_law_most"] ["_law_so_now", "_law_most"] (defScope sLWhole) :=
  ⟨rfl, rfl, rfl, by decide +kernel, rfl, by decide +kernel, by decide +kernel⟩
theorem scLLabel : FnScope ["_law_so_now", "_law_sign"] ["_law_so_now"] (defScope sLLabel) :=
  ⟨rfl, rfl, rfl, by decide +kernel, rfl, by decide +kernel, by decide +kernel⟩
theorem none_out {α β : Type} (p : α → Bool) (g : α → β) : ∀ l : List α, ((l.filter fun c => !p c).map g).isEmpty = l.all p
  | [] => rfl
  | c :: l => by
    rw [List.filter_cons, List.all_cons]
    cases h : p c with
    | true =>
      rw [if_neg (by decide), Bool.true_and]
      exact none_out p g l
    | false =>
      rw [if_pos (by decide), Bool.false_and]
      rfl
theorem str_nil {x : Str} (h : x.length = 0) : x = "" := by
  obtain ⟨c⟩ := x
  have h : c.size = 0 := h
  rw [Array.eq_empty_of_size_eq_zero h] <;> rfl
section
variable {P : Program} {w : World} {K : PySem.W.Frag} {mg : Str → Option Value} {base : Heap} {f : Addr} {fd : FuncData} {pS : Addr}
def spNear (K : PySem.W.Frag) : Sp := fun vs H Q _ => ∃ (N : Addr → Prop) (v : V) (d : PyData) (m : Int), vs = [v, .int m] ∧ Dd K H N v d ∧ Q (.bl (nearB m d)) H
theorem ok_lwhole (F : Fun K "_law_is_whole" "_law_is_whole" sLWhole f fd) (C : Cs K mg pS) :
    FnOk P w K mg base CX0 1 f fd ["_law_so_now", "_law_most"] (spNear K) := by
  refine F.ok scLWhole (fun vs H Q E h => ?_) (fun cdv A outer s H vs Q E hr h => ?_)
  · obtain ⟨N, v, d, m, rfl, _⟩ := h
    rfl
  obtain ⟨N, v, d, m, rfl, hd, q⟩ := h
  have nd := scLWhole.nd
  refine ⟨_, pss_one (ps_ret (pe_and (pe_callB call_isi (by rfl) C.isi (by decide +kernel) (pa_cons (pv 0) (pa_cons (pe_bltn (v := .ty "int") (by rfl) C.int (by decide +kernel) rfl) pa_nil)))
    (pe_and (pe_not (pe_callB call_isi (by rfl) C.isi (by decide +kernel) (pa_cons (pv 0) (pa_cons (pe_bltn (v := .ty "bool") (by rfl) C.bool (by decide +kernel) rfl) pa_nil))))
    (pe_one (pe_cmpR op_lt (pe_callB call_abs (by rfl) C.abs (by decide +kernel) (pa_cons (pv 0) pa_nil)) (pv 1) (nomark _)))))), ?_⟩
  refine ⟨_, rfl, _, _, _, _, isI d, rfl, .ty _, hd.kind, kit_ty (k_int d), _, rfl, ite2 (fun e => ?_) (fun e => ?_)⟩
  · refine ⟨_, rfl, _, _, _, _, isB d, rfl, .ty _, hd.kind, kit_ty (k_bool d), _, rfl, _, rfl, ite2 (fun e2 => ?_) (fun e2 => ?_)⟩
    · obtain ⟨i, rfl, rfl⟩ := isI_num hd (by rw [e, e2]; rfl)
      refine ⟨_, rfl, i, rfl, _, rfl, _, _, rfl, rfl, ?_⟩
      have e3 : decide ((if i < 0 then -i else i) < m) = nearB m (.int i) := by
        show _ = (decide (-m < i) && decide (i < m))
        rw [← Bool.decide_and]
        refine decide_eq_decide.mpr ?_
        split <;> omega
      show Q (.bl (decide ((if i < 0 then -i else i) < m))) H
      rw [e3]
      exact q
    · have z : nearB m d = false := by
        cases d with
        | int i => exact absurd rfl e2
        | _ => rfl
      rw [z] at q
      exact q
  · have z : nearB m d = false := by
      cases d with
      | int i => exact absurd rfl e
      | _ => rfl
    rw [z] at q
    exact q
theorem ok_llabel (F : Fun K "_law_is_label" "_law_is_label" sLLabel f fd) (C : Cs K mg pS) :
    FnOk P w K mg base CX0 1 f fd ["_law_so_now"] (spChk K isLabD) := by
  refine F.ok scLLabel spChk.len (fun cdv A outer s H vs Q E hr h => ?_)
  obtain ⟨N, v, d, rfl, hd, ok, q⟩ := h
  have nd := scLLabel.nd
  refine ⟨_, pss_cons (ps_if (PW.pt (pw_or (pt_not (pt_val (pe_callB call_isi (by rfl) C.isi (by decide +kernel) (pa_cons (pv 0) (pa_cons (pe_bltn (v := .ty "str") (by rfl) C.str (by decide +kernel) rfl) pa_nil)))))
      (pw_or (pt_cmpR op_eq (pv 0) pe_str (nomark _)) (pw_or1 (pt_cmpR op_gt (pe_callB call_len_str (by rfl) C.len PySem.boot_len (pa_cons (pv 0) pa_nil)) pe_int (nomark _))))))
      (pss_one (ps_ret pe_bl)) pss_nil)
    (pss_one (ps_ret (pe_cmpR (op_eqL0 hr.units0) (pe_lc (own := [("_law_sign", 1)]) (g := gName 1) rfl nd (pi_str (pv 0))
        (blkOk_by (N := ["_law_so_now", "_law_sign"]) (sc := defScope sLLabel) (by decide +kernel)) (fun _ _ _ _ _ => pg_name (i := 1) nd rfl (Or.inl rfl))
        (fun _ _ _ _ _ => pts_one (pt_cmpR op_notIn_sign (pv 1) pe_str (by rfl)))
        (fun _ _ _ _ _ => pv 1)) (pe_lst pa_nil) (nomark _)))), ?_⟩
  refine ⟨_, rfl, _, _, _, _, isS d, rfl, .ty _, hd.kind, kit_ty (k_str d), _, rfl, ?_⟩
  have no : ∀ e : isLabD d = false, Q (.bl false) H := fun e => by
    have z := q H (fun _ _ e => e)
    rw [e] at z
    exact z
  cases hs : isS d with
  | false =>
    have e : isLabD d = false := by
      cases d with
      | str x => exact Bool.noConfusion hs
      | _ => rfl
    exact iteT (no e)
  | true =>
    refine iteF ?_
    cases d with
    | str x =>
      cases hd
      obtain ⟨xl, xa⟩ : x.length ≤ 150 ∧ x.cps.toList.all (fun c => decide (c < 128)) = true := by simpa only [okD, Bool.and_eq_true, decide_eq_true_eq] using ok
      have xz : x.length ≤ sizeLine := Nat.le_trans xl (by decide)
      have lab : isLabD (.str x) = (decide (1 ≤ x.length) && decide (x.length ≤ 8) && x.cps.toList.all (fun c => decide (c ∈ ("abcdefghijklmnopqrstuvwxyz" : Str).cps.toList))) := rfl
      refine ⟨_, rfl, rfl, _, rfl, ite2 (fun c0 => ?_) (fun c0 => ?_)⟩
      · have c0 := of_decide_eq_true c0
        injection c0 with c0
        refine iteT (no ?_)
        subst c0
        rfl
      have c1 : 1 ≤ x.length := by
        refine Nat.pos_of_ne_zero fun z => c0 (decide_eq_true ?_)
        rw [str_nil z]
      refine ⟨_, rfl, x, rfl, xz, _, _, rfl, rfl, _, rfl, ite2 (fun c8 => ?_) (fun c8 => ?_)⟩
      · have c8 := of_decide_eq_true c8
        refine no ?_
        rw [lab, decide_eq_false (show ¬ x.length ≤ 8 by omega), Bool.and_false, Bool.false_and]
      have c8 : x.length ≤ 8 := by
        refine Nat.le_of_not_lt fun z => c8 (decide_eq_true ?_)
        omega
      rw [decide_eq_true c1, decide_eq_true c8, Bool.true_and, Bool.true_and] at lab
      refine ⟨_, rfl, x, rfl, fun D hD => ?_⟩
      let al : List Nat := ("abcdefghijklmnopqrstuvwxyz" : Str).cps.toList
      refine lc_it walk_str (fun i H' => Same H H' ∧ H' D = some (.lst (((x.cps.toList.take i).filter fun c => !decide (c ∈ al)).map fun c => V.str ⟨#[c]⟩))) ?_ ?_ ?_ ?_
      · exact ⟨fun b u e => by rw [upd_ne (ne_of_none e hD)]; exact e, upd_same⟩
      · exact fun _ _ _ _ => trivial
      · rintro i v H1 H2 hi ⟨sm, eD⟩ ⟨rfl, c, ec, rfl⟩
        refine ⟨rfl, ?_⟩
        have e2 : x.cps.toList.take (i + 1) = x.cps.toList.take i ++ [c] := by
          rw [List.take_add_one, Array.getElem?_toList, ec]
          rfl
        have hl : (((x.cps.toList.take i).filter fun c => !decide (c ∈ al)).map fun c => V.str ⟨#[c]⟩).length < sizeLine := by
          rw [List.length_map]
          have h1 := List.length_filter_le (fun c => !decide (c ∈ al)) (x.cps.toList.take i)
          have h2 : (x.cps.toList.take i).length ≤ i := by
            rw [List.length_take]
            exact Nat.min_le_left _ _
          have e3 : x.length = x.cps.size := rfl
          have z : sizeLine = 16777216 := rfl
          omega
        refine ⟨_, rfl, c, _, rfl, rfl, _, rfl, ?_⟩
        rw [e2, List.filter_append, List.map_append]
        refine ite2 (fun k => ?_) (fun k => ?_)
        · refine ⟨_, rfl, _, eD, hl, ?_, ?_⟩
          · intro b u e
            rw [upd_ne (ne_of_none e hD)]
            exact sm _ _ e
          · rw [List.filter_cons, if_pos k]
            exact upd_same
        · refine ⟨sm, ?_⟩
          rw [List.filter_cons, if_neg k, List.filter_nil, List.map_nil, List.append_nil]
          exact eD
      · rintro H1 ⟨sm, eD⟩
        have e3 : x.cps.size = x.cps.toList.length := rfl
        rw [e3, List.take_length] at eD
        refine ⟨Nat.zero_le _, fun p hp => ?_⟩
        have eD2 := fresh_same (o := .lst []) hp _ _ eD
        refine ⟨D, p, _, rfl, rfl, SqL.of eD2, SqL.of upd_same, ?_⟩
        have z := q _ (sm.trans (fresh_same (o := .lst []) hp))
        rw [lab] at z
        rw [if_neg Bool.false_ne_true, none_out]
        exact z
    | _ => exact Bool.noConfusion hs
end
end K01
end

section
set_option Elab.async false
set_option linter.all false
set_option maxRecDepth 100000
set_option maxHeartbeats 4000000
namespace K01
open PySem PySem.Spec PyProof.Rows L2 Gd
abbrev sLPiece : Stmt := topS 23
theorem scLPiece : FnScope ["_law_so_now", "_law_pile", "_law_many", "_law_one", "_law_deep"] ["_law_so_now"] (defScope sLPiece) :=
  ⟨rfl, rfl, rfl, by decide +kernel, rfl, by decide +kernel, by decide +kernel⟩
/-- a pile of things and how deep they stand -/
abbrev Pile := List (PyData × Nat)
def ans (m : Nat) (ps : Pile) : Bool := ps.all (fun p => decide (0 < cnt (6 - p.2) p.1)) && decide (m + (ps.map fun p => cnt (6 - p.2) p.1).sum ≤ 15)
/-- it lies so at H; the things as they were at G -/
inductive PileAt (K : PySem.W.Frag) (G H : Hp) : List V → Pile → Prop
  | nil : PileAt K G H [] []
  | cons {t : Addr} {N : Addr → Prop} {v : V} {d : PyData} {n : Nat} {vs : List V} {ps : Pile} : SqT K H t [v, .int n] → Dd K G N v d → okD 50 d = true → 1 ≤ n → PileAt K G H vs ps →
    PileAt K G H (.ref t :: vs) ((d, n) :: ps)
section
variable {K : PySem.W.Frag} {G H H' : Hp}
theorem PileAt.tups (s : Tups K H H') : ∀ {vs : List V} {ps : Pile}, PileAt K G H vs ps → PileAt K G H' vs ps
  | _, _, .nil => .nil
  | _, _, .cons a b c d e => .cons (s _ _ a) b c d (PileAt.tups s e)
theorem PileAt.app : ∀ {vs us : List V} {ps qs : Pile}, PileAt K G H vs ps → PileAt K G H us qs → PileAt K G H (vs ++ us) (ps ++ qs)
  | _, _, _, _, .nil, h => h
  | _, _, _, _, .cons a b c d e, h => .cons a b c d (PileAt.app e h)
theorem PileAt.last : ∀ {vs : List V} {ps : Pile}, PileAt K G H vs ps → vs ≠ [] → ∃ (ps' : Pile) (t : Addr) (N : Addr → Prop) (v : V) (d : PyData) (n : Nat),
    ps = ps' ++ [(d, n)] ∧ vs[vs.length - 1]? = some (.ref t) ∧ SqT K H t [v, .int n] ∧ Dd K G N v d ∧ okD 50 d = true ∧ 1 ≤ n ∧ PileAt K G H vs.dropLast ps'
  | _, _, .nil, h => absurd rfl h
  | _, _, .cons (vs := []) a b c d e, _ => by
    cases e
    exact ⟨[], _, _, _, _, _, rfl, rfl, a, b, c, d, .nil⟩
  | _, _, .cons (vs := u :: us) a b c d e, _ => by
    obtain ⟨ps', t, N, v, x, n, rfl, h1, h2, h3, h4, h5, h6⟩ := PileAt.last e (List.cons_ne_nil _ _)
    refine ⟨_ :: ps', t, N, v, x, n, rfl, ?_, h2, h3, h4, h5, .cons a b c d h6⟩
    rw [List.length_cons, Nat.add_sub_cancel]
    rw [List.length_cons, Nat.add_sub_cancel] at h1
    rw [List.length_cons, List.getElem?_cons_succ]
    exact h1
end
theorem ans_nil {m : Nat} (h : m ≤ 15) : ans m [] = true := by
  show (true && decide (m + 0 ≤ 15)) = true
  rw [decide_eq_true (by omega)] <;> rfl
theorem ans_snoc {m : Nat} {ps : Pile} {d : PyData} {n : Nat} : ans m (ps ++ [(d, n)]) =
    (decide (0 < cnt (6 - n) d) && ps.all (fun p => decide (0 < cnt (6 - p.2) p.1)) && decide (m + cnt (6 - n) d + (ps.map fun p => cnt (6 - p.2) p.1).sum ≤ 15)) := by
  unfold ans
  rw [List.all_append, List.map_append, List.sum_append]
  have e1 : ([(d, n)] : Pile).all (fun p => decide (0 < cnt (6 - p.2) p.1)) = decide (0 < cnt (6 - n) d) := by
    simp
  have e2 : (([(d, n)] : Pile).map fun p => cnt (6 - p.2) p.1).sum = cnt (6 - n) d := by
    simp
  rw [e1, e2, Bool.and_comm (List.all ps _)]
  have e3 : (m + ((ps.map fun p => cnt (6 - p.2) p.1).sum + cnt (6 - n) d) ≤ 15) = (m + cnt (6 - n) d + (ps.map fun p => cnt (6 - p.2) p.1).sum ≤ 15) := by
    refine propext ⟨fun h => by omega, fun h => by omega⟩
  simp only [e3]
theorem ans_none {m : Nat} {ps : Pile} {d : PyData} {n : Nat} (h : cnt (6 - n) d = 0) : ans m (ps ++ [(d, n)]) = false := by
  rw [ans_snoc, h, decide_eq_false (by omega), Bool.false_and, Bool.false_and]
theorem ans_full {m : Nat} {ps : Pile} {d : PyData} {n : Nat} (h : 15 < m + 1) : ans m (ps ++ [(d, n)]) = false := by
  rw [ans_snoc]
  by_cases z : 0 < cnt (6 - n) d
  · rw [decide_eq_false (show ¬ (m + cnt (6 - n) d + (ps.map fun p => cnt (6 - p.2) p.1).sum ≤ 15) by omega), Bool.and_false]
  · rw [decide_eq_false z, Bool.false_and, Bool.false_and]
theorem ans_leaf {m : Nat} {ps : Pile} {d : PyData} {n : Nat} (h : cnt (6 - n) d = 1) : ans m (ps ++ [(d, n)]) = ans (m + 1) ps := by
  rw [ans_snoc, h]
  unfold ans
  rw [decide_eq_true (by omega), Bool.true_and]
theorem ans_node {m k : Nat} {ps : Pile} {dw dx dy : PyData} {n : Nat} (hk : 6 - n = k + 1) (h1 : isStr dw "cell" = false) (h2 : signs.any (isStr dw) = true) :
    ans m (ps ++ [(.tuple [dw, dx, dy], n)]) = ans (m + 1) (ps ++ [(dx, n + 1), (dy, n + 1)]) := by
  have e : ps ++ [(dx, n + 1), (dy, n + 1)] = (ps ++ [(dx, n + 1)]) ++ [(dy, n + 1)] := by simp
  have k2 : 6 - (n + 1) = k := by omega
  rw [ans_snoc, e, ans_snoc, hk, cnt_three, h1, h2, if_neg Bool.false_ne_true, if_pos rfl, k2, List.all_append, List.map_append, List.sum_append]
  have e1 : ([(dx, n + 1)] : Pile).all (fun p => decide (0 < cnt (6 - p.2) p.1)) = decide (0 < cnt k dx) := by
    simp [k2]
  have e2 : (([(dx, n + 1)] : Pile).map fun p => cnt (6 - p.2) p.1).sum = cnt k dx := by
    simp [k2]
  rw [e1, e2]
  by_cases x0 : 0 < cnt k dx
  · by_cases y0 : 0 < cnt k dy
    · rw [decide_eq_true x0, decide_eq_true y0, Bool.and_self, if_pos rfl, decide_eq_true (by omega), Bool.true_and, Bool.true_and, Bool.and_true]
      congr 1
      exact decide_eq_decide.mpr (by omega)
    · rw [decide_eq_false y0, Bool.and_false, if_neg Bool.false_ne_true, decide_eq_false (by omega), Bool.false_and, Bool.false_and, Bool.false_and, Bool.false_and]
  · rw [decide_eq_false x0, Bool.false_and, if_neg Bool.false_ne_true, decide_eq_false (by omega), Bool.false_and, Bool.false_and, Bool.and_false, Bool.and_false, Bool.false_and]
end K01
end

section
set_option Elab.async false
set_option linter.all false
set_option maxRecDepth 100000
set_option maxHeartbeats 4000000
namespace K01
open PySem PySem.Spec PyProof.Rows L2 Gd
def intOf : Option (Option V) → Nat
  | some (some (V.int i)) => i.toNat
  | _ => 0
def manyOf (σ : List (Option V)) : Nat := intOf σ[2]?
theorem inV_int {k : Nat} : inV (.int (k : Int)) [.int 2, .int 3] = (decide (k = 2) || decide (k = 3)) := by
  show ((2 : Int) == (k : Int) || ((3 : Int) == (k : Int) || false)) = _
  rw [Bool.or_false]
  by_cases h2 : k = 2
  · subst h2; rfl
  · by_cases h3 : k = 3
    · subst h3; rfl
    · rw [decide_eq_false h2, decide_eq_false h3, beq_eq_false_iff_ne.mpr (by omega), beq_eq_false_iff_ne.mpr (by omega)]
theorem str_dec {x b : Str} : decide (V.str x = V.str b) = isStr (.str x) b := by
  show _ = (x == b)
  by_cases h : x = b
  · subst h
    rw [decide_eq_true rfl, beq_self_eq_true]
  · rw [decide_eq_false (fun z => h (by injection z)), beq_eq_false_iff_ne.mpr h]
theorem beq_turn {x b : Str} : (b == x) = (x == b) := by
  by_cases h : x = b
  · rw [h]
  · rw [beq_eq_false_iff_ne.mpr h, beq_eq_false_iff_ne.mpr (fun z => h z.symm)]
theorem inV_strs {x : Str} : ∀ bs : List Str, inV (.str x) (bs.map V.str) = bs.any (isStr (.str x))
  | [] => rfl
  | b :: bs => by
    have e := inV_strs (x := x) bs
    unfold inV at e ⊢
    rw [List.map_cons, List.any_cons, List.any_cons, e]
    show ((b == x) || _) = ((x == b) || _)
    rw [beq_turn]
theorem near_num (d : PyData) : nearB (10 ^ 30) d = isNum d := by
  cases d <;> rfl
theorem cnt_nostr {k : Nat} {dw : PyData} {ds : List PyData} (h : isS dw = false) : cnt k (.tuple (dw :: ds)) = 0 := by
  have e : ∀ b, isStr dw b = false := fun b => by
    cases dw with
    | str x => exact Bool.noConfusion h
    | _ => rfl
  cases k with
  | zero => rfl
  | succ k =>
    match ds with
    | [] => rfl
    | [n] => rw [cnt_two, e, Bool.false_and]; rfl
    | [x, y] =>
      have z : signs.any (isStr dw) = false := by
        show (isStr dw _ || (isStr dw _ || (isStr dw _ || (isStr dw _ || false)))) = false
        rw [e, e, e, e] <;> rfl
      rw [cnt_three, e, z] <;> rfl
    | _ :: _ :: _ :: _ => rfl
section
variable {P : Program} {w : World} {K : PySem.W.Frag} {mg : Str → Option Value} {base : Heap} {f : Addr} {fd : FuncData} {pS : Addr}
variable {fW fL : Addr} {fdW fdL : FuncData}
theorem ok_lpiece (F : Fun K "_law_is_piece" "_law_is_piece" sLPiece f fd) (C : Cs K mg pS)
    (GW : FnOk P w K mg base CX0 1 fW fdW ["_law_so_now", "_law_most"] (spNear K)) (FW : Fun K "_law_is_whole" "_law_is_whole" sLWhole fW fdW) (bW : Binds K fdW ["_law_so_now", "_law_most"] []) (gW : mg "_law_is_whole" = some (.ref fW))
    (GL : FnOk P w K mg base CX0 1 fL fdL ["_law_so_now"] (spChk K isLabD)) (FL : Fun K "_law_is_label" "_law_is_label" sLLabel fL fdL) (bL : Binds K fdL ["_law_so_now"] []) (gL : mg "_law_is_label" = some (.ref fL)) :
    FnOk P w K mg base CX0 2 f fd ["_law_so_now"] (spChk K isPart) := by
  refine F.ok scLPiece spChk.len (fun cdv A outer s H vs Q E hr h => ?_)
  obtain ⟨N, v0, d0, rfl, hd0, ok0, q⟩ := h
  have nd := scLPiece.nd
  refine ⟨_, pss_cons (ps_set (i := 1) nd rfl (.inl rfl) (pe_lst (pa_cons (pe_tup (pa_cons (pv 0) (pa_cons pe_int pa_nil))) pa_nil)))
    (pss_cons (ps_set (i := 2) nd rfl (.inl rfl) pe_int)
    (pss_cons (ps_while PassesOwn.never (pt_cmpR (op_neL0 hr.units0) (pv 1) (pe_lst pa_nil) (nomark _))
      (pss_cons (ps_asg (pe_bm0 PySem.F.plainAttrs_list PySem.F.slot_list_pop PySem.F.type_list_pop mt_pop (pv 1))
          (pg_tup (by rfl) (pgs_cons (pg_name (i := 3) nd rfl (.inl rfl)) (pgs_cons (pg_name (i := 4) nd rfl (.inl rfl)) pgs_nil))))
      (pss_cons (ps_set (i := 2) nd rfl (.inl rfl) (pe_op op_add (pv 2) pe_int))
      (pss_cons (ps_if (PW.pt (pw_or (pt_cmpR op_gt (pv 2) pe_int (nomark _)) (pw_or (pt_cmpR op_gt (pv 4) pe_int (nomark _))
          (pw_or (pt_not (pt_val (pe_callB call_isi (by rfl) C.isi (by decide +kernel) (pa_cons (pv 3) (pa_cons (pe_bltn (v := .ty "tuple") (by rfl) C.tup (by decide +kernel) rfl) pa_nil)))))
          (pw_or1 (pt_cmpR op_notIn_seq (pe_callB call_len_seq (by rfl) C.len PySem.boot_len (pa_cons (pv 3) pa_nil)) (pe_tup (pa_cons pe_int (pa_cons pe_int pa_nil))) (by rfl)))))))
          (pss_one (ps_ret pe_bl)) pss_nil)
      (pss_cons (ps_if (pt_not (pt_val (pe_callB call_isi (by rfl) C.isi (by decide +kernel) (pa_cons (pe_ix ix_tup (pv 3) pe_int (fun _ _ => rfl)) (pa_cons (pe_bltn (v := .ty "str") (by rfl) C.str (by decide +kernel) rfl) pa_nil)))))
          (pss_one (ps_ret pe_bl)) pss_nil)
      (pss_cons (ps_if (PW.pt (pw_and (pt_cmpR op_eq (pe_callB call_len_seq (by rfl) C.len PySem.boot_len (pa_cons (pv 3) pa_nil)) pe_int (nomark _))
          (pw_and1 (PW.pt (pw_or (pt_cmpR op_ne (pe_ix ix_tup (pv 3) pe_int (fun _ _ => rfl)) pe_str (nomark _))
            (pw_or1 (pt_not (pt_val (pe_call GW hr (by rfl) gW FW.kp bW .nil pass0 (pa_cons (pe_ix ix_tup (pv 3) pe_int (fun _ _ => rfl)) (pa_cons (pe_op op_pow pe_int pe_int) pa_nil)))))))))))
          (pss_one (ps_ret pe_bl)) pss_nil)
      (pss_cons (ps_if (PW.pt (pw_and (pt_cmpR op_eq (pe_callB call_len_seq (by rfl) C.len PySem.boot_len (pa_cons (pv 3) pa_nil)) pe_int (nomark _))
          (pw_and (pt_cmpR op_eq (pe_ix ix_tup (pv 3) pe_int (fun _ _ => rfl)) pe_str (nomark _))
          (pw_and1 (pt_not (PW.pt (pw_and (pt_val (pe_call GL hr (by rfl) gL FL.kp bL .nil pass0 (pa_cons (pe_ix ix_tup (pv 3) pe_int (fun _ _ => rfl)) pa_nil)))
            (pw_and1 (pt_val (pe_call GL hr (by rfl) gL FL.kp bL .nil pass0 (pa_cons (pe_ix ix_tup (pv 3) pe_int (fun _ _ => rfl)) pa_nil)))))))))))
          (pss_one (ps_ret pe_bl)) pss_nil)
      (pss_cons (ps_if (PW.pt (pw_and (pt_cmpR op_eq (pe_callB call_len_seq (by rfl) C.len PySem.boot_len (pa_cons (pv 3) pa_nil)) pe_int (nomark _))
          (pw_and1 (pt_cmpR op_notIn_seq (pe_ix ix_tup (pv 3) pe_int (fun _ _ => rfl)) (pe_tup (pa_cons pe_str (pa_cons pe_str (pa_cons pe_str (pa_cons pe_str (pa_cons pe_str pa_nil)))))) (by rfl)))))
          (pss_one (ps_ret pe_bl)) pss_nil)
      (pss_one (ps_if (PW.pt (pw_and (pt_cmpR op_eq (pe_callB call_len_seq (by rfl) C.len PySem.boot_len (pa_cons (pv 3) pa_nil)) pe_int (nomark _))
          (pw_and1 (pt_cmpR op_ne (pe_ix ix_tup (pv 3) pe_int (fun _ _ => rfl)) pe_str (nomark _)))))
          (pss_one (ps_set (i := 1) nd rfl (.inl rfl) (pe_op op_cat (pv 1) (pe_lst (pa_cons (pe_tup (pa_cons (pe_ix ix_tup (pv 3) pe_int (fun _ _ => rfl)) (pa_cons (pe_op op_add (pv 4) pe_int) pa_nil)))
            (pa_cons (pe_tup (pa_cons (pe_ix ix_tup (pv 3) pe_int (fun _ _ => rfl)) (pa_cons (pe_op op_add (pv 4) pe_int) pa_nil))) pa_nil)))))) pss_nil))))))))))
    (pss_one (ps_ret pe_bl)))), ?_⟩
  refine ⟨_, rfl, (by show 2 ≤ sizeLine; decide), fun t0 ht0 => ?_⟩
  refine ⟨(by show 1 ≤ sizeLine; decide), fun l0 hl0 => ?_⟩
  have s1 : Same H (upd H t0 (.tup [v0, .int 1])) := fresh_same ht0
  have s2 := s1.trans (fresh_same (o := .lst [.ref t0]) hl0)
  have start : isPart d0 = ans 0 [(d0, 1)] := by
    unfold isPart ans
    simp
    rfl
  refine while_by (fun σ' H' => Same H H' ∧ ∃ (l : Addr) (us : List V) (ps : Pile) (m : Nat) (x3 x4 : Option V), σ' = [some v0, some (.ref l), some (.int m), x3, x4] ∧ H l = none ∧
      H' l = some (.lst us) ∧ PileAt K H H' us ps ∧ m ≤ 15 ∧ us.length ≤ 1 + m ∧ ans m ps = isPart d0) (fun σ' H' => 16 - manyOf σ') ?_ ?_ ?_
  · refine ⟨s2, l0, [.ref t0], [(d0, 1)], 0, none, none, rfl, ?_, upd_same, ?_, by omega, by simp, start.symm⟩
    · cases e : H l0 with
      | none => rfl
      | some o => 
        have := s1 _ _ e
        rw [hl0] at this
        cases this
    · refine .cons (t := t0) (n := 1) ?_ hd0 ok0 (by omega) .nil
      exact SqT.of (fresh_same hl0 _ _ upd_same)
  · rintro σ' H1 ⟨sm, l, us, ps, m, x3, x4, rfl, nl, el, hp, hm, hul, ha⟩
    refine ⟨_, rfl, Nat.zero_le _, fun e0 he0 => ?_⟩
    have k1 : Same H1 (upd H1 e0 (.lst [])) := fresh_same he0
    have el1 := k1 _ _ el
    refine ⟨l, e0, us, rfl, rfl, SqL.of el1, SqL.of upd_same, _, rfl, ?_⟩
    have sm1 := sm.trans k1
    rw [if_pos rfl]
    by_cases hus : us = []
    · subst hus
      cases hp
      refine iteF ?_
      have z := q _ sm1
      rw [← ha, ans_nil hm] at z
      exact z
    · rw [show us.isEmpty = false by cases us with
        | nil => exact absurd rfl hus
        | cons _ _ => rfl]
      refine iteT ?_
      obtain ⟨ps', t, N, v, d, n, rfl, hlast, hT, hD, okd, hn, hp'⟩ := hp.last hus
      have hT1 := Tups.of_same k1 _ _ hT
      refine ⟨_, rfl, .inl ⟨rfl, _, SqL.of el1⟩, l, us, .ref t, rfl, rfl, el1, hlast, ?_⟩
      have T2 : Tups K (upd H1 e0 (.lst [])) (upd (upd H1 e0 (.lst [])) l (.lst us.dropLast)) := Tups.upd_lst el1
      have hT2 := T2 _ _ hT1
      have sm2 : Same H (upd (upd H1 e0 (.lst [])) l (.lst us.dropLast)) := fun b u e => by
        rw [upd_ne (ne_of_none e nl)]
        exact sm1 _ _ e
      have hp2 := hp'.tups ((Tups.of_same k1).trans T2)
      generalize hH2 : upd (upd H1 e0 (.lst [])) l (.lst us.dropLast) = H2 at *
      have el2 : H2 l = some (.lst us.dropLast) := by rw [← hH2]; exact upd_same
      clear hH2
      refine ⟨t, _, rfl, hT2, rfl, v, _, rfl, .int n, [], rfl, rfl, ?_⟩
      refine ⟨_, rfl, _, _, rfl, rfl, ?_⟩
      have fin : ∀ {H' : Hp}, Same H2 H' → isPart d0 = false → Q (.bl false) H' := fun s e => by
        have z := q _ (sm2.trans s)
        rw [e] at z
        exact z
      have id2 : Same H2 H2 := fun _ _ e => e
      have hD2 := hD.same sm2
      have ulen : us.dropLast.length + 1 = us.length := by
        rw [List.length_dropLast]
        have := List.length_pos_iff.mpr hus
        omega
      refine ⟨_, rfl, _, _, rfl, rfl, _, rfl, ite2 (fun c => ?_) (fun c => ?_)⟩
      · have c : 15 < m + 1 := by
          have := of_decide_eq_true c
          omega
        exact fin id2 (by rw [← ha]; exact ans_full c)
      have c : m + 1 ≤ 15 := by
        refine Nat.le_of_not_lt fun z => c (decide_eq_true ?_)
        omega
      refine ⟨_, rfl, _, _, rfl, rfl, _, rfl, ite2 (fun c5 => ?_) (fun c5 => ?_)⟩
      · have c5 : 6 - n = 0 := by
          have := of_decide_eq_true c5
          omega
        exact fin id2 (by rw [← ha]; exact ans_none (by rw [c5]; rfl))
      obtain ⟨k, hk⟩ : ∃ k, 6 - n = k + 1 := by
        refine ⟨5 - n, ?_⟩
        have : ¬ 5 < n := fun z => c5 (decide_eq_true (by omega))
        omega
      refine ⟨_, rfl, _, _, _, _, isT d, rfl, .ty _, hD2.kind, kit_ty (k_tup d), _, rfl, ?_⟩
      cases ht : isT d with
      | false => exact iteT (fin id2 (by rw [← ha]; exact ans_none (cnt_no ht)))
      | true =>
      refine iteF ?_
      cases d with
      | tuple ds =>
        clear hD2
        cases hD with
        | @tup a xs _ hS0 hA0 =>
        have hS := Tups.of_same sm2 _ _ hS0
        have hA := hA0.same sm2
        have hlen : xs.length = ds.length := hA.len
        obtain ⟨okl, oka⟩ : ds.length ≤ 50 ∧ okAll 50 ds = true := by simpa only [okD, Bool.and_eq_true, decide_eq_true_eq] using okd
        refine ⟨_, rfl, a, xs, rfl, .inr hS, (by show 2 ≤ sizeLine; decide), fun p2 hp2' => ⟨p2, _, rfl, .inr (SqT.of upd_same), rfl, rfl, _, rfl, ?_⟩⟩
        have k2 : Same H2 (upd H2 p2 (.tup [.int 2, .int 3])) := fresh_same hp2'
        have hS3 := Tups.of_same k2 _ _ hS
        have hA3 := hA.same k2
        have el3 := k2 _ _ el2
        have hp3 := hp2.tups (Tups.of_same k2)
        have sm3 := sm2.trans k2
        generalize upd H2 p2 (.tup [.int 2, .int 3]) = H3 at *
        rw [if_pos rfl, inV_int]
        have id3 : Same H3 H3 := fun _ _ e => e
        by_cases l2 : xs.length = 2
        · rw [l2]
          refine iteF ?_
          obtain ⟨vw, vn, dw, dn, rfl, rfl, hw, hv⟩ := dd_two hA3 l2
          refine ⟨_, rfl, a, _, _, vw, rfl, rfl, hS3, atI_nat (j := 0) rfl, _, _, _, _, isS dw, rfl, .ty _, hw.kind, kit_ty (k_str dw), _, rfl, ?_⟩
          cases hs : isS dw with
          | false => exact iteT (fin k2 (by rw [← ha]; exact ans_none (cnt_nostr hs)))
          | true =>
          refine iteF ?_
          cases dw with
          | str x =>
            cases hw
            have n3 : ¬ V.int (([V.str x, vn].length : Nat) : Int) = V.int 3 := fun z => by
              injection z with z
              simp at z
            refine ⟨_, rfl, a, _, rfl, .inr hS3, rfl, _, rfl, ite2 (fun _ => ?_) (fun c => absurd (decide_eq_true rfl) c)⟩
            refine ⟨_, rfl, a, _, _, _, rfl, rfl, hS3, atI_nat (j := 0) rfl, rfl, _, rfl, ?_⟩
            rw [str_dec]
            cases e : isStr (.str x) "number" with
            | false =>
              refine iteT (fin k2 ?_)
              rw [← ha]
              refine ans_none ?_
              rw [hk, cnt_two, e, Bool.false_and]
              rfl
            | true =>
            refine iteF ⟨_, rfl, a, _, _, vn, rfl, rfl, hS3, atI_nat (j := 1) rfl, 10, 30, rfl, rfl, ⟨by decide, by decide, by decide⟩, _, vn, dn, _, rfl, hv, _, rfl, ?_⟩
            have near : nearB (10 ^ (30 : Int).toNat) dn = isNum dn := near_num dn
            rw [near]
            cases e2 : isNum dn with
            | false =>
              refine iteT (fin k2 ?_)
              rw [← ha]
              refine ans_none ?_
              rw [hk, cnt_two, e, e2]
              rfl
            | true =>
            refine iteF ?_
            refine ⟨_, rfl, a, _, rfl, .inr hS3, rfl, _, rfl, ite2 (fun c => absurd (of_decide_eq_true c) n3) (fun _ => ?_)⟩
            refine ⟨_, rfl, a, _, rfl, .inr hS3, rfl, _, rfl, ite2 (fun c => absurd (of_decide_eq_true c) n3) (fun _ => ?_)⟩
            refine ⟨_, rfl, a, _, rfl, .inr hS3, rfl, _, rfl, ite2 (fun c => absurd (of_decide_eq_true c) n3) (fun _ => ?_)⟩
            refine ⟨⟨sm3, l, _, ps', m + 1, _, _, rfl, nl, el3, hp3, c, by omega, ?_⟩, ?_⟩
            · rw [← ha, ans_leaf]
              rw [hk, cnt_two, e, e2]
              rfl
            · show 16 - ((m : Int) + 1).toNat < 16 - (m : Int).toNat
              omega
          | _ => exact Bool.noConfusion hs
        · by_cases l3 : xs.length = 3
          · rw [l3]
            refine iteF ?_
            obtain ⟨vw, vx, vy, dw, dx, dy, rfl, rfl, hw, hx, hy⟩ := dd_three hA3 l3
            have o1 : okD 50 dx = true := okAll_at (i := 1) oka rfl
            have o2 : okD 50 dy = true := okAll_at (i := 2) oka rfl
            refine ⟨_, rfl, a, _, _, vw, rfl, rfl, hS3, atI_nat (j := 0) rfl, _, _, _, _, isS dw, rfl, .ty _, hw.kind, kit_ty (k_str dw), _, rfl, ?_⟩
            cases hs : isS dw with
            | false => exact iteT (fin k2 (by rw [← ha]; exact ans_none (cnt_nostr hs)))
            | true =>
            refine iteF ?_
            cases dw with
            | str x =>
              cases hw
              have n2 : ¬ V.int (([V.str x, vx, vy].length : Nat) : Int) = V.int 2 := fun z => by
                injection z with z
                simp at z
              refine ⟨_, rfl, a, _, rfl, .inr hS3, rfl, _, rfl, ite2 (fun c => absurd (of_decide_eq_true c) n2) (fun _ => ?_)⟩
              refine ⟨_, rfl, a, _, rfl, .inr hS3, rfl, _, rfl, ite2 (fun _ => ?_) (fun c => absurd (decide_eq_true rfl) c)⟩
              refine ⟨_, rfl, a, _, _, _, rfl, rfl, hS3, atI_nat (j := 0) rfl, rfl, _, rfl, ?_⟩
              rw [str_dec]
              cases e : isStr (.str x) "cell" with
              | true =>
                refine iteT ?_
                refine ⟨_, rfl, a, _, _, vx, rfl, rfl, hS3, atI_nat (j := 1) rfl, _, vx, dx, rfl, hx, o1, fun H4 s4 => ⟨_, rfl, ite2 (fun b1 => ?_) (fun b1 => ?_)⟩⟩
                · have hS4 := Tups.of_same s4 _ _ hS3
                  refine ⟨_, rfl, a, _, _, vy, rfl, rfl, hS4, atI_nat (j := 2) rfl, _, vy, dy, rfl, hy.same s4, o2, fun H5 s5 => ⟨_, rfl, ?_⟩⟩
                  have hS5 := Tups.of_same s5 _ _ hS4
                  cases b2 : isLabD dy with
                  | false =>
                    refine iteT (fin (k2.trans (s4.trans s5)) ?_)
                    rw [← ha]
                    refine ans_none ?_
                    rw [hk, cnt_three, e, if_pos rfl, b1, b2]
                    rfl
                  | true =>
                    refine iteF ?_
                    refine ⟨_, rfl, a, _, rfl, .inr hS5, rfl, _, rfl, ite2 (fun _ => ?_) (fun c => absurd (decide_eq_true rfl) c)⟩
                    refine ⟨_, rfl, a, _, _, _, rfl, rfl, hS5, atI_nat (j := 0) rfl, (by show 5 ≤ sizeLine; decide), fun p5 np5 => ⟨p5, _, rfl, .inr (SqT.of upd_same), rfl, rfl, _, rfl, ?_⟩⟩
                    have k5 : Same H5 _ := fresh_same (o := .tup [.str "cell", .str "plus", .str "less", .str "times", .str "over"]) np5
                    have hS6 := Tups.of_same k5 _ _ hS5
                    have iv : inV (.str x) [.str "cell", .str "plus", .str "less", .str "times", .str "over"] = true := by
                      have z := inV_strs (x := x) ["cell", "plus", "less", "times", "over"]
                      rw [List.any_cons, e, Bool.true_or] at z
                      exact z
                    rw [if_pos rfl, iv]
                    refine iteF ?_
                    refine ⟨_, rfl, a, _, rfl, .inr hS6, rfl, _, rfl, ite2 (fun _ => ?_) (fun c => absurd (decide_eq_true rfl) c)⟩
                    refine ⟨_, rfl, a, _, _, _, rfl, rfl, hS6, atI_nat (j := 0) rfl, rfl, _, rfl, ?_⟩
                    rw [str_dec, e]
                    refine iteF ?_
                    have kk := s4.trans (s5.trans k5)
                    refine ⟨⟨sm3.trans kk, l, _, ps', m + 1, _, _, rfl, nl, kk _ _ el3, hp3.tups (Tups.of_same kk), c, by omega, ?_⟩, ?_⟩
                    · rw [← ha, ans_leaf]
                      rw [hk, cnt_three, e, if_pos rfl, b1, b2]
                      rfl
                    · show 16 - ((m : Int) + 1).toNat < 16 - (m : Int).toNat
                      omega
                · refine fin (k2.trans s4) ?_
                  rw [← ha]
                  refine ans_none ?_
                  rw [hk, cnt_three, e, if_pos rfl, Bool.eq_false_iff.mpr b1, Bool.false_and]
                  rfl
              | false =>
                refine iteF ?_
                refine ⟨_, rfl, a, _, rfl, .inr hS3, rfl, _, rfl, ite2 (fun _ => ?_) (fun c => absurd (decide_eq_true rfl) c)⟩
                refine ⟨_, rfl, a, _, _, _, rfl, rfl, hS3, atI_nat (j := 0) rfl, (by show 5 ≤ sizeLine; decide), fun p5 np5 => ⟨p5, _, rfl, .inr (SqT.of upd_same), rfl, rfl, _, rfl, ?_⟩⟩
                have k5 : Same H3 _ := fresh_same (o := .tup [.str "cell", .str "plus", .str "less", .str "times", .str "over"]) np5
                have hS6 := Tups.of_same k5 _ _ hS3
                have iv : inV (.str x) [.str "cell", .str "plus", .str "less", .str "times", .str "over"] = signs.any (isStr (.str x)) := by
                  have z := inV_strs (x := x) ["cell", "plus", "less", "times", "over"]
                  rw [List.any_cons, e, Bool.false_or] at z
                  exact z
                rw [if_pos rfl, iv]
                cases hg : signs.any (isStr (.str x)) with
                | false =>
                  refine iteT (fin (k2.trans k5) ?_)
                  rw [← ha]
                  refine ans_none ?_
                  rw [hk, cnt_three, e, hg]
                  rfl
                | true =>
                refine iteF ?_
                refine ⟨_, rfl, a, _, rfl, .inr hS6, rfl, _, rfl, ite2 (fun _ => ?_) (fun c => absurd (decide_eq_true rfl) c)⟩
                refine ⟨_, rfl, a, _, _, _, rfl, rfl, hS6, atI_nat (j := 0) rfl, rfl, _, rfl, ?_⟩
                rw [str_dec, e]
                refine iteT ?_
                have el6 := k5 _ _ el3
                have hp6 := hp3.tups (Tups.of_same k5)
                have sm6 := sm3.trans k5
                generalize upd H3 p5 (.tup [.str "cell", .str "plus", .str "less", .str "times", .str "over"]) = H6 at *
                refine ⟨_, rfl, _, rfl, a, _, _, vx, rfl, rfl, hS6, atI_nat (j := 1) rfl, _, rfl, _, _, rfl, rfl, (by show 2 ≤ sizeLine; decide), fun t1 n1 => ?_⟩
                have j1 := fresh_same (o := .tup [vx, .int ((n : Int) + 1)]) n1
                refine ⟨_, rfl, a, _, _, vy, rfl, rfl, Tups.of_same j1 _ _ hS6, atI_nat (j := 2) rfl, _, rfl, _, _, rfl, rfl, (by show 2 ≤ sizeLine; decide), fun t2 n2' => ?_⟩
                have j2 := fresh_same (o := .tup [vy, .int ((n : Int) + 1)]) n2'
                refine ⟨(by show 2 ≤ sizeLine; decide), fun lq nq => ?_⟩
                have j3 := fresh_same (o := .lst [.ref t1, .ref t2]) nq
                have el7 := j3 _ _ (j2 _ _ (j1 _ _ el6))
                refine ⟨l, lq, _, _, rfl, rfl, el7, upd_same, ?_, fun p7 np7 => ?_⟩
                · show us.dropLast.length + 2 ≤ 16777216
                  omega
                have j4 := fresh_same (o := .lst (us.dropLast ++ [.ref t1, .ref t2])) np7
                have jj := j1.trans (j2.trans (j3.trans j4))
                have s1' := j4 _ _ (j3 _ _ (j2 _ _ (upd_same (H := H6) (a := t1) (o := .tup [vx, .int ((n : Int) + 1)]))))
                have s2' := j4 _ _ (j3 _ _ (upd_same (H := upd H6 t1 (.tup [vx, .int ((n : Int) + 1)])) (a := t2) (o := .tup [vy, .int ((n : Int) + 1)])))
                refine ⟨⟨sm6.trans jj, p7, _, ps' ++ [(dx, n + 1), (dy, n + 1)], m + 1, _, _, rfl, ?_, upd_same, ?_, c, ?_, ?_⟩, ?_⟩
                · cases e9 : H p7 with
                  | none => rfl
                  | some o =>
                    have z := (j1.trans (j2.trans j3)) _ _ (sm6 _ _ e9)
                    rw [np7] at z
                    cases z
                · refine (hp6.tups (Tups.of_same jj)).app ?_
                  cases hA0 with
                  | cons _ hA0 =>
                  cases hA0 with
                  | cons ox hA0 =>
                  cases hA0 with
                  | cons oy _ =>
                  exact .cons (n := n + 1) (SqT.of s1') ox o1 (by omega) (.cons (n := n + 1) (SqT.of s2') oy o2 (by omega) .nil)
                · rw [List.length_append]
                  show us.dropLast.length + 2 ≤ _
                  omega
                · rw [← ha]
                  exact (ans_node hk e hg).symm
                · show 16 - ((m : Int) + 1).toNat < 16 - (m : Int).toNat
                  omega
            | _ => exact Bool.noConfusion hs
          · rw [decide_eq_false l2, decide_eq_false l3]
            refine iteT (fin k2 ?_)
            rw [← ha]
            refine ans_none ?_
            rw [hk]
            exact cnt_other (by omega) (by omega)
      | _ => exact Bool.noConfusion ht
  · rintro σ' H1 Q1 Q2 g ⟨x, e, z, h⟩
    refine ⟨x, e, z, fun p hp => ?_⟩
    obtain ⟨a, b, xs, e1, e2, e3, e4, k, e5, h⟩ := h p hp
    exact ⟨a, b, xs, e1, e2, e3, e4, k, e5, g _ _ h⟩
end
end K01
end

section
set_option Elab.async false
set_option linter.all false
set_option maxRecDepth 100000
set_option maxHeartbeats 4000000
namespace K01
open PySem PySem.Spec PyProof.Rows L2 Gd
abbrev sLabel : Stmt := topS 16
abbrev sNum : Stmt := topS 17
theorem scLabel : FnScope ["_law_feed_here", "_law_letters", "_law_words", "_law_size", "_law_spelt", "_law_k"] ["_law_feed_here"] (defScope sLabel) :=
  ⟨rfl, rfl, rfl, by decide +kernel, rfl, by decide +kernel, by decide +kernel⟩
theorem scNum : FnScope ["_law_feed_here", "_law_far", "_law_some"] ["_law_feed_here"] (defScope sNum) :=
  ⟨rfl, rfl, rfl, by decide +kernel, rfl, by decide +kernel, by decide +kernel⟩
def spNum : Sp := fun vs H Q _ => ∃ (p : Addr) (S : Int), vs = [.ref p] ∧ Feed H p S ∧ S ≤ 100000000 ∧
  ∀ (i : Int) (H' : Hp), Ex1 p H H' → Feed H' p (S + 2) → isNum (.int i) = true → Q (.int i) H'
def spLabel : Sp := fun vs H Q _ => ∃ (p : Addr) (S : Int), vs = [.ref p] ∧ Feed H p S ∧ S ≤ 100000000 ∧
  ∀ (x : Str) (H' : Hp), Ex1 p H H' → Feed H' p (S + 10) → isLab x = true → Q (.str x) H'
theorem join_singles : ∀ cs : List Nat, TL.joinL [] (cs.map fun c => [c]) = cs
  | [] => rfl
  | [c] => rfl
  | c :: d :: r => by
    show [c] ++ ([] ++ TL.joinL [] ((d :: r).map fun c => [c])) = _
    rw [join_singles (d :: r)] <;> rfl
theorem lab_spelt {cs : List Nat} (h : ∀ c ∈ cs, c ∈ ("abcdefghijklmnopqrstuvwxyz" : Str).cps.toList) (h1 : 1 ≤ cs.length) (h8 : cs.length ≤ 8) :
    isLab (Txt.join "" (cs.map fun c => (⟨#[c]⟩ : Str))) = true := by
  have e : (Txt.join "" (cs.map fun c => (⟨#[c]⟩ : Str))).cps.toList = cs := by
    rw [TL.join_eq]
    have z := TL.tl_join "" (cs.map fun c => (⟨#[c]⟩ : Str))
    rw [List.map_map] at z
    exact z.trans (join_singles cs)
  have el : (Txt.join "" (cs.map fun c => (⟨#[c]⟩ : Str))).length = cs.length := by
    show (Txt.join "" (cs.map fun c => (⟨#[c]⟩ : Str))).cps.size = _
    rw [← Array.length_toList, e]
  unfold isLab
  rw [e, el, decide_eq_true h1, decide_eq_true h8, Bool.true_and, Bool.true_and]
  exact List.all_eq_true.mpr fun c hc => decide_eq_true (h c hc)
def labs : List Str := ["a", "b", "cell", "number", "plus", "over", "lacking", "abcdefgh", "zzzzzzzz", "none"]
theorem labs_ok : ∀ x ∈ labs, isLab x = true := by decide +kernel
theorem numOk {i : Int} (h1 : -1000000000000000000000000000000 < i) (h2 : i < 1000000000000000000000000000000) : isNum (.int i) = true := by
  show (decide (-(10 ^ 30 : Int) < i) && decide (i < 10 ^ 30)) = true
  rw [decide_eq_true (show -(10 ^ 30 : Int) < i by omega), decide_eq_true (show i < (10 ^ 30 : Int) by omega)] <;> rfl
def numsOf (r : Int) : List Int := [0, 1, -1, 2, r, 0 - r, 10 ^ 30 - 1 - r, r + 1 - 10 ^ 30, 7 - r.fmod 15, r.fmod 4]
theorem nums_ok {r : Int} (h0 : 0 ≤ r) (h1 : r < 1000000) : ∀ i ∈ numsOf r, isNum (.int i) = true := by
  obtain ⟨a0, a1⟩ := fmod_in r (b := 15) (by omega)
  obtain ⟨b0, b1⟩ := fmod_in r (b := 4) (by omega)
  intro i hi
  simp only [numsOf, List.mem_cons, List.not_mem_nil, or_false] at hi
  rcases hi with rfl | rfl | rfl | rfl | rfl | rfl | rfl | rfl | rfl | rfl
  all_goals exact numOk (by omega) (by omega)
theorem at_map {α : Type} {f : α → V} {xs : List α} {r : Int} (h0 : 0 ≤ r) (h1 : r < xs.length) : ∃ x, x ∈ xs ∧ atI (xs.map f) r = some (f x) := by
  have h2 : r.toNat < xs.length := by omega
  refine ⟨xs[r.toNat], List.getElem_mem h2, ?_⟩
  have e : ((r.toNat : Nat) : Int) = r := by omega
  have z : atI (xs.map f) ((r.toNat : Nat) : Int) = some (f xs[r.toNat]) := atI_nat (by rw [List.getElem?_map, List.getElem?_eq_getElem h2] <;> rfl)
  rw [e] at z
  exact z
section
variable {P : Program} {w : World} {K : PySem.W.Frag} {mg : Str → Option Value} {base : Heap} {f fT : Addr} {fd fdT : FuncData}
theorem ok_num (F : Fun K "_law_number" "_law_number" sNum f fd) (FT : Fun K "_law_take" "_law_take" sTake fT fdT)
    (bT : Binds K fdT ["_law_feed_here", "_law_many"] []) (gT : mg "_law_take" = some (.ref fT)) :
    FnOk P w K mg base CX0 2 f fd ["_law_feed_here"] spNum := by
  have G : FnOk P w K mg base CX0 1 fT fdT ["_law_feed_here", "_law_many"] spTake := ok_take FT
  refine F.ok scNum (fun vs H Q E h => ?_) (fun cdv A outer s H vs Q E hr h => ?_)
  · obtain ⟨p, S, rfl, _⟩ := h
    rfl
  obtain ⟨p, S, rfl, hF, hS, q⟩ := h
  have nd := scNum.nd
  refine ⟨_, pss_cons (ps_set (i := 1) nd rfl (.inl rfl) (pe_call G hr (by rfl) gT FT.kp bT .nil pass0 (pa_cons (pv 0) (pa_cons (pe_op op_pow pe_int pe_int) pa_nil))))
    (pss_cons (ps_set (i := 2) nd rfl (.inl rfl) (pe_lst (pa_cons pe_int (pa_cons pe_int (pa_cons (pe_un un_neg pe_int) (pa_cons pe_int (pa_cons (pv 1) (pa_cons (pe_op op_sub pe_int (pv 1))
        (pa_cons (pe_op op_sub (pe_op op_sub (pe_op op_pow pe_int pe_int) pe_int) (pv 1)) (pa_cons (pe_op op_sub (pe_op op_add (pv 1) pe_int) (pe_op op_pow pe_int pe_int))
        (pa_cons (pe_op op_sub pe_int (pe_op op_modN (pv 1) pe_int)) (pa_cons (pe_op op_modN (pv 1) pe_int) pa_nil))))))))))))
    (pss_one (ps_ret (pe_ix ix_list (pv 2) (pe_call G hr (by rfl) gT FT.kp bT .nil pass0 (pa_cons (pv 0) (pa_cons pe_int pa_nil))) (fun _ _ => rfl))))), ?_⟩
  refine ⟨_, rfl, 10, 6, rfl, rfl, ⟨by decide, by decide, by decide⟩, p, _, S, rfl, hF, by decide, by decide, by omega, fun r H1 r0 r1 hF1 x1 => ?_⟩
  have r1 : r < 1000000 := r1
  refine ⟨_, rfl, _, rfl, _, rfl, _, _, rfl, rfl, ?_⟩
  refine ⟨10, 30, rfl, rfl, ⟨by decide, by decide, by decide⟩, _, _, rfl, rfl, _, rfl, _, _, rfl, rfl, ?_⟩
  refine ⟨_, rfl, _, _, rfl, rfl, 10, 30, rfl, rfl, ⟨by decide, by decide, by decide⟩, _, _, rfl, rfl, ?_⟩
  refine ⟨_, rfl, _, _, rfl, rfl, by show (15 : Int) ≠ 0; decide, _, _, rfl, rfl, ?_⟩
  refine ⟨_, rfl, _, _, rfl, rfl, by show (4 : Int) ≠ 0; decide, ?_⟩
  refine ⟨(by show 10 ≤ sizeLine; decide), fun L hL => ?_⟩
  have hL2 : H1 L = none := hL
  refine ⟨_, rfl, _, rfl, p, 10, S + 1, rfl, hF1.stays hL2, by omega, by omega, by omega, fun r2 H2 a0 a1 hF2 x2 => ?_⟩
  have eL := x2 L _ (hF1.ne hL2) upd_same
  obtain ⟨i, hi, ea⟩ := at_map (f := V.int) (xs := numsOf r) (r := r2) a0 a1
  refine ⟨L, _, r2, .int i, rfl, rfl, SqL.of eL, ea, ?_⟩
  refine q i H2 (x1.trans ((Ex1.new hL2).trans x2)) ?_ (nums_ok r0 r1 i hi)
  exact hF2.le (by omega)
theorem ok_label (F : Fun K "_law_label" "_law_label" sLabel f fd) (FT : Fun K "_law_take" "_law_take" sTake fT fdT)
    (bT : Binds K fdT ["_law_feed_here", "_law_many"] []) (gT : mg "_law_take" = some (.ref fT)) (mr : mg "range" = none) :
    FnOk P w K mg base CX0 2 f fd ["_law_feed_here"] spLabel := by
  have G : FnOk P w K mg base CX0 1 fT fdT ["_law_feed_here", "_law_many"] spTake := ok_take FT
  refine F.ok scLabel (fun vs H Q E h => ?_) (fun cdv A outer s H vs Q E hr h => ?_)
  · obtain ⟨p, S, rfl, _⟩ := h
    rfl
  obtain ⟨p, S, rfl, hF, hS, q⟩ := h
  have nd := scLabel.nd
  refine ⟨_, pss_cons (ps_set (i := 1) nd rfl (.inr rfl) pe_str)
    (pss_cons (ps_set (i := 2) nd rfl (.inl rfl) (pe_lst (pa_cons pe_str (pa_cons pe_str (pa_cons pe_str (pa_cons pe_str (pa_cons pe_str (pa_cons pe_str (pa_cons pe_str (pa_cons pe_str (pa_cons pe_str (pa_cons pe_str pa_nil))))))))))))
    (pss_cons (ps_set (i := 3) nd rfl (.inl rfl) (pe_ix ix_list (pe_lst (pa_cons pe_int (pa_cons pe_int (pa_cons pe_int (pa_cons pe_int pa_nil)))))
        (pe_call G hr (by rfl) gT FT.kp bT .nil pass0 (pa_cons (pv 0) (pa_cons pe_int pa_nil))) (fun _ _ => rfl)))
    (pss_cons (ps_set (i := 4) nd rfl (.inl rfl) (pe_join pe_str (pe_lc (own := [("_law_k", 5)]) (g := gName 5) (tt := tYes) rfl nd (pi_range1 (by rfl) mr (pa_cons (pv 3) pa_nil))
        (blkOk_by (N := ["_law_feed_here", "_law_letters", "_law_words", "_law_size", "_law_spelt", "_law_k"]) (sc := defScope sLabel) (by decide +kernel))
        (fun _ _ _ _ _ => pg_name (i := 5) nd rfl (Or.inl rfl)) (fun _ _ _ _ _ => pts_nil)
        (fun _ _ _ _ _ => pe_ix ix_str (pv 1) (pe_call G hr (by rfl) gT FT.kp bT .nil pass0 (pa_cons (pv 0) (pa_cons pe_int pa_nil))) (fun _ _ => rfl)))))
    (pss_one (ps_ret (pe_ix ix_list (pe_op op_cat (pv 2) (pe_lst (pa_cons (pv 4) (pa_cons (pv 4) pa_nil))))
        (pe_call G hr (by rfl) gT FT.kp bT .nil pass0 (pa_cons (pv 0) (pa_cons pe_int pa_nil))) (fun _ _ => rfl))))))), ?_⟩
  refine ⟨(by show 10 ≤ sizeLine; decide), fun w1 hw1 => ?_⟩
  refine ⟨(by show 4 ≤ sizeLine; decide), fun z1 hz1 => ?_⟩
  have F1 := hF.stays (o := .lst (labs.map V.str)) hw1
  have F2 := F1.stays (o := .lst ([1, 1, 2, 8].map V.int)) hz1
  refine ⟨_, rfl, p, 4, S, rfl, F2, by omega, by omega, by omega, fun r H1 r0 r1 hF1 x1 => ?_⟩
  have nw : w1 ≠ p := hF.ne hw1
  have nz : z1 ≠ p := F1.ne hz1
  have ez := x1 z1 _ nz upd_same
  have ew := x1 w1 _ nw (by rw [upd_ne (ne_of_none upd_same hz1)]; exact upd_same)
  have X1 : Ex1 p H H1 := (Ex1.new hw1).trans ((Ex1.new hz1).trans x1)
  obtain ⟨sz, hs, ea⟩ := at_map (f := V.int) (xs := [1, 1, 2, 8]) (r := r) r0 r1
  refine ⟨z1, _, r, .int sz, rfl, rfl, SqL.of ez, ea, ?_⟩
  have szb : 1 ≤ sz ∧ sz ≤ 8 := by
    simp only [List.mem_cons, List.not_mem_nil, or_false] at hs
    rcases hs with rfl | rfl | rfl | rfl <;> omega
  let al : List Nat := ("abcdefghijklmnopqrstuvwxyz" : Str).cps.toList
  refine ⟨⟨_, rfl⟩, _, rfl, sz, rfl, by omega, by omega, fun D hD => ?_⟩
  refine lc_range (lo := 0) (n := sz.toNat) (fun i H' => Ex1 p H1 H' ∧ Feed H' p (S + 1 + i) ∧ ∃ cs : List Nat, cs.length = i ∧ (∀ c ∈ cs, c ∈ al) ∧
      H' D = some (.lst ((cs.map fun c => (⟨#[c]⟩ : Str)).map V.str))) ?_ ?_ ?_
  · refine ⟨Ex1.new hD, (hF1.stays hD).le (by omega), [], rfl, nofun, upd_same⟩
  · rintro i H' hi ⟨x2, F', cs, lc, hc, eD⟩
    refine ⟨rfl, ?_⟩
    unfold tYes
    dsimp only
    rw [if_pos rfl]
    refine ⟨_, rfl, _, rfl, p, 26, S + 1 + i, rfl, F', by omega, by omega, by omega, fun r2 H3 a0 a1 hF3 x3 => ?_⟩
    have a2 : r2.toNat < al.length := by
      have : al.length = 26 := rfl
      omega
    have e26 : ((r2.toNat : Nat) : Int) = r2 := by omega
    have ec : atI al r2 = some al[r2.toNat] := by
      have z : atI al ((r2.toNat : Nat) : Int) = some al[r2.toNat] := atI_nat (List.getElem?_eq_getElem a2)
      rw [e26] at z
      exact z
    have nD : D ≠ p := hF1.ne hD
    have eD3 := x3 D _ nD eD
    refine ⟨_, r2, _, rfl, rfl, (by show 26 ≤ 16777216; decide), ec, _, eD3, ?_, ?_⟩
    · rw [List.length_map, List.length_map, lc]
      show i < 16777216
      omega
    · refine ⟨fun b u nb e => ?_, ?_, cs ++ [al[r2.toNat]], by rw [List.length_append, lc]; rfl, fun c hc2 => ?_, ?_⟩
      · rw [upd_ne (ne_of_none e hD)]
        exact x3 _ _ nb (x2 _ _ nb e)
      · obtain ⟨g, x, s, ep, s0, s1⟩ := hF3
        refine ⟨g, x, s, ?_, s0, by omega⟩
        rw [upd_ne nD.symm]
        exact ep
      · rcases List.mem_append.mp hc2 with h | h
        · exact hc c h
        · rw [List.mem_singleton.mp h]
          exact List.getElem_mem a2
      · rw [List.map_append, List.map_append]
        exact upd_same
  · rintro H2 ⟨x2, F2', cs, lc, hc, eD⟩
    have lb : isLab (Txt.join "" (cs.map fun c => (⟨#[c]⟩ : Str))) = true := lab_spelt hc (by omega) (by omega)
    refine ⟨_, D, cs.map fun c => (⟨#[c]⟩ : Str), rfl, rfl, .inl (SqL.of eD), ?_, ?_⟩
    · have z : ∀ cs : List Nat, ((cs.map fun c => (⟨#[c]⟩ : Str)).map (·.length)).sum = cs.length := by
        intro cs
        induction cs with
        | nil => rfl
        | cons c r ih =>
          simp only [List.map_cons, List.sum_cons, List.length_cons, ih]
          show 1 + r.length = _
          omega
      rw [z, List.length_map]
      show cs.length + cs.length * 0 ≤ 16777216
      omega
    generalize Txt.join "" (cs.map fun c => (⟨#[c]⟩ : Str)) = sp at *
    have ew2 := x2 w1 _ nw ew
    refine ⟨_, rfl, _, rfl, _, rfl, (by show 2 ≤ sizeLine; decide), fun b1 hb1 => ?_⟩
    have ew3 := fresh_same (o := .lst [.str sp, .str sp]) hb1 _ _ ew2
    refine ⟨w1, b1, _, _, rfl, rfl, ew3, upd_same, (by show 12 ≤ sizeLine; decide), fun c1 hc1 => ?_⟩
    have F3 := F2'.stays (o := .lst [.str sp, .str sp]) hb1
    have F4 := F3.stays (o := .lst ((labs ++ [sp, sp]).map V.str)) hc1
    refine ⟨_, rfl, p, 12, _, rfl, F4, by omega, by omega, by omega, fun r3 H5 a0 a1 hF5 x5 => ?_⟩
    have e5 := x5 c1 _ (F3.ne hc1) upd_same
    obtain ⟨x, hx, ex⟩ := at_map (f := V.str) (xs := labs ++ [sp, sp]) (r := r3) a0 a1
    refine ⟨c1, _, r3, .str x, rfl, rfl, SqL.of e5, ex, ?_⟩
    refine q x H5 (X1.trans (x2.trans ((Ex1.new hb1).trans ((Ex1.new hc1).trans x5)))) (hF5.le (by omega)) ?_
    rcases List.mem_append.mp hx with h | h
    · exact labs_ok x h
    · simp only [List.mem_cons, List.not_mem_nil, or_false] at h
      rcases h with rfl | rfl <;> exact lb
end
end K01
end

section
set_option Elab.async false
set_option linter.all false
set_option maxRecDepth 100000
set_option maxHeartbeats 4000000
namespace K01
open PySem PySem.Spec PyProof.Rows L2 Gd
abbrev sPiece : Stmt := topS 18
theorem scPiece : FnScope ["_law_feed_here", "_law_deep", "_law_room", "_law_way", "_law_one"] ["_law_feed_here", "_law_deep", "_law_room"] (defScope sPiece) :=
  ⟨rfl, rfl, rfl, by decide +kernel, rfl, by decide +kernel, by decide +kernel⟩
/-- all is as it was, but at p and at q -/
def Ex2 (p q : Addr) (H H' : Hp) : Prop := ∀ a o, a ≠ p → a ≠ q → H a = some o → H' a = some o
theorem Ex2.trans {p q : Addr} {H H1 H2 : Hp} (a : Ex2 p q H H1) (b : Ex2 p q H1 H2) : Ex2 p q H H2 := fun x o n m h => b x o n m (a x o n m h)
theorem Ex1.two {p q : Addr} {H H1 : Hp} (a : Ex1 p H H1) : Ex2 p q H H1 := fun x o n _ h => a x o n h
theorem Ex2.at2 {p q : Addr} {H : Hp} {o : HO} : Ex2 p q H (upd H q o) := fun a u _ n e => by
  rw [upd_ne n]
  exact e
theorem Ex2.tups {K : PySem.W.Frag} {p q : Addr} {H H1 : Hp} {xs ys : List V} (a : Ex2 p q H H1) (hp : H p = some (.lst xs)) (hq : H q = some (.lst ys)) : Tups K H H1 := by
  intro t zs h
  rcases h with (h | ⟨o, h⟩) | h
  · exact .inl (.inl (a _ _ (fun z => by rw [z, hp] at h; cases h) (fun z => by rw [z, hq] at h; cases h) h))
  · exact .inl (.inr ⟨o, a _ _ (fun z => by rw [z, hp] at h; cases h) (fun z => by rw [z, hq] at h; cases h) h⟩)
  · exact .inr h
/-- a part of c parts, n deep -/
structure Pc (n c : Nat) (d : PyData) : Prop where
  tup : tupOnly d = true
  cnt : K01.cnt n d = c
  pos : 1 ≤ c
  ok : okD 9 d = true
  wt : d.weight ≤ 150 * c
  dp : d.depth ≤ n
  isT : isT d = true
def room (n : Nat) : Int := 64 * 2 ^ n - 2
def spPiece (K : PySem.W.Frag) (n : Nat) : Sp := fun vs H Q _ => ∃ (p q : Addr) (dp S r : Int), vs = [.ref p, .int dp, .ref q] ∧ dp = n ∧ 1 ≤ n ∧ n ≤ 9 ∧ q ≠ p ∧ Feed H p S ∧ S + room n ≤ 10000000 ∧
  H q = some (.lst [.int r]) ∧ 1 ≤ r ∧ r ≤ 100 ∧
  ∀ (v : V) (d : PyData) (c : Nat) (H' : Hp), Ex2 p q H H' → Feed H' p (S + room n) → H' q = some (.lst [.int (r - c)]) → Dp K H' v d → Pc n c d → c ≤ r → Q v H'
theorem isLab_ascii {x : Str} (h : isLab x = true) : x.length ≤ 8 ∧ x.cps.toList.all (fun c => decide (c < 128)) = true := by
  unfold isLab at h
  simp only [Bool.and_eq_true, decide_eq_true_eq, List.all_eq_true] at h
  refine ⟨h.1.2, List.all_eq_true.mpr fun c hc => decide_eq_true ?_⟩
  have z := h.2 c hc
  have all : ∀ c ∈ ("abcdefghijklmnopqrstuvwxyz" : Str).cps.toList, c < 128 := by decide +kernel
  exact all c z
theorem okD_str {k : Nat} {x : Str} (h : isLab x = true) : okD k (.str x) = true := by
  obtain ⟨a, b⟩ := isLab_ascii h
  simp only [okD, Bool.and_eq_true, decide_eq_true_eq]
  exact ⟨by omega, b⟩
theorem num_ok {k : Nat} {i : Int} (h : isNum (.int i) = true) : okD k (.int i) = true ∧ (PyData.int i).weight ≤ 100 := by
  have h : (decide (-(10 ^ 30 : Int) < i) && decide (i < 10 ^ 30)) = true := h
  simp only [Bool.and_eq_true, decide_eq_true_eq] at h
  have n : i.natAbs < 10 ^ 30 := by omega
  refine ⟨?_, ?_⟩
  · simp only [okD, decide_eq_true_eq]
    exact Nat.le_trans (Nat.le_of_lt (Nat.lt_of_lt_of_le n (by decide))) (Nat.le_add_right _ _)
  · simp only [PyData.weight]
    split
    · omega
    · rename_i z
      have z : i.natAbs ≠ 0 := by
        intro e
        exact z (by rw [Int.natAbs_eq_zero.mp e] <;> rfl)
      have : i.natAbs.log2 < 100 := (Nat.log2_lt z).mpr (Nat.lt_of_lt_of_le n (by decide +kernel))
      omega
theorem sign_ok {x : Str} (h : x ∈ signs) : isStr (.str x) "cell" = false ∧ signs.any (isStr (.str x)) = true ∧ isLab x = true := by
  have all : ∀ x ∈ signs, isStr (.str x) "cell" = false ∧ signs.any (isStr (.str x)) = true ∧ isLab x = true := by decide +kernel
  exact all x h
theorem wt_str {x : Str} : (PyData.str x).weight = x.length := by
  simp only [PyData.weight]
  rfl
theorem pc_cell {n : Nat} {x y : Str} (hx : isLab x = true) (hy : isLab y = true) : Pc (n + 1) 1 (.tuple [.str "cell", .str x, .str y]) := by
  obtain ⟨ax, _⟩ := isLab_ascii hx
  obtain ⟨ay, _⟩ := isLab_ascii hy
  have hc : isLab "cell" = true := by decide +kernel
  refine ⟨by simp [tupOnly, tupOnlyAll], ?_, by omega, ?_, ?_, ?_, rfl⟩
  · rw [cnt_three, show isStr (.str "cell") "cell" = true by decide +kernel, if_pos rfl]
    show (if (isLab x && isLab y) = true then 1 else 0) = 1
    rw [hx, hy] <;> rfl
  · have e : okAll 9 [.str "cell", .str x, .str y] = true := by
      unfold okAll okAll okAll okAll
      rw [okD_str hc, okD_str hx, okD_str hy] <;> rfl
    unfold okD
    rw [e]
    rfl
  · have e : (PyData.tuple [.str "cell", .str x, .str y]).weight = 4 + 1 + (x.length + 1 + (y.length + 1 + 0)) := by
      simp only [PyData.weight, PyData.weightAll]
      rfl
    omega
  · simp only [PyData.depth, PyData.depthAll]
    omega
theorem pc_num {n : Nat} {i : Int} (h : isNum (.int i) = true) : Pc (n + 1) 1 (.tuple [.str "number", .int i]) := by
  have hc : isLab "number" = true := by decide +kernel
  obtain ⟨o, w⟩ := num_ok (k := 9) h
  refine ⟨by simp [tupOnly, tupOnlyAll], ?_, by omega, ?_, ?_, ?_, rfl⟩
  · rw [cnt_two, show isStr (.str "number") "number" = true by decide +kernel, h]
    rfl
  · have e : okAll 9 [.str "number", .int i] = true := by
      unfold okAll okAll okAll
      rw [okD_str hc, o] <;> rfl
    unfold okD
    rw [e]
    rfl
  · have e : (PyData.tuple [.str "number", .int i]).weight = 6 + 1 + ((PyData.int i).weight + 1 + 0) := by
      simp only [PyData.weight, PyData.weightAll]
      rfl
    omega
  · simp only [PyData.depth, PyData.depthAll]
    omega
theorem pc_node {n c1 c2 : Nat} {x : Str} {d e : PyData} (hx : x ∈ signs) (h1 : Pc n c1 d) (h2 : Pc n c2 e) : Pc (n + 1) (1 + c1 + c2) (.tuple [.str x, d, e]) := by
  obtain ⟨s1, s2, s3⟩ := sign_ok hx
  obtain ⟨sl, _⟩ := isLab_ascii s3
  have p1 := h1.pos
  have p2 := h2.pos
  refine ⟨?_, ?_, by omega, ?_, ?_, ?_, rfl⟩
  · simp [tupOnly, tupOnlyAll, h1.tup, h2.tup]
  · rw [cnt_three, s1, if_neg Bool.false_ne_true, s2, if_pos rfl, h1.cnt, h2.cnt, decide_eq_true (by omega), decide_eq_true (by omega)]
    rfl
  · have e : okAll 9 [.str x, d, e] = true := by
      unfold okAll okAll okAll okAll
      rw [okD_str s3, h1.ok, h2.ok] <;> rfl
    unfold okD
    rw [e]
    rfl
  · have w1 := h1.wt
    have w2 := h2.wt
    have e : (PyData.tuple [.str x, d, e]).weight = x.length + 1 + (d.weight + 1 + (e.weight + 1 + 0)) := by
      simp only [PyData.weight, PyData.weightAll]
      rfl
    omega
  · have d1 := h1.dp
    have d2 := h2.dp
    have e : (PyData.tuple [.str x, d, e]).depth = max 0 (max d.depth (max e.depth 0)) + 1 := by
      simp only [PyData.depth, PyData.depthAll]
    omega
theorem leaf_end {K : PySem.W.Frag} {n : Nat} {p : Addr} {S : Int} {Q : VK} {H1 H2 H3 H4 H6 : Hp} {x2 x3 : Str} {t1 t2 lq : Addr} {i4 r6 S3 S4 : Int}
    (leaf : ∀ (v : V) (d : PyData) (H' : Hp), Ex1 p H1 H' → Feed H' p (S + 40) → Dp K H' v d → Pc (n + 1) 1 d → Q v H')
    (y2 : Ex1 p H1 H2) (y3 : Ex1 p H2 H3) (F3 : Feed H3 p S3) (n1 : H3 t1 = none) (y4 : Ex1 p (upd H3 t1 (.tup [.str "cell", .str x2, .str x3])) H4) (F4 : Feed H4 p S4) (n2 : H4 t2 = none)
    (n3 : upd H4 t2 (.tup [.str "number", .int i4]) lq = none)
    (y6 : Ex1 p (upd (upd H4 t2 (.tup [.str "number", .int i4])) lq (.lst [.ref t1, .ref t2])) H6) (a0 : 0 ≤ r6) (a1 : r6 < 3)
    (l2 : isLab x2 = true) (l3 : isLab x3 = true) (l4 : isNum (.int i4) = true) (F6 : Feed H6 p (S + 40)) :
    rIxL K (.ref lq) (.int (r6.fdiv 2)) H6 Q := by
  have k2 := Ex1.new (p := p) (o := .tup [.str "number", .int i4]) n2
  have k3 := Ex1.new (p := p) (o := .lst [.ref t1, .ref t2]) n3
  have yy := k2.trans (k3.trans y6)
  have X : Ex1 p H1 H6 := y2.trans (y3.trans ((Ex1.new n1).trans (y4.trans yy)))
  have el := y6 lq _ ((F4.stays (o := .tup [.str "number", .int i4]) n2).ne n3) upd_same
  have s1 := yy t1 _ (F3.ne n1) (y4 t1 _ (F3.ne n1) upd_same)
  have s2 := (k3.trans y6) t2 _ (F4.ne n2) upd_same
  have r2 : r6.fdiv 2 = 0 ∨ r6.fdiv 2 = 1 := by
    have : r6 = 0 ∨ r6 = 1 ∨ r6 = 2 := by omega
    rcases this with rfl | rfl | rfl
    · exact .inl rfl
    · exact .inl rfl
    · exact .inr rfl
  rcases r2 with e | e
  · exact ⟨lq, _, _, .ref t1, rfl, rfl, SqL.of el, by rw [e]; exact atI_nat (j := 0) rfl,
      leaf _ _ _ X F6 (.tup (SqT.of s1) (.cons (.str _) (.cons (.str _) (.cons (.str _) .nil)))) (pc_cell l2 l3)⟩
  · exact ⟨lq, _, _, .ref t2, rfl, rfl, SqL.of el, by rw [e]; exact atI_nat (j := 1) rfl,
      leaf _ _ _ X F6 (.tup (SqT.of s2) (.cons (.str _) (.cons (.int _) .nil))) (pc_num l4)⟩
section
variable {P : Program} {w : World} {K : PySem.W.Frag} {mg : Str → Option Value} {base : Heap} {f fT fL fM : Addr} {fd fdT fdL fdM : FuncData}
theorem piece_step {n : Nat} (F : Fun K "_law_piece" "_law_piece" sPiece f fd) (G : FnOk P w K mg base CX0 (n + 2) f fd ["_law_feed_here", "_law_deep", "_law_room"] (spPiece K n))
    (b : Binds K fd ["_law_feed_here", "_law_deep", "_law_room"] []) (gF : mg "_law_piece" = some (.ref f))
    (FT : Fun K "_law_take" "_law_take" sTake fT fdT) (bT : Binds K fdT ["_law_feed_here", "_law_many"] []) (gT : mg "_law_take" = some (.ref fT))
    (GL : FnOk P w K mg base CX0 2 fL fdL ["_law_feed_here"] spLabel) (FL : Fun K "_law_label" "_law_label" sLabel fL fdL) (bL : Binds K fdL ["_law_feed_here"] []) (gL : mg "_law_label" = some (.ref fL))
    (GM : FnOk P w K mg base CX0 2 fM fdM ["_law_feed_here"] spNum) (FM : Fun K "_law_number" "_law_number" sNum fM fdM) (bM : Binds K fdM ["_law_feed_here"] []) (gM : mg "_law_number" = some (.ref fM)) :
    FnOk P w K mg base CX0 (n + 1 + 2) f fd ["_law_feed_here", "_law_deep", "_law_room"] (spPiece K (n + 1)) := by
  have GT : FnOk P w K mg base CX0 1 fT fdT ["_law_feed_here", "_law_many"] spTake := ok_take FT
  refine F.ok scPiece (fun vs H Q E h => ?_) (fun cdv A outer s H vs Q E hr h => ?_)
  · obtain ⟨p, q, dp, S, r, rfl, _⟩ := h
    rfl
  obtain ⟨p, q, dp, S, r, rfl, rfl, hn1, hn9, hqp, hF, hS, eq, r1, r100, k⟩ := h
  have nd := scPiece.nd
  have hrT := hr.mono (show 1 ≤ n + 2 by omega)
  have hr2 := hr.mono (show 2 ≤ n + 2 by omega)
  refine ⟨_, pss_cons (ps_asg (pe_op op_sub (pe_ix ix_list (pv 2) pe_int (fun _ _ => rfl)) pe_int) (pg_sub (pv 2) pe_int set_list))
    (pss_cons (ps_set (i := 3) nd rfl (.inl rfl) (pe_call GT hrT (by rfl) gT FT.kp bT .nil pass0 (pa_cons (pv 0) (pa_cons pe_int pa_nil))))
    (pss_cons (ps_if (PW.pt (pw_or (pt_cmpR op_eq (pv 1) pe_int (nomark _)) (pw_or (pt_cmpR op_lt (pe_ix ix_list (pv 2) pe_int (fun _ _ => rfl)) pe_int (nomark _)) (pw_or1 (pt_cmpR op_lt (pv 3) pe_int (nomark _))))))
      (pss_one (ps_ret (pe_ix ix_list (pe_lst (pa_cons (pe_tup (pa_cons pe_str (pa_cons (pe_call GL hr2 (by rfl) gL FL.kp bL .nil pass0 (pa_cons (pv 0) pa_nil)) (pa_cons (pe_call GL hr2 (by rfl) gL FL.kp bL .nil pass0 (pa_cons (pv 0) pa_nil)) pa_nil))))
          (pa_cons (pe_tup (pa_cons pe_str (pa_cons (pe_call GM hr2 (by rfl) gM FM.kp bM .nil pass0 (pa_cons (pv 0) pa_nil)) pa_nil))) pa_nil)))
        (pe_op op_fdivN (pe_call GT hrT (by rfl) gT FT.kp bT .nil pass0 (pa_cons (pv 0) (pa_cons pe_int pa_nil))) pe_int) (fun _ _ => rfl)))) pss_nil)
    (pss_cons (ps_asg (pe_op op_sub (pe_ix ix_list (pv 2) pe_int (fun _ _ => rfl)) pe_int) (pg_sub (pv 2) pe_int set_list))
    (pss_cons (ps_set (i := 4) nd rfl (.inl rfl) (pe_call G hr (by rfl) gF F.kp b .nil pass0 (pa_cons (pv 0) (pa_cons (pe_op op_sub (pv 1) pe_int) (pa_cons (pv 2) pa_nil)))))
    (pss_cons (ps_asg (pe_op op_add (pe_ix ix_list (pv 2) pe_int (fun _ _ => rfl)) pe_int) (pg_sub (pv 2) pe_int set_list))
    (pss_one (ps_ret (pe_tup (pa_cons (pe_ix ix_list (pe_lst (pa_cons pe_str (pa_cons pe_str (pa_cons pe_str (pa_cons pe_str pa_nil))))) (pe_op op_modN (pv 3) pe_int) (fun _ _ => rfl))
      (pa_cons (pv 4) (pa_cons (pe_call G hr (by rfl) gF F.kp b .nil pass0 (pa_cons (pv 0) (pa_cons (pe_op op_sub (pv 1) pe_int) (pa_cons (pv 2) pa_nil)))) pa_nil))))))))))), ?_⟩
  have Lq : SqL K H q [.int r] := SqL.of eq
  refine ⟨_, rfl, q, _, 0, .int r, rfl, rfl, Lq, atI_nat (j := 0) rfl, r, 1, rfl, rfl, _, rfl, q, _, 0, 0, rfl, rfl, eq, rfl, ?_⟩
  have rn : room (n + 1) = 2 * room n + 2 := by
    unfold room
    rw [Int.pow_succ]
    omega
  have rp : 62 ≤ room n := by
    unfold room
    have : (1 : Int) ≤ 2 ^ n := Int.pow_pos (by decide)
    omega
  rw [rn] at hS k
  have xq0 : Ex2 p q H (upd H q (.lst [.int (r - 1)])) := .at2
  have F0 : Feed (upd H q (.lst [.int (r - 1)])) p S := by
    obtain ⟨g, x, s, ep, s0, s1⟩ := hF
    refine ⟨g, x, s, ?_, s0, s1⟩
    rw [upd_ne hqp.symm]
    exact ep
  refine ⟨_, rfl, p, 9, S, rfl, F0, by omega, by omega, by omega, fun wy H1 w0 w1 hF1 x1 => ?_⟩
  have x1 : Ex1 p (upd H q (.lst [.int (r - 1)])) H1 := x1
  have eq1 : H1 q = some (.lst [.int (r - 1)]) := x1 q _ hqp upd_same
  have Lq1 : SqL K H1 q [.int (r - 1)] := SqL.of eq1
  have X1 : Ex2 p q H H1 := xq0.trans (Ex1.two x1)
  -- what a leaf is
  have leaf : ∀ (v : V) (d : PyData) (H' : Hp), Ex1 p H1 H' → Feed H' p (S + 40) → Dp K H' v d → Pc (n + 1) 1 d → Q v H' := fun v d H' x F' hd pc =>
    k v d 1 H' (X1.trans (Ex1.two x)) (F'.le (by omega)) (x q _ hqp eq1) hd pc (by omega)
  refine ⟨_, rfl, rfl, _, rfl, ite2 (fun c1 => ?_) (fun c1 => ?_)⟩
  · refine ⟨_, rfl, p, _, rfl, hF1, by omega, fun x2 H2 y2 F2 l2 => ?_⟩
    refine ⟨_, rfl, p, _, rfl, F2, by omega, fun x3 H3 y3 F3 l3 => ?_⟩
    refine ⟨(by show 3 ≤ sizeLine; decide), fun t1 n1 => ?_⟩
    refine ⟨_, rfl, p, _, rfl, F3.stays n1, by omega, fun i4 H4 y4 F4 l4 => ?_⟩
    refine ⟨(by show 2 ≤ sizeLine; decide), fun t2 n2 => ?_⟩
    refine ⟨(by show 2 ≤ sizeLine; decide), fun lq n3 => ?_⟩
    have F5 := (F4.stays (o := .tup [.str "number", .int i4]) n2).stays (o := .lst [.ref t1, .ref t2]) n3
    refine ⟨_, rfl, p, 3, _, rfl, F5, by omega, by omega, by omega, fun r6 H6 a0 a1 F6 y6 => ?_⟩
    exact ⟨_, _, rfl, rfl, ⟨by decide, by decide⟩, leaf_end leaf y2 y3 F3 n1 y4 F4 n2 n3 y6 a0 a1 l2 l3 l4 (F6.le (by omega))⟩
  refine ⟨_, rfl, q, _, 0, .int (r - 1), rfl, rfl, Lq1, atI_nat (j := 0) rfl, _, _, rfl, rfl, _, rfl, ite2 (fun c2 => ?_) (fun c2 => ?_)⟩
  · refine ⟨_, rfl, p, _, rfl, hF1, by omega, fun x2 H2 y2 F2 l2 => ?_⟩
    refine ⟨_, rfl, p, _, rfl, F2, by omega, fun x3 H3 y3 F3 l3 => ?_⟩
    refine ⟨(by show 3 ≤ sizeLine; decide), fun t1 n1 => ?_⟩
    refine ⟨_, rfl, p, _, rfl, F3.stays n1, by omega, fun i4 H4 y4 F4 l4 => ?_⟩
    refine ⟨(by show 2 ≤ sizeLine; decide), fun t2 n2 => ?_⟩
    refine ⟨(by show 2 ≤ sizeLine; decide), fun lq n3 => ?_⟩
    have F5 := (F4.stays (o := .tup [.str "number", .int i4]) n2).stays (o := .lst [.ref t1, .ref t2]) n3
    refine ⟨_, rfl, p, 3, _, rfl, F5, by omega, by omega, by omega, fun r6 H6 a0 a1 F6 y6 => ?_⟩
    exact ⟨_, _, rfl, rfl, ⟨by decide, by decide⟩, leaf_end leaf y2 y3 F3 n1 y4 F4 n2 n3 y6 a0 a1 l2 l3 l4 (F6.le (by omega))⟩
  refine ⟨_, rfl, _, _, rfl, rfl, _, rfl, ite2 (fun c3 => ?_) (fun c3 => ?_)⟩
  · refine ⟨_, rfl, p, _, rfl, hF1, by omega, fun x2 H2 y2 F2 l2 => ?_⟩
    refine ⟨_, rfl, p, _, rfl, F2, by omega, fun x3 H3 y3 F3 l3 => ?_⟩
    refine ⟨(by show 3 ≤ sizeLine; decide), fun t1 n1 => ?_⟩
    refine ⟨_, rfl, p, _, rfl, F3.stays n1, by omega, fun i4 H4 y4 F4 l4 => ?_⟩
    refine ⟨(by show 2 ≤ sizeLine; decide), fun t2 n2 => ?_⟩
    refine ⟨(by show 2 ≤ sizeLine; decide), fun lq n3 => ?_⟩
    have F5 := (F4.stays (o := .tup [.str "number", .int i4]) n2).stays (o := .lst [.ref t1, .ref t2]) n3
    refine ⟨_, rfl, p, 3, _, rfl, F5, by omega, by omega, by omega, fun r6 H6 a0 a1 F6 y6 => ?_⟩
    exact ⟨_, _, rfl, rfl, ⟨by decide, by decide⟩, leaf_end leaf y2 y3 F3 n1 y4 F4 n2 n3 y6 a0 a1 l2 l3 l4 (F6.le (by omega))⟩
  have c1 : ¬ n + 1 = 1 := fun z => c1 (decide_eq_true (by rw [z]; rfl))
  have c2 : ¬ r - 1 < 2 := fun z => c2 (decide_eq_true z)
  refine ⟨_, rfl, q, _, 0, .int (r - 1), rfl, rfl, Lq1, atI_nat (j := 0) rfl, _, 1, rfl, rfl, _, rfl, q, _, 0, 0, rfl, rfl, eq1, rfl, ?_⟩
  have F2 : Feed (upd H1 q (.lst [.int (r - 1 - 1)])) p (S + 1) := by
    obtain ⟨g, x, s, ep, s0, s1⟩ := hF1
    refine ⟨g, x, s, ?_, s0, s1⟩
    rw [upd_ne hqp.symm]
    exact ep
  have X2 : Ex2 p q H (upd H1 q (.lst [.int (r - 1 - 1)])) := X1.trans .at2
  refine ⟨_, rfl, _, rfl, _, _, rfl, rfl, _, rfl, p, q, _, S + 1, r - 1 - 1, rfl, by omega, by omega, by omega, hqp, F2, by omega, upd_same, by omega, by omega, fun v1 d1 k1 H3 x3 F3 e3 D1 P1 le1 => ?_⟩
  have x3 : Ex2 p q (upd H1 q (.lst [.int (r - 1 - 1)])) H3 := x3
  have Lq3 : SqL K H3 q [.int (r - 1 - 1 - k1)] := SqL.of e3
  refine ⟨_, rfl, q, _, 0, .int (r - 1 - 1 - k1), rfl, rfl, Lq3, atI_nat (j := 0) rfl, _, 1, rfl, rfl, _, rfl, q, _, 0, 0, rfl, rfl, e3, rfl, ?_⟩
  have X3 : Ex2 p q H (upd H3 q (.lst [.int (r - 1 - 1 - k1 + 1)])) := (X2.trans x3).trans .at2
  have F4 : Feed (upd H3 q (.lst [.int (r - 1 - 1 - k1 + 1)])) p (S + 1 + room n) := by
    obtain ⟨g, x, s, ep, s0, s1⟩ := F3
    refine ⟨g, x, s, ?_, s0, s1⟩
    rw [upd_ne hqp.symm]
    exact ep
  have T3 : Tups K H3 (upd H3 q (.lst [.int (r - 1 - 1 - k1 + 1)])) := Tups.upd_lst e3
  refine ⟨(by show 4 ≤ sizeLine; decide), fun lw nl => ?_⟩
  have nl : upd H3 q (.lst [.int (r - 1 - 1 - k1 + 1)]) lw = none := nl
  have e4 : upd H3 q (.lst [.int (r - 1 - 1 - k1 + 1)]) q = some (.lst [.int (r - 1 - 1 - k1 + 1)]) := upd_same
  obtain ⟨m0, m1⟩ := fmod_in wy (b := 4) (by omega)
  obtain ⟨x, hx, ea⟩ := at_map (f := V.str) (xs := signs) (r := wy.fmod 4) m0 m1
  refine ⟨_, rfl, _, _, rfl, rfl, by show (4 : Int) ≠ 0; decide, lw, _, _, .str x, rfl, rfl, SqL.of upd_same, ea, ?_⟩
  have X4 : Ex2 p q H (upd (upd H3 q (.lst [.int (r - 1 - 1 - k1 + 1)])) lw (.lst (signs.map V.str))) := X3.trans (Ex1.two (Ex1.new nl))
  have F5 := F4.stays (o := .lst (signs.map V.str)) nl
  have T4 := T3.trans (Tups.new (K := K) (o := .lst (signs.map V.str)) nl)
  have e5 := fresh_same (o := .lst (signs.map V.str)) nl _ _ e4
  refine ⟨_, rfl, _, rfl, _, rfl, _, _, rfl, rfl, _, rfl, p, q, _, S + 1 + room n, r - 1 - 1 - k1 + 1, rfl, by omega, by omega, by omega, hqp, F5, by omega, e5, by omega, by omega, fun v2 d2 k2 H6 x6 F6 e6 D2 P2 le2 => ?_⟩
  have x6 : Ex2 p q (upd (upd H3 q (.lst [.int (r - 1 - 1 - k1 + 1)])) lw (.lst (signs.map V.str))) H6 := x6
  obtain ⟨ys, ep5⟩ := F5.lst
  have T6 := T4.trans (x6.tups ep5 e5)
  refine ⟨(by show 3 ≤ sizeLine; decide), fun tt nt => ?_⟩
  have nt : H6 tt = none := nt
  have D1' := Gd.Dp.tups (T6.trans (Tups.new (K := K) (o := .tup [.str x, v1, v2]) nt)) d1 P1.tup D1
  have D2' := Gd.Dp.tups (Tups.new (K := K) (o := .tup [.str x, v1, v2]) nt) d2 P2.tup D2
  refine k (.ref tt) (.tuple [.str x, d1, d2]) (1 + k1 + k2) _ ((X4.trans x6).trans (Ex1.two (Ex1.new nt))) ((F6.stays nt).le (by omega)) ?_ (.tup (SqT.of upd_same) (.cons (.str x) (.cons D1' (.cons D2' .nil)))) (pc_node hx P1 P2) (by omega)
  rw [upd_ne (ne_of_none e6 nt), e6]
  have z : r - 1 - 1 - (k1 : Int) + 1 - (k2 : Int) = r - ((1 + k1 + k2 : Nat) : Int) := by omega
  rw [z]
end
end K01
end

section
set_option Elab.async false
set_option linter.all false
set_option maxRecDepth 100000
set_option maxHeartbeats 4000000
namespace K01
open PySem PySem.Spec PyProof.Rows L2 Gd
/-! sizes of what is made of data -/
theorem okAll_mem {k : Nat} : ∀ {ds : List PyData}, okAll k ds = true ↔ ∀ d ∈ ds, okD k d = true
  | [] => ⟨fun _ => nofun, fun _ => rfl⟩
  | d :: ds => by
    have ih := okAll_mem (k := k) (ds := ds)
    simp only [okAll, Bool.and_eq_true, ih, List.mem_cons]
    exact ⟨fun h e m => m.elim (fun z => z ▸ h.1) (h.2 e), fun h => ⟨h _ (.inl rfl), fun e m => h e (.inr m)⟩⟩
theorem depth_mem {n : Nat} : ∀ {ds : List PyData}, PyData.depthAll ds ≤ n ↔ ∀ d ∈ ds, d.depth ≤ n
  | [] => ⟨fun _ => nofun, fun _ => Nat.zero_le _⟩
  | d :: ds => by
    have ih := depth_mem (n := n) (ds := ds)
    simp only [PyData.depthAll, Nat.max_le, ih, List.mem_cons]
    exact ⟨fun h e m => m.elim (fun z => z ▸ h.1) (h.2 e), fun h => ⟨h _ (.inl rfl), fun e m => h e (.inr m)⟩⟩
theorem wt_app : ∀ {ds es : List PyData}, PyData.weightAll (ds ++ es) = PyData.weightAll ds + PyData.weightAll es
  | [], es => by simp [PyData.weightAll]
  | d :: ds, es => by
    simp only [List.cons_append, PyData.weightAll, wt_app (ds := ds) (es := es)]
    omega
theorem wt_take : ∀ {ds : List PyData} (i : Nat), PyData.weightAll (ds.take i) ≤ PyData.weightAll ds
  | [], i => by rw [List.take_nil] <;> exact Nat.le_refl _
  | d :: ds, 0 => Nat.zero_le _
  | d :: ds, i + 1 => by
    have ih := wt_take (ds := ds) i
    simp only [List.take_succ_cons, PyData.weightAll]
    omega
theorem wt_drop : ∀ {ds : List PyData} (i : Nat), PyData.weightAll (ds.drop i) ≤ PyData.weightAll ds
  | [], i => by rw [List.drop_nil] <;> exact Nat.le_refl _
  | d :: ds, 0 => Nat.le_refl _
  | d :: ds, i + 1 => by
    have ih := wt_drop (ds := ds) i
    simp only [List.drop_succ_cons, PyData.weightAll]
    omega
theorem wt_rev : ∀ {ds : List PyData}, PyData.weightAll ds.reverse = PyData.weightAll ds
  | [] => rfl
  | d :: ds => by
    rw [List.reverse_cons, wt_app, wt_rev (ds := ds)]
    simp only [PyData.weightAll]
    omega
/-- the items of a sequence -/
structure Fits (k w n : Nat) (ds : List PyData) : Prop where
  len : ds.length ≤ k
  ok : ∀ d ∈ ds, okD k d = true
  wt : PyData.weightAll ds ≤ w
  dp : ∀ d ∈ ds, d.depth ≤ n
section
variable {k w n : Nat} {ds es : List PyData}
theorem Fits.of (f : Fit k w (n + 1) (.tuple ds)) : Fits k w n ds := by
  obtain ⟨a, b, c⟩ := f
  simp only [okD, Bool.and_eq_true, decide_eq_true_eq] at a
  simp only [PyData.weight] at b
  simp only [PyData.depth] at c
  exact ⟨a.1, okAll_mem.mp a.2, b, depth_mem.mp (by omega)⟩
theorem Fits.tup (f : Fits k w n ds) : Fit k w (n + 1) (.tuple ds) := by
  refine ⟨?_, ?_, ?_⟩
  · simp only [okD, Bool.and_eq_true, decide_eq_true_eq]
    exact ⟨f.len, okAll_mem.mpr f.ok⟩
  · simp only [PyData.weight]
    exact f.wt
  · simp only [PyData.depth]
    have := depth_mem.mpr f.dp
    omega
theorem Fits.lst (f : Fits k w n ds) : Fit k w (n + 1) (.list ds) := by
  refine ⟨?_, ?_, ?_⟩
  · simp only [okD, Bool.and_eq_true, decide_eq_true_eq]
    exact ⟨f.len, okAll_mem.mpr f.ok⟩
  · simp only [PyData.weight]
    exact f.wt
  · simp only [PyData.depth]
    have := depth_mem.mpr f.dp
    omega
theorem Fits.take (f : Fits k w n ds) (i : Nat) : Fits k w n (ds.take i) :=
  ⟨by rw [List.length_take]; exact Nat.le_trans (Nat.min_le_right _ _) f.len, fun d m => f.ok d (List.mem_of_mem_take m), Nat.le_trans (wt_take i) f.wt, fun d m => f.dp d (List.mem_of_mem_take m)⟩
theorem Fits.drop (f : Fits k w n ds) (i : Nat) : Fits k w n (ds.drop i) :=
  ⟨by rw [List.length_drop]; exact Nat.le_trans (Nat.sub_le _ _) f.len, fun d m => f.ok d (List.mem_of_mem_drop m), Nat.le_trans (wt_drop i) f.wt, fun d m => f.dp d (List.mem_of_mem_drop m)⟩
theorem Fits.rev (f : Fits k w n ds) : Fits k w n ds.reverse :=
  ⟨by rw [List.length_reverse]; exact f.len, fun d m => f.ok d (List.mem_reverse.mp m), by rw [wt_rev]; exact f.wt, fun d m => f.dp d (List.mem_reverse.mp m)⟩
theorem Fits.mono {k' w' n' : Nat} (f : Fits k w n ds) (hk : k ≤ k') (hw : w ≤ w') (hn : n ≤ n') : Fits k' w' n' ds :=
  ⟨Nat.le_trans f.len hk, fun d m => okD.mono hk d (f.ok d m), Nat.le_trans f.wt hw, fun d m => Nat.le_trans (f.dp d m) hn⟩
theorem Fits.app {l1 l2 w1 w2 : Nat} (f : Fits k w1 n ds) (g : Fits k w2 n es) (h : ds.length + es.length ≤ k) : Fits k (w1 + w2) n (ds ++ es) :=
  ⟨by rw [List.length_append]; exact h, fun d m => (List.mem_append.mp m).elim (f.ok d) (g.ok d), by rw [wt_app]; exact Nat.add_le_add f.wt g.wt, fun d m => (List.mem_append.mp m).elim (f.dp d) (g.dp d)⟩
theorem Fits.one {d : PyData} (f : Fit k w n d) (h : 1 ≤ k) : Fits k (w + 1) n [d] :=
  ⟨h, fun e m => by rw [List.mem_singleton.mp m]; exact f.ok, by simp only [PyData.weightAll]; have := f.wt; omega, fun e m => by rw [List.mem_singleton.mp m]; exact f.dp⟩
theorem Fits.at {i : Nat} {d : PyData} (f : Fits k w n ds) (h : ds[i]? = some d) : Fit k w n d := by
  have m := List.mem_of_getElem? h
  refine ⟨f.ok d m, Nat.le_trans ?_ f.wt, f.dp d m⟩
  clear f
  induction ds generalizing i with
  | nil => cases m
  | cons e r ih =>
    simp only [PyData.weightAll]
    rcases List.mem_cons.mp m with rfl | m2
    · omega
    · obtain ⟨j, hj⟩ := List.getElem?_of_mem m2
      have := ih hj m2
      omega
end
/-- a text of plain signs -/
def Asc (l : Nat) (x : Str) : Prop := x.length ≤ l ∧ ∀ c ∈ x.cps.toList, c < 128
theorem Asc.fit {k l : Nat} {x : Str} (h : Asc l x) (hl : l ≤ 100 + k) : Fit k l 0 (.str x) := by
  refine ⟨?_, by rw [wt_str]; exact h.1, Nat.le_refl _⟩
  simp only [okD, Bool.and_eq_true, decide_eq_true_eq, List.all_eq_true]
  exact ⟨Nat.le_trans h.1 hl, h.2⟩
theorem Asc.of {k w n : Nat} {x : Str} (f : Fit k w n (.str x)) : Asc (100 + k) x := by
  have a := f.ok
  simp only [okD, Bool.and_eq_true, decide_eq_true_eq, List.all_eq_true] at a
  exact a
theorem Asc.app {l m : Nat} {x y : Str} (h : Asc l x) (g : Asc m y) : Asc (l + m) (x ++ y) := by
  refine ⟨by rw [PySem.strLen_append]; exact Nat.add_le_add h.1 g.1, fun c hc => ?_⟩
  have e : (x ++ y).cps.toList = x.cps.toList ++ y.cps.toList := TL.tl_append x y
  rw [e] at hc
  exact (List.mem_append.mp hc).elim (h.2 c) (g.2 c)
theorem Asc.cut {l : Nat} {x : Str} (h : Asc l x) (lo hi : Option Int) : Asc l (cutS x lo hi) := by
  refine ⟨?_, fun c hc => ?_⟩
  · show (((x.cps.toList.drop _).take _).toArray).size ≤ l
    rw [List.size_toArray, List.length_take, List.length_drop, Array.length_toList]
    have := h.1
    have e : x.length = x.cps.size := rfl
    omega
  · have hc : c ∈ ((x.cps.toList.drop (HT.sIx x.length 0 lo)).take (HT.sIx x.length x.length hi - HT.sIx x.length 0 lo)) := hc
    exact h.2 c (List.mem_of_mem_drop (List.mem_of_mem_take hc))
theorem upper_all : ∀ c, c < 128 → (Unicode.upperOf c).length = 1 ∧ ∀ d ∈ Unicode.upperOf c, d < 128 := by decide +kernel
theorem flat_ones {cs : List Nat} (g : Nat → List Nat) (h : ∀ c ∈ cs, (g c).length = 1 ∧ ∀ d ∈ g c, d < 128) :
    (cs.flatMap g).length = cs.length ∧ ∀ d ∈ cs.flatMap g, d < 128 := by
  induction cs with
  | nil => exact ⟨rfl, nofun⟩
  | cons c r ih =>
    obtain ⟨a, b⟩ := ih fun c m => h c (List.mem_cons_of_mem _ m)
    obtain ⟨a1, b1⟩ := h c (List.mem_cons_self ..)
    rw [List.flatMap_cons]
    refine ⟨by rw [List.length_append, a, a1, List.length_cons]; omega, fun d m => ?_⟩
    exact (List.mem_append.mp m).elim (b1 d) (b d)
theorem zip_map (g : Nat → List Nat) : ∀ (l : List Nat) (k : Nat), (l.zipIdx k).map (fun p => g p.1) = l.map g
  | [], _ => rfl
  | c :: l, k => by rw [List.zipIdx_cons, List.map_cons, List.map_cons, zip_map g l (k + 1)]
theorem upper_flat (x : Str) : (Txt.upper x).cps.toList = x.cps.toList.flatMap Unicode.upperOf := by
  show ((x.cps.mapIdx fun _ c => (Unicode.upperOf c).toArray).flatten).toList = _
  rw [Array.toList_flatten, Array.toList_mapIdx, List.mapIdx_eq_zipIdx_map]
  rw [List.flatMap_def]
  simp
  have e : (Array.toList ∘ fun x : Nat × Nat => (Unicode.upperOf x.1).toArray) = fun p => Unicode.upperOf p.1 := funext fun p => by simp
  rw [e, zip_map]
theorem Asc.upper {l : Nat} {x : Str} (h : Asc l x) : Asc l (Txt.upper x) := by
  obtain ⟨a, b⟩ := flat_ones (cs := x.cps.toList) Unicode.upperOf fun c m => upper_all c (h.2 c m)
  refine ⟨?_, fun d m => b d (by rw [← upper_flat]; exact m)⟩
  have e : (Txt.upper x).length = (Txt.upper x).cps.toList.length := by
    show (Txt.upper x).cps.size = _
    rw [Array.length_toList]
  rw [e, upper_flat, a]
  exact h.1
theorem digits_asc (m : Nat) : ∀ c ∈ (Nat.repr m).toList, c.toNat < 128 := by
  intro c hc
  have e : (Nat.repr m).toList = Nat.toDigits 10 m := by
    unfold Nat.repr
    simp
  rw [e] at hc
  have d := Nat.isDigit_of_mem_toDigits (by decide) (by decide) hc
  have d2 : (c.val ≥ '0'.val && c.val ≤ '9'.val) = true := d
  simp only [Bool.and_eq_true, decide_eq_true_eq] at d2
  have z : c.val.toNat ≤ 57 := UInt32.le_iff_toNat_le.mp d2.2
  show c.val.toNat < 128
  omega
theorem int_asc {i : Int} {k : Nat} (hk : k ≤ 50) (h : i.natAbs ≤ 10 ^ 64 + k) : Asc 66 (toString i) := by
  have h1 : i.natAbs < 10 ^ 65 := Nat.lt_of_le_of_lt h (Nat.lt_of_le_of_lt (Nat.add_le_add_left hk _) (by decide))
  have e := int_text_length_le10 (k := 65) (by decide) h1
  refine ⟨by show (Str.ofString (toString i)).length ≤ 66; rw [PySem.ofString_length]; exact e, fun c hc => ?_⟩
  have e2 : (Str.ofString (toString i)).cps.toList = (toString i).toList.map Char.toNat := by
    rw [Str.ofString_eq_toList]
  have hc : c ∈ (Str.ofString (toString i)).cps.toList := hc
  rw [e2] at hc
  obtain ⟨ch, hm, rfl⟩ := List.mem_map.mp hc
  cases i with
  | ofNat m => exact digits_asc m ch hm
  | negSucc m =>
    have e3 : (toString (Int.negSucc m)).toList = '-' :: (Nat.repr (m + 1)).toList := by
      show ("-" ++ Nat.repr (m + 1)).toList = _
      rw [String.toList_append] <;> rfl
    rw [e3] at hm
    rcases List.mem_cons.mp hm with rfl | hm
    · decide
    · exact digits_asc (m + 1) ch hm
theorem int_fit {i : Int} {k : Nat} (hk : k ≤ 50) (h : i.natAbs ≤ 10 ^ 64 + k) : Fit k 300 0 (.int i) := by
  refine ⟨by simp only [okD, decide_eq_true_eq]; exact h, ?_, Nat.le_refl _⟩
  simp only [PyData.weight]
  split
  · omega
  · rename_i z
    have z : i.natAbs ≠ 0 := by
      intro e
      exact z (by rw [Int.natAbs_eq_zero.mp e] <;> rfl)
    have h1 : i.natAbs < 2 ^ 250 := Nat.lt_of_le_of_lt h (Nat.lt_of_le_of_lt (Nat.add_le_add_left hk _) (by decide +kernel))
    have : i.natAbs.log2 < 250 := (Nat.log2_lt z).mpr h1
    omega
end K01
end

section
set_option Elab.async false
set_option linter.all false
set_option maxRecDepth 100000
set_option maxHeartbeats 4000000
namespace Gd
open PySem PySem.Spec PyProof.Rows L2
section
variable {X : Cx}
def numI : V → Option Int
  | .int i => some i
  | .bl b => some (if b = true then 1 else 0)
  | _ => none
theorem op_add2 : OpR X (binaryOp .Add) (fun x y H Q => ∃ i j, numI x = some i ∧ y = .int j ∧ Q (.int (i + j)) H) := by
  intro pins s σ H x y v u Q I rx ry h
  obtain ⟨i, j, e, rfl, q⟩ := h
  cases x with
  | int a =>
    cases e
    exact op_add pins s σ H _ _ v u Q I rx ry ⟨_, _, rfl, rfl, q⟩
  | bl b =>
    cases e
    exact op_add_bi pins s σ H _ _ v u Q I rx ry ⟨_, _, rfl, rfl, q⟩
  | _ => cases e
theorem op_sub2 : OpR X (binaryOp .Sub) (fun x y H Q => ∃ i j, x = .int i ∧ numI y = some j ∧ Q (.int (i - j)) H) := by
  intro pins s σ H x y v u Q I rx ry h
  obtain ⟨i, j, rfl, e, q⟩ := h
  cases y with
  | int a =>
    cases e
    exact op_sub pins s σ H _ _ v u Q I rx ry ⟨_, _, rfl, rfl, q⟩
  | bl b =>
    cases e
    exact op_sub_ib pins s σ H _ _ v u Q I rx ry ⟨_, _, rfl, rfl, q⟩
  | _ => cases e
theorem call_str2 : CallR X (.type "str") (fun xs H Q => (∃ i, xs = [.int i] ∧ i.natAbs.log2 < 1920 ∧ Q (.str (toString i)) H) ∨ (∃ b, xs = [.bl b] ∧ Q (.str (if b then "True" else "False")) H)) := by
  intro pins s σ H xs us Q I r h
  rcases h with h | h
  · exact call_str_int pins s σ H xs us Q I r h
  · exact call_str_bool pins s σ H xs us Q I r h
/-- t[lo:hi], whichever object -/
def rSlB (K : PySem.W.Frag) : V → Option Int → Option Int → Hp → VK → Prop := fun x lo hi H Q => ∃ a xs, x = .ref a ∧ SqT K H a xs ∧
  ∀ p H', Same H H' → SqT K H' p (cutV xs lo hi) → Q (.ref p) H'
theorem cut_whole {xs : List V} {lo hi : Option Int} (h : HT.sIx xs.length 0 lo = 0 ∧ HT.sIx xs.length xs.length hi = xs.length) : cutV xs lo hi = xs := by
  unfold cutV
  rw [h.1, h.2, List.drop_zero, Nat.sub_zero, List.take_length]
theorem sl_tupB : SlR X (rSlB X.K) := by
  intro pins s σ H x v vl vu lo hi sl Q I rx hs pl pu h
  obtain ⟨a, xs, rfl, hx, q⟩ := h
  refine sl_tupA pins s σ H _ v vl vu lo hi sl Q I rx hs pl pu ⟨a, xs, rfl, hx, fun w => ?_, fun w p hp => ?_⟩
  · exact q a H (fun _ _ e => e) (by rw [cut_whole w]; exact hx)
  · exact q p _ (fresh_same hp) (SqT.of upd_same)
def rCatB (K : PySem.W.Frag) : R2 := fun x y H Q => ∃ a b xs ys, x = .ref a ∧ y = .ref b ∧ SqT K H a xs ∧ SqT K H b ys ∧ xs.length + ys.length ≤ sizeLine ∧
  ∀ p H', Same H H' → SqT K H' p (xs ++ ys) → Q (.ref p) H'
theorem op_catB : OpR X (binaryOp .Add) (rCatB X.K) := by
  intro pins s σ H x y v u Q I rx ry h
  obtain ⟨a, b, xs, ys, rfl, rfl, ha, hb, hz, q⟩ := h
  refine op_catA pins s σ H _ _ v u Q I rx ry ⟨a, b, xs, ys, rfl, rfl, ha, hb, hz, fun e => ?_, fun _ e => ?_, fun _ _ p hp => q p _ (fresh_same hp) (SqT.of upd_same)⟩
  · subst e
    exact q b H (fun _ _ e => e) hb
  · subst e
    exact q a H (fun _ _ e => e) (by rw [List.append_nil]; exact ha)
end
section
variable {K : PySem.W.Frag} {H : Hp} {N : Addr → Prop}
def cutDs (ds : List PyData) (lo hi : Option Int) : List PyData := (ds.drop (HT.sIx ds.length 0 lo)).take (HT.sIx ds.length ds.length hi - HT.sIx ds.length 0 lo)
theorem DdAll.cut {xs : List V} {ds : List PyData} (h : DdAll K H N xs ds) (lo hi : Option Int) : DdAll K H N (cutV xs lo hi) (cutDs ds lo hi) := by
  have e := h.len
  unfold cutV cutDs
  rw [e]
  exact (h.drop _).take _
end
end Gd
namespace K01
open PySem PySem.Spec PyProof.Rows L2 Gd
abbrev sOdd : Stmt := topS 19
theorem scOdd : FnScope ["_law_feed_here", "_law_so_now", "_law_odd_here"] ["_law_feed_here", "_law_so_now"] (defScope sOdd) :=
  ⟨rfl, rfl, rfl, by decide +kernel, rfl, by decide +kernel, by decide +kernel⟩
/-- a list at l of things that fit -/
def Odds (K : PySem.W.Frag) (p : Addr) (k w n m : Nat) (H : Hp) (l : Addr) : Prop := ∃ vs ds, H l = some (.lst vs) ∧ l ≠ p ∧ DdAll K H (· = p) vs ds ∧ (∀ d ∈ ds, Fit k w n d) ∧ vs.length = m ∧ ∃ o, H p = some o
theorem Odds.same {K : PySem.W.Frag} {p : Addr} {k w n m : Nat} {H H' : Hp} {l : Addr} (s : Same H H') (h : Odds K p k w n m H l) : Odds K p k w n m H' l := by
  obtain ⟨vs, ds, a, b, c, d, e, o, f⟩ := h
  exact ⟨vs, ds, s _ _ a, b, c.same s, d, e, o, s _ _ f⟩
/-- xs + us -/
theorem Odds.cat {K : PySem.W.Frag} {p : Addr} {k w n m : Nat} {H H' : Hp} {l b : Addr} {us : List V} {es : List PyData} {Q : VK} (h : Odds K p k w n m H l) (s : Same H H')
    (hb : H' b = some (.lst us)) (hu : DdAll K H' (· = p) us es) (he : ∀ d ∈ es, Fit k w n d) (hz : m + us.length ≤ 1000)
    (q : ∀ c H2, Same H' H2 → Odds K p k w n (m + us.length) H2 c → Q (.ref c) H2) : rCat (.ref l) (.ref b) H' Q := by
  obtain ⟨vs, ds, a, nl, c, d, rfl, o, ho⟩ := h.same s
  refine ⟨l, b, vs, us, rfl, rfl, a, hb, Nat.le_trans hz (by decide), fun c2 hc => ?_⟩
  refine q c2 _ (fresh_same hc) ⟨vs ++ us, ds ++ es, upd_same, ?_, ?_, ?_, by rw [List.length_append], o, fresh_same hc _ _ ho⟩
  · intro e
    rw [e, ho] at hc
    cases hc
  · exact (c.app hu).same (fresh_same hc)
  · exact fun x hx => (List.mem_append.mp hx).elim (d x) (he x)
theorem Odds.rep {K : PySem.W.Frag} {N : Addr → Prop} {H : Hp} {us : List V} {es : List PyData} (h : DdAll K H N us es) : ∀ r : Nat, DdAll K H N (List.replicate r us).flatten (List.replicate r es).flatten
  | 0 => .nil
  | r + 1 => by
    rw [List.replicate_succ, List.replicate_succ, List.flatten_cons, List.flatten_cons]
    exact h.app (Odds.rep h r)
/-- xs + us * 3 -/
theorem Odds.repcat {K : PySem.W.Frag} {p : Addr} {k w n m r : Nat} {H H' : Hp} {l b : Addr} {us : List V} {es : List PyData} {Q : VK} (h : Odds K p k w n m H l) (s : Same H H')
    (hb : H' b = some (.lst us)) (hu : DdAll K H' (· = p) us es) (he : ∀ d ∈ es, Fit k w n d) (hr : us.length = r) (h6 : r ≤ 6) (hm : m ≤ 100)
    (q : ∀ c H2, Same H' H2 → Odds K p k w n (m + 3 * r) H2 c → Q (.ref c) H2) : rRep (.ref b) (.int 3) H' fun y H2 => rCat (.ref l) y H2 Q := by
  refine ⟨b, 3, us, rfl, rfl, hb, by decide, by decide, ?_, fun c hc => ?_⟩
  · show us.length * 3 ≤ 16777216
    omega
  have j := fresh_same (o := .lst (List.replicate (3 : Int).toNat us).flatten) hc
  have e : ((List.replicate (3 : Int).toNat us).flatten).length = 3 * r := by
    show ((List.replicate 3 us).flatten).length = 3 * r
    simp [List.replicate_succ, hr]
    omega
  refine Odds.cat (es := (List.replicate 3 es).flatten) h (s.trans j) upd_same ((Odds.rep hu 3).same j) (fun d hd => ?_) (by omega) fun c2 H2 s2 O2 => ?_
  · obtain ⟨x, hx, hd⟩ := List.mem_flatten.mp hd
    rw [List.eq_of_mem_replicate hx] at hd
    exact he d hd
  · rw [e] at O2
    exact q c2 H2 (j.trans s2) O2
theorem Fits.cut {k w n : Nat} {ds : List PyData} (f : Fits k w n ds) (lo hi : Option Int) : Fits k w n (cutDs ds lo hi) := (f.drop _).take _
def spOdd (K : PySem.W.Frag) : Sp := fun vs H Q _ => ∃ (p : Addr) (v : V) (d : PyData) (S : Int) (k w n : Nat), vs = [.ref p, v] ∧ Feed H p S ∧ S ≤ 100000000 ∧ Dd K H (· = p) v d ∧ Fit k w n d ∧
  5 ≤ k ∧ k ≤ 40 ∧ 3 ≤ n ∧ ∀ (v' : V) (d' : PyData) (H' : Hp), Ex1 p H H' → Feed H' p (S + 1) → Dd K H' (· = p) v' d' → Fit (k + 1) (2 * w + 3000) (n + 1) d' → Q v' H'
def odds1 : List PyData := [.none, .bool true, .bool false, .int 0, .int 1, .int (-1), .int (10 ^ 30), .int (1 - 10 ^ 30), .int (0 - 10 ^ 30), .int (10 ^ 64), .str "", .str "a", .str "abcdefgh"]
def odds2 : List PyData := [.str "A", .str "a.b", .str "a ", .str "a1", .str "a\n", .str "cell", .str "number", .str "over", .str "Plus", .str "minus", .str "alike", .tuple [], .list [], .dict []]
def odds3 : List PyData := [.str "abcdefghi", .tuple [.str "number"]]
def odds4 : List PyData := [.tuple [.str "number", .bool true], .tuple [.str "number", .none], .tuple [.str "number", .int (10 ^ 30)], .tuple [.str "number", .int 1, .int 2], .tuple [.str "cell", .str "a"]]
def odds5 : List PyData := [.tuple [.str "cell", .str "a", .str "b", .str "c"], .tuple [.str "cell", .str "a", .int 1], .tuple [.str "plus", .tuple [.str "number", .int 1]], .list [.str "number", .int 1], .tuple [.str "number", .int 0]]
theorem odds_all : ∀ d ∈ odds1 ++ odds2 ++ odds3 ++ odds4 ++ odds5, okD 5 d = true ∧ d.weight ≤ 3000 ∧ d.depth ≤ 3 := by decide +kernel
theorem odds_fit {k w n : Nat} (hk : 5 ≤ k) (hn : 3 ≤ n) {d : PyData} (h : d ∈ odds1 ++ odds2 ++ odds3 ++ odds4 ++ odds5) : Fit (k + 1) (2 * w + 3000) (n + 1) d := by
  obtain ⟨a, b, c⟩ := odds_all d h
  exact ⟨okD.mono (by omega) d a, by omega, by omega⟩
structure Bo (mg : Str → Option Value) : Prop where
  isi : mg "isinstance" = none
  int : mg "int" = none
  str : mg "str" = none
  tup : mg "tuple" = none
  lst : mg "list" = none
  len : mg "len" = none
section
variable {P : Program} {w : World} {K : PySem.W.Frag} {mg : Str → Option Value} {base : Heap} {f fT : Addr} {fd fdT : FuncData}
theorem ok_odd (F : Fun K "_law_odd" "_law_odd" sOdd f fd) (B : Bo mg)
    (FT : Fun K "_law_take" "_law_take" sTake fT fdT) (bT : Binds K fdT ["_law_feed_here", "_law_many"] []) (gT : mg "_law_take" = some (.ref fT)) :
    FnOk P w K mg base CX0 2 f fd ["_law_feed_here", "_law_so_now"] (spOdd K) := by
  have G : FnOk P w K mg base CX0 1 fT fdT ["_law_feed_here", "_law_many"] spTake := ok_take FT
  refine F.ok scOdd (fun vs H Q E h => ?_) (fun cdv A outer s H vs Q E hr h => ?_)
  · obtain ⟨p, v, d, S, k, w, n, rfl, _⟩ := h
    rfl
  obtain ⟨p, v, d, S, k, w, n, rfl, hF, hS, hd, ft, k5, k40, n3, q⟩ := h
  have nd := scOdd.nd
  have hu := hu_of hr
  refine ⟨_, (pss_cons (ps_set (i := 2) nd rfl (.inl rfl) (pe_lst (pa_cons pe_non (pa_cons pe_bl (pa_cons pe_bl (pa_cons pe_int (pa_cons pe_int (pa_cons (pe_un un_neg pe_int) (pa_cons (pe_op op_pow pe_int pe_int) (pa_cons (pe_op op_sub pe_int (pe_op op_pow pe_int pe_int)) (pa_cons (pe_op op_sub pe_int (pe_op op_pow pe_int pe_int)) (pa_cons (pe_op op_pow pe_int pe_int) (pa_cons pe_str (pa_cons pe_str (pa_cons pe_str pa_nil)))))))))))))))
    (pss_cons (ps_set (i := 2) nd rfl (.inl rfl) (pe_op op_cat (pv 2) (pe_lst (pa_cons pe_str (pa_cons pe_str (pa_cons pe_str (pa_cons pe_str (pa_cons pe_str (pa_cons pe_str (pa_cons pe_str (pa_cons pe_str (pa_cons pe_str (pa_cons pe_str (pa_cons pe_str (pa_cons (pe_tup pa_nil) (pa_cons (pe_lstS pa_nil) (pa_cons pe_dnewK pa_nil)))))))))))))))))
    (pss_cons (ps_set (i := 2) nd rfl (.inl rfl) (pe_op op_cat (pv 2) (pe_lst (pa_cons pe_str (pa_cons (pe_tup (pa_cons pe_str pa_nil)) pa_nil)))))
    (pss_cons (ps_set (i := 2) nd rfl (.inl rfl) (pe_op op_cat (pv 2) (pe_lst (pa_cons (pe_tup (pa_cons pe_str (pa_cons pe_bl pa_nil))) (pa_cons (pe_tup (pa_cons pe_str (pa_cons pe_non pa_nil))) (pa_cons (pe_tup (pa_cons pe_str (pa_cons (pe_op op_pow pe_int pe_int) pa_nil))) (pa_cons (pe_tup (pa_cons pe_str (pa_cons pe_int (pa_cons pe_int pa_nil)))) (pa_cons (pe_tup (pa_cons pe_str (pa_cons pe_str pa_nil))) pa_nil))))))))
    (pss_cons (ps_set (i := 2) nd rfl (.inl rfl) (pe_op op_cat (pv 2) (pe_lst (pa_cons (pe_tup (pa_cons pe_str (pa_cons pe_str (pa_cons pe_str (pa_cons pe_str pa_nil))))) (pa_cons (pe_tup (pa_cons pe_str (pa_cons pe_str (pa_cons pe_int pa_nil)))) (pa_cons (pe_tup (pa_cons pe_str (pa_cons (pe_tup (pa_cons pe_str (pa_cons pe_int pa_nil))) pa_nil))) (pa_cons (pe_lstS (pa_cons pe_str (pa_cons pe_int pa_nil))) (pa_cons (pe_tup (pa_cons pe_str (pa_cons pe_int pa_nil))) pa_nil))))))))
    (C8.pss_cut (ps_if (pt_val (pe_callB call_isi (by rfl) B.isi (by decide +kernel) (pa_cons (pv 1) (pa_cons (pe_bltn (v := .ty "int") (by rfl) B.int (by decide +kernel) rfl) pa_nil)))) (pss_one (ps_set (i := 2) nd rfl (.inl rfl) (pe_op op_cat (pv 2) (pe_op op_rep (pe_lst (pa_cons (pe_op op_add2 (pv 1) pe_int) (pa_cons (pe_cmpR (op_eqD hr.units) (pv 1) pe_int (nomark _)) (pa_cons (pe_callTy call_str2 (by rfl) B.str (by decide +kernel) (pa_cons (pv 1) pa_nil)) (pa_cons (pe_lstS (pa_cons (pv 1) pa_nil)) (pa_cons (pe_op op_sub2 pe_int (pv 1)) pa_nil)))))) pe_int)))) pss_nil)
    (C8.pss_cut (ps_if (pt_val (pe_callB call_isi (by rfl) B.isi (by decide +kernel) (pa_cons (pv 1) (pa_cons (pe_bltn (v := .ty "str") (by rfl) B.str (by decide +kernel) rfl) pa_nil)))) (pss_one (ps_set (i := 2) nd rfl (.inl rfl) (pe_op op_cat (pv 2) (pe_op op_rep (pe_lst (pa_cons (pe_op op_add_str (pv 1) pe_str) (pa_cons (pe_slice sl_str (pv 1) po_none (po_some (pe_un un_neg pe_int))) (pa_cons (pe_upper (pv 1)) (pa_cons (pe_lstS (pa_cons (pv 1) pa_nil)) (pa_cons (pe_tup (pa_cons (pv 1) pa_nil)) (pa_cons (pe_op op_add_str (pv 1) pe_str) pa_nil))))))) pe_int)))) pss_nil)
    (C8.pss_cut (ps_if (pt_val (pe_callB call_isi (by rfl) B.isi (by decide +kernel) (pa_cons (pv 1) (pa_cons (pe_bltn (v := .ty "tuple") (by rfl) B.tup (by decide +kernel) rfl) pa_nil)))) (pss_one (ps_set (i := 2) nd rfl (.inl rfl) (pe_op op_cat (pv 2) (pe_op op_rep (pe_lst (pa_cons (pe_callTy call_listS (by rfl) B.lst (by decide +kernel) (pa_cons (pv 1) pa_nil)) (pa_cons (pe_slice sl_tupB (pv 1) po_none (po_some (pe_un un_neg pe_int))) (pa_cons (pe_slice sl_tupB (pv 1) (po_some pe_int) po_none) (pa_cons (pe_revT (pv 1)) (pa_cons (pe_op op_catB (pv 1) (pe_slice sl_tupB (pv 1) (po_some (pe_un un_neg pe_int)) po_none)) (pa_cons (pe_tup (pa_cons (pv 1) pa_nil)) pa_nil))))))) pe_int)))) pss_nil)
    (pss_one (ps_ret (pe_ix ix_list (pv 2) (pe_call G hr (by rfl) gT FT.kp bT .nil pass0 (pa_cons (pv 0) (pa_cons (pe_callB call_len_seq (by rfl) B.len PySem.boot_len (pa_cons (pv 2) pa_nil)) pa_nil))) (fun _ _ => rfl)))))))))))), ?_⟩
  have np : ∃ o, H p = some o := by
    obtain ⟨g, x, s, ep, _⟩ := hF
    exact ⟨_, ep⟩
  have P30 : (0 : Int) ≤ 30 ∧ (30 : Int) ≤ 1000000 ∧ (10 : Int).natAbs < 2 ^ 64 := ⟨by decide, by decide, by decide⟩
  have P64 : (0 : Int) ≤ 64 ∧ (64 : Int) ≤ 1000000 ∧ (10 : Int).natAbs < 2 ^ 64 := ⟨by decide, by decide, by decide⟩
  refine ⟨_, rfl, 10, 30, rfl, rfl, P30, 10, 30, rfl, rfl, P30, _, _, rfl, rfl, 10, 30, rfl, rfl, P30, _, _, rfl, rfl, 10, 64, rfl, rfl, P64, (by show 13 ≤ sizeLine; decide), fun l1 h1 => ?_⟩
  have S1 : Same H (upd H l1 (.lst [.non, .bl true, .bl false, .int 0, .int 1, .int (-1), .int (10 ^ 30), .int (1 - 10 ^ 30), .int (0 - 10 ^ 30), .int (10 ^ 64), .str "", .str "a", .str "abcdefgh"])) := fresh_same h1
  have O1 : Odds K p (k + 1) (2 * w + 3000) (n + 1) 13 (upd H l1 (.lst [.non, .bl true, .bl false, .int 0, .int 1, .int (-1), .int (10 ^ 30), .int (1 - 10 ^ 30), .int (0 - 10 ^ 30), .int (10 ^ 64), .str "", .str "a", .str "abcdefgh"])) l1 := by
    obtain ⟨o, ho⟩ := np
    refine ⟨_, odds1, upd_same, hF.ne h1, ?_, fun d m => odds_fit k5 n3 (by simp [m]), rfl, o, S1 _ _ ho⟩
    exact (.cons .non (.cons (.bl _) (.cons (.bl _) (.cons (.int _) (.cons (.int _) (.cons (.int _) (.cons (.int _) (.cons (.int _) (.cons (.int _) (.cons (.int _) (.cons (.str _) (.cons (.str _) (.cons (.str _) .nil)))))))))))))
  -- the second row
  refine ⟨_, rfl, (by show 0 ≤ sizeLine; decide), fun t1 n1 => (⟨(by show 0 ≤ sizeLine; decide), fun a1 n2 g2 => fun d1 n3' => ⟨(by show 14 ≤ sizeLine; decide), fun l2 h2 => ?_⟩⟩ : _ ∧ _)⟩
  have j1 := fresh_same (o := .tup []) n1
  have j2 := fresh_same (o := .lst []) n2
  have j3 := fresh_same (o := .dK []) n3'
  have j4 := fresh_same (o := .lst [.str "A", .str "a.b", .str "a ", .str "a1", .str "a\n", .str "cell", .str "number", .str "over", .str "Plus", .str "minus", .str "alike", .ref t1, .ref a1, .ref d1]) h2
  have pa1 : a1 ≠ p := fun z => by
    obtain ⟨o, ho⟩ := np
    have := j1 _ _ (S1 _ _ ho)
    rw [← z, n2] at this
    cases this
  have pd1 : d1 ≠ p := fun z => by
    obtain ⟨o, ho⟩ := np
    have := j2 _ _ (j1 _ _ (S1 _ _ ho))
    rw [← z, n3'] at this
    cases this
  refine Odds.cat (es := odds2) O1 (j1.trans (j2.trans (j3.trans j4))) upd_same ?_ (fun d m => odds_fit k5 n3 (by simp [m])) (by simp) fun c2 H2 s2 O2 => ?_
  · exact (.cons (.str _) (.cons (.str _) (.cons (.str _) (.cons (.str _) (.cons (.str _) (.cons (.str _) (.cons (.str _) (.cons (.str _) (.cons (.str _) (.cons (.str _) (.cons (.str _) (.cons (.tup (SqT.of (j4 _ _ (j3 _ _ (j2 _ _ upd_same)))) .nil) (.cons (.lst (j4 _ _ (j3 _ _ upd_same)) pa1 g2 .nil) (.cons (.dct0 (j4 _ _ upd_same) pd1) .nil))))))))))))))
  have S2 : Same H H2 := S1.trans ((j1.trans (j2.trans (j3.trans j4))).trans s2)
  clear j1 j2 j3 j4 s2 O1 S1 n1 n2 n3' h2 g2 pa1 pd1 h1
  refine ⟨_, rfl, (by show 1 ≤ sizeLine; decide), fun ta nta => ?_⟩
  refine ⟨(by show 2 ≤ sizeLine; decide), fun lz hz => ?_⟩
  have jta := fresh_same (o := .tup [.str "number"]) nta
  have jlz := fresh_same (o := .lst [.str "abcdefghi", .ref ta]) hz
  refine Odds.cat (es := odds3) O2 (jta.trans jlz) upd_same ?_ (fun d m => odds_fit k5 n3 (by simp [m])) (by simp) fun c3 H3 s3 O3 => ?_
  · exact (.cons (.str _) (.cons (.tup (SqT.of (jlz _ _ upd_same)) (.cons (.str _) .nil)) .nil))
  have S3 : Same H H3 := S2.trans ((jta.trans jlz).trans s3)
  clear nta jta jlz hz s3 O2 S2
  refine ⟨_, rfl, (by show 2 ≤ sizeLine; decide), fun ta nta => ?_⟩
  refine ⟨(by show 2 ≤ sizeLine; decide), fun tb ntb => ?_⟩
  refine ⟨10, 30, rfl, rfl, P30, (by show 2 ≤ sizeLine; decide), fun tc ntc => ?_⟩
  refine ⟨(by show 3 ≤ sizeLine; decide), fun td ntd => ?_⟩
  refine ⟨(by show 2 ≤ sizeLine; decide), fun te nte => ?_⟩
  refine ⟨(by show 5 ≤ sizeLine; decide), fun lz hz => ?_⟩
  have jta := fresh_same (o := .tup [.str "number", .bl true]) nta
  have jtb := fresh_same (o := .tup [.str "number", .non]) ntb
  have jtc := fresh_same (o := .tup [.str "number", .int (10 ^ 30)]) ntc
  have jtd := fresh_same (o := .tup [.str "number", .int 1, .int 2]) ntd
  have jte := fresh_same (o := .tup [.str "cell", .str "a"]) nte
  have jlz := fresh_same (o := .lst [.ref ta, .ref tb, .ref tc, .ref td, .ref te]) hz
  refine Odds.cat (es := odds4) O3 (jta.trans (jtb.trans (jtc.trans (jtd.trans (jte.trans jlz))))) upd_same ?_ (fun d m => odds_fit k5 n3 (by simp [m])) (by simp) fun c4 H4 s4 O4 => ?_
  · exact (.cons (.tup (SqT.of (jlz _ _ (jte _ _ (jtd _ _ (jtc _ _ (jtb _ _ upd_same)))))) (.cons (.str _) (.cons (.bl _) .nil))) (.cons (.tup (SqT.of (jlz _ _ (jte _ _ (jtd _ _ (jtc _ _ upd_same))))) (.cons (.str _) (.cons .non .nil))) (.cons (.tup (SqT.of (jlz _ _ (jte _ _ (jtd _ _ upd_same)))) (.cons (.str _) (.cons (.int _) .nil))) (.cons (.tup (SqT.of (jlz _ _ (jte _ _ upd_same))) (.cons (.str _) (.cons (.int _) (.cons (.int _) .nil)))) (.cons (.tup (SqT.of (jlz _ _ upd_same)) (.cons (.str _) (.cons (.str _) .nil))) .nil)))))
  have S4 : Same H H4 := S3.trans ((jta.trans (jtb.trans (jtc.trans (jtd.trans (jte.trans jlz))))).trans s4)
  clear nta ntb ntc ntd nte jta jtb jtc jtd jte jlz hz s4 O3 S3
  refine ⟨_, rfl, (by show 4 ≤ sizeLine; decide), fun ta nta => ?_⟩
  refine ⟨(by show 3 ≤ sizeLine; decide), fun tb ntb => ?_⟩
  refine ⟨(by show 2 ≤ sizeLine; decide), fun tc ntc => ?_⟩
  refine ⟨(by show 2 ≤ sizeLine; decide), fun td ntd => ?_⟩
  refine ⟨(by show 2 ≤ sizeLine; decide), fun te nte gte => ?_⟩
  refine ⟨(by show 2 ≤ sizeLine; decide), fun tf ntf => ?_⟩
  refine ⟨(by show 5 ≤ sizeLine; decide), fun lz hz => ?_⟩
  have jta := fresh_same (o := .tup [.str "cell", .str "a", .str "b", .str "c"]) nta
  have jtb := fresh_same (o := .tup [.str "cell", .str "a", .int 1]) ntb
  have jtc := fresh_same (o := .tup [.str "number", .int 1]) ntc
  have jtd := fresh_same (o := .tup [.str "plus", .ref tc]) ntd
  have jte := fresh_same (o := .lst [.str "number", .int 1]) nte
  have jtf := fresh_same (o := .tup [.str "number", .int 0]) ntf
  have jlz := fresh_same (o := .lst [.ref ta, .ref tb, .ref td, .ref te, .ref tf]) hz
  have pte : te ≠ p := fun z => by
    obtain ⟨o, ho⟩ := np
    have := (jtd _ _ (jtc _ _ (jtb _ _ (jta _ _ (S4 _ _ ho)))))
    rw [← z, nte] at this
    cases this
  refine Odds.cat (es := odds5) O4 (jta.trans (jtb.trans (jtc.trans (jtd.trans (jte.trans (jtf.trans jlz)))))) upd_same ?_ (fun d m => odds_fit k5 n3 (by simp [m])) (by simp) fun c5 H5 s5 O5 => ?_
  · exact (.cons (.tup (SqT.of (jlz _ _ (jtf _ _ (jte _ _ (jtd _ _ (jtc _ _ (jtb _ _ upd_same))))))) (.cons (.str _) (.cons (.str _) (.cons (.str _) (.cons (.str _) .nil))))) (.cons (.tup (SqT.of (jlz _ _ (jtf _ _ (jte _ _ (jtd _ _ (jtc _ _ upd_same)))))) (.cons (.str _) (.cons (.str _) (.cons (.int _) .nil)))) (.cons (.tup (SqT.of (jlz _ _ (jtf _ _ (jte _ _ upd_same)))) (.cons (.str _) (.cons (.tup (SqT.of (jlz _ _ (jtf _ _ (jte _ _ (jtd _ _ upd_same))))) (.cons (.str _) (.cons (.int _) .nil))) .nil))) (.cons (.lst (jlz _ _ (jtf _ _ upd_same)) pte gte (.cons (.str _) (.cons (.int _) .nil))) (.cons (.tup (SqT.of (jlz _ _ upd_same)) (.cons (.str _) (.cons (.int _) .nil))) .nil)))))
  have S5 : Same H H5 := S4.trans ((jta.trans (jtb.trans (jtc.trans (jtd.trans (jte.trans (jtf.trans jlz)))))).trans s5)
  clear nta ntb ntc ntd nte ntf jta jtb jtc jtd jte jtf jlz gte pte hz s5 O4 S4
  have O5 : Odds K p (k + 1) (2 * w + 3000) (n + 1) 39 H5 c5 := O5
  have kind : ∀ {H' : Hp}, Same H H' → TyX K H' v (.type (kindN d)) := fun s => (hd.same s).kind
  refine ⟨fun σ' H' => Same H H' ∧ ∃ l m, σ' = [some (.ref p), some v, some (.ref l)] ∧ Odds K p (k + 1) (2 * w + 3000) (n + 1) m H' l ∧ 1 ≤ m ∧ m ≤ 60, ?_, ?_⟩
  · refine ⟨_, rfl, _, _, _, _, isI d, rfl, .ty _, kind S5, kit_ty (k_int d), _, rfl, ite2 (fun e => ?_) (fun e => ⟨S5, c5, 39, rfl, O5, by omega, by omega⟩)⟩
    cases d with
    | int i =>
      cases hd
      have oi : i.natAbs ≤ 10 ^ 64 + k := by
        have := ft.ok
        simpa only [okD, decide_eq_true_eq] using this
      refine ⟨_, rfl, _, rfl, i, 1, rfl, rfl, _, rfl, .int i, .int 1, .int i, .int 1, rfl, rfl, _, rfl, .inl ⟨i, rfl, (int_short (by omega) oi).2, ?_⟩⟩
      refine ⟨_, rfl, (by show 1 ≤ sizeLine; decide), fun a1 n1 g1 => ?_⟩
      refine ⟨_, rfl, 0, i, rfl, rfl, ?_⟩
      refine ⟨(by show 5 ≤ sizeLine; decide), fun b1 m1 => ?_⟩
      have j1 := fresh_same (o := .lst [.int i]) n1
      have j2 := fresh_same (o := .lst [.int (i + 1), .bl (PyData.eqv (.int i) (.int 1)), .str (toString i), .ref a1, .int (0 - i)]) m1
      have pa : a1 ≠ p := fun z => by
        obtain ⟨o, ho⟩ := np
        have := S5 _ _ ho
        rw [← z, n1] at this
        cases this
      refine Odds.repcat (r := 5) (es := [.int (i + 1), .bool (PyData.eqv (.int i) (.int 1)), .str (toString i), .list [.int i], .int (0 - i)]) O5 (j1.trans j2) upd_same ?_ ?_ rfl (by omega) (by omega) fun c6 H6 s6 O6 => ?_
      · exact .cons (.int _) (.cons (.bl _) (.cons (.str _) (.cons (.lst (j2 _ _ upd_same) pa g1 (.cons (.int _) .nil)) (.cons (.int _) .nil))))
      · intro x hx
        simp only [List.mem_cons, List.not_mem_nil, or_false] at hx
        rcases hx with rfl | rfl | rfl | rfl | rfl
        · exact (int_fit (k := k + 1) (by omega) (by omega)).mono (Nat.le_refl _) (by omega) (by omega)
        · exact ⟨rfl, by simp [PyData.weight], by simp [PyData.depth]⟩
        · exact ((int_asc (by omega) oi).fit (k := k + 1) (by omega)).mono (Nat.le_refl _) (by omega) (by omega)
        · have f1 := ft.mono (k' := k + 1) (w' := w) (n' := n) (by omega) (Nat.le_refl _) (Nat.le_refl _)
          exact ((Fits.one f1 (by omega)).lst).mono (Nat.le_refl _) (by omega) (by omega)
        · exact (int_fit (k := k + 1) (by omega) (by omega)).mono (Nat.le_refl _) (by omega) (by omega)
      · exact ⟨S5.trans ((j1.trans j2).trans s6), c6, 54, rfl, O6, by omega, by omega⟩
    | bool i =>
      cases hd
      refine ⟨_, rfl, _, rfl, _, 1, rfl, rfl, _, rfl, .bool i, .int 1, .bl i, .int 1, rfl, rfl, _, rfl, .inr ⟨i, rfl, ?_⟩⟩
      refine ⟨_, rfl, (by show 1 ≤ sizeLine; decide), fun a1 n1 g1 => ?_⟩
      refine ⟨_, rfl, 0, _, rfl, rfl, ?_⟩
      refine ⟨(by show 5 ≤ sizeLine; decide), fun b1 m1 => ?_⟩
      have j1 := fresh_same (o := .lst [.bl i]) n1
      have j2 := fresh_same (o := .lst [.int ((if i = true then 1 else 0) + 1), .bl (PyData.eqv (.bool i) (.int 1)), .str (if i then "True" else "False"), .ref a1, .int (0 - (if i = true then 1 else 0))]) m1
      have pa : a1 ≠ p := fun z => by
        obtain ⟨o, ho⟩ := np
        have := S5 _ _ ho
        rw [← z, n1] at this
        cases this
      refine Odds.repcat (r := 5) (es := [.int ((if i = true then 1 else 0) + 1), .bool (PyData.eqv (.bool i) (.int 1)), .str (if i then "True" else "False"), .list [.bool i], .int (0 - (if i = true then 1 else 0))]) O5 (j1.trans j2) upd_same ?_ ?_ rfl (by omega) (by omega) fun c6 H6 s6 O6 => ?_
      · exact .cons (.int _) (.cons (.bl _) (.cons (.str _) (.cons (.lst (j2 _ _ upd_same) pa g1 (.cons (.bl _) .nil)) (.cons (.int _) .nil))))
      · have all : ∀ i : Bool, ∀ x ∈ ([.int ((if i = true then 1 else 0) + 1), .bool (PyData.eqv (.bool i) (.int 1)), .str (if i then "True" else "False"), .list [.bool i], .int (0 - (if i = true then 1 else 0))] : List PyData),
            okD 5 x = true ∧ x.weight ≤ 3000 ∧ x.depth ≤ 3 := by decide +kernel
        intro x hx
        obtain ⟨a, b, c⟩ := all i x hx
        exact ⟨okD.mono (by omega) x a, by omega, by omega⟩
      · exact ⟨S5.trans ((j1.trans j2).trans s6), c6, 54, rfl, O6, by omega, by omega⟩
    | _ => exact Bool.noConfusion e
  rintro σ6 H6 ⟨S6, l6, m6, rfl, O6, m61, m62⟩
  refine ⟨fun σ' H' => Same H H' ∧ ∃ l m, σ' = [some (.ref p), some v, some (.ref l)] ∧ Odds K p (k + 1) (2 * w + 3000) (n + 1) m H' l ∧ 1 ≤ m ∧ m ≤ 80, ?_, ?_⟩
  · refine ⟨_, rfl, _, _, _, _, isS d, rfl, .ty _, kind S6, kit_ty (k_str d), _, rfl, ite2 (fun e => ?_) (fun e => ⟨S6, l6, m6, rfl, O6, by omega, by omega⟩)⟩
    cases d with
    | str x =>
      cases hd
      have ax : Asc (100 + k) x := Asc.of ft
      have xz : x.length ≤ 140 := Nat.le_trans ax.1 (by omega)
      have z16 : sizeLine = 16777216 := rfl
      refine ⟨_, rfl, _, rfl, _, _, rfl, rfl, (by show x.length + 1 ≤ sizeLine; omega), ?_⟩
      refine ⟨_, rfl, 1, rfl, _, rfl, x, rfl, by omega, ?_⟩
      refine ⟨_, rfl, ⟨_, rfl⟩, x, rfl, rfl, by omega, ?_⟩
      refine ⟨_, rfl, (by show 1 ≤ sizeLine; decide), fun a1 n1 g1 => ?_⟩
      refine ⟨_, rfl, (by show 1 ≤ sizeLine; decide), fun t2 n2 => ?_⟩
      refine ⟨_, rfl, _, _, rfl, rfl, (by show x.length + 1 ≤ sizeLine; omega), ?_⟩
      refine ⟨(by show 6 ≤ sizeLine; decide), fun b1 m1 => ?_⟩
      have j1 := fresh_same (o := .lst [.str x]) n1
      have j2 := fresh_same (o := .tup [.str x]) n2
      have j3 := fresh_same (o := .lst [.str (x ++ "a"), .str (cutS x none (some (-1))), .str (Txt.upper x), .ref a1, .ref t2, .str (x ++ "\n")]) m1
      have pa : a1 ≠ p := fun z => by
        obtain ⟨o, ho⟩ := np
        have := S6 _ _ ho
        rw [← z, n1] at this
        cases this
      refine Odds.repcat (r := 6) (es := [.str (x ++ "a"), .str (cutS x none (some (-1))), .str (Txt.upper x), .list [.str x], .tuple [.str x], .str (x ++ "\n")]) O6 (j1.trans (j2.trans j3)) upd_same ?_ ?_ rfl (by omega) (by omega) fun c7 H7 s7 O7 => ?_
      · exact .cons (.str _) (.cons (.str _) (.cons (.str _) (.cons (.lst (j3 _ _ (j2 _ _ upd_same)) pa g1 (.cons (.str _) .nil)) (.cons (.tup (SqT.of (j3 _ _ upd_same)) (.cons (.str _) .nil)) (.cons (.str _) .nil)))))
      · have one : ∀ y : Str, y.length = 1 → (∀ c ∈ y.cps.toList, c < 128) → Fit (k + 1) (2 * w + 3000) (n + 1) (.str (x ++ y)) := fun y h1 h2 =>
          ((ax.app (m := 1) ⟨by omega, h2⟩).fit (k := k + 1) (by omega)).mono (Nat.le_refl _) (by omega) (by omega)
        have f1 := ft.mono (k' := k + 1) (w' := w) (n' := n) (by omega) (Nat.le_refl _) (Nat.le_refl _)
        intro y hy
        simp only [List.mem_cons, List.not_mem_nil, or_false] at hy
        rcases hy with rfl | rfl | rfl | rfl | rfl | rfl
        · exact one "a" rfl (by decide +kernel)
        · exact ((ax.cut none (some (-1))).fit (k := k + 1) (by omega)).mono (Nat.le_refl _) (by omega) (by omega)
        · exact (ax.upper.fit (k := k + 1) (by omega)).mono (Nat.le_refl _) (by omega) (by omega)
        · exact ((Fits.one f1 (by omega)).lst).mono (Nat.le_refl _) (by omega) (by omega)
        · exact ((Fits.one f1 (by omega)).tup).mono (Nat.le_refl _) (by omega) (by omega)
        · exact one "\n" rfl (by decide +kernel)
      · exact ⟨S6.trans ((j1.trans (j2.trans j3)).trans s7), c7, m6 + 18, rfl, O7, by omega, by omega⟩
    | _ => exact Bool.noConfusion e
  rintro σ7 H7 ⟨S7, l7, m7, rfl, O7, m71, m72⟩
  refine ⟨fun σ' H' => Same H H' ∧ ∃ l m, σ' = [some (.ref p), some v, some (.ref l)] ∧ Odds K p (k + 1) (2 * w + 3000) (n + 1) m H' l ∧ 1 ≤ m ∧ m ≤ 100, ?_, ?_⟩
  · refine ⟨_, rfl, _, _, _, _, isT d, rfl, .ty _, kind S7, kit_ty (k_tup d), _, rfl, ite2 (fun e => ?_) (fun e => ⟨S7, l7, m7, rfl, O7, by omega, by omega⟩)⟩
    cases d with
    | tuple ds =>
      cases hd with
      | @tup a xs _ hS hA =>
      have hS7 := Tups.of_same S7 _ _ hS
      obtain ⟨n', rfl⟩ : ∃ n', n = n' + 1 := ⟨n - 1, by omega⟩
      have fs := Fits.of ft
      have hlen := hA.len
      have fl := fs.len
      have z16 : sizeLine = 16777216 := rfl
      refine ⟨_, rfl, _, rfl, a, xs, rfl, hS7, fun a1 n1 g1 => ?_⟩
      have j1 := fresh_same (o := .lst xs) n1
      have pa : a1 ≠ p := fun z => by
        obtain ⟨o, ho⟩ := np
        have := S7 _ _ ho
        rw [← z, n1] at this
        cases this
      refine ⟨_, rfl, 1, rfl, _, rfl, a, xs, rfl, Tups.of_same j1 _ _ hS7, fun p1 I1 k1 q1 => ?_⟩
      have e1 := k1 _ _ (upd_same (H := H7) (a := a1) (o := .lst xs))
      have J1 := j1.trans k1
      refine ⟨_, rfl, 1, rfl, a, xs, rfl, Tups.of_same J1 _ _ hS7, fun p2 I2 k2 q2 => ?_⟩
      have J2 := J1.trans k2
      refine ⟨_, rfl, a, xs, rfl, Tups.of_same J2 _ _ hS7, fun p3 n3' => ?_⟩
      have k3 := fresh_same (o := .tup xs.reverse) n3'
      have J3 := J2.trans k3
      refine ⟨_, rfl, _, rfl, 1, rfl, _, rfl, a, xs, rfl, Tups.of_same J3 _ _ hS7, fun p4 I4 k4 q4 => ?_⟩
      have J4 := J3.trans k4
      have cl := cutV_length xs (some (-1)) none
      refine ⟨a, p4, xs, _, rfl, rfl, Tups.of_same J4 _ _ hS7, q4, (by show xs.length + (cutV xs (some (-1)) none).length ≤ sizeLine; omega), fun p5 I5 k5' q5 => ?_⟩
      have J5 := J4.trans k5'
      refine ⟨_, rfl, (by show 1 ≤ sizeLine; decide), fun t6 n6 => ?_⟩
      have k6 := fresh_same (o := .tup [.ref a]) n6
      have J6 := J5.trans k6
      refine ⟨(by show 6 ≤ sizeLine; decide), fun b1 m1 => ?_⟩
      have k7 := fresh_same (o := .lst [.ref a1, .ref p1, .ref p2, .ref p3, .ref p5, .ref t6]) m1
      have J7 := J6.trans k7
      have A7 : DdAll K _ (· = p) xs ds := hA.same (S7.trans J7)
      have K56 := k5'.trans (k6.trans k7)
      have K36 := k4.trans K56
      have K26 := k3.trans K36
      have K16 := k2.trans K26
      refine Odds.repcat (r := 6) (es := [.list ds, .tuple (cutDs ds none (some (-1))), .tuple (cutDs ds (some 1) none), .tuple ds.reverse, .tuple (ds ++ cutDs ds (some (-1)) none), .tuple [.tuple ds]]) O7 J7 upd_same ?_ ?_ rfl (by omega) (by omega) fun c8 H8 s8 O8 => ?_
      · exact .cons (.lst (K16 _ _ e1) pa g1 A7) (.cons (.tup (Tups.of_same K16 _ _ q1) (A7.cut _ _)) (.cons (.tup (Tups.of_same K26 _ _ q2) (A7.cut _ _)) (.cons (.tup (SqT.of (K36 _ _ upd_same)) A7.rev)
          (.cons (.tup (Tups.of_same (k6.trans k7) _ _ q5) (A7.app (A7.cut _ _))) (.cons (.tup (SqT.of (k7 _ _ upd_same)) (.cons (.tup (Tups.of_same (S7.trans J7) _ _ hS) A7) .nil)) .nil)))))
      · have f1 := ft.mono (k' := k + 1) (w' := w) (n' := n' + 1) (by omega) (Nat.le_refl _) (Nat.le_refl _)
        intro y hy
        simp only [List.mem_cons, List.not_mem_nil, or_false] at hy
        rcases hy with rfl | rfl | rfl | rfl | rfl | rfl
        · exact fs.lst.mono (by omega) (by omega) (by omega)
        · exact (fs.cut _ _).tup.mono (by omega) (by omega) (by omega)
        · exact (fs.cut _ _).tup.mono (by omega) (by omega) (by omega)
        · exact fs.rev.tup.mono (by omega) (by omega) (by omega)
        · have c1 : (cutDs ds (some (-1)) none).length ≤ 1 := by
            unfold cutDs
            rw [List.length_take, List.length_drop]
            show min (ds.length - (if (-1 : Int) < 0 then ((-1 : Int) + (ds.length : Int)).toNat else min (-1 : Int).toNat ds.length)) _ ≤ 1
            rw [if_pos (by decide)]
            omega
          have fa := fs.mono (k' := k + 1) (Nat.le_succ k) (Nat.le_refl w) (Nat.le_refl n')
          have fb := (fs.cut (some (-1)) none).mono (k' := k + 1) (Nat.le_succ k) (Nat.le_refl w) (Nat.le_refl n')
          exact (Fits.app (l1 := 0) (l2 := 0) fa fb (by omega)).tup.mono (Nat.le_refl _) (by omega) (by omega)
        · exact ((Fits.one f1 (by omega)).tup).mono (Nat.le_refl _) (by omega) (by omega)
      · exact ⟨S7.trans (J7.trans s8), c8, m7 + 18, rfl, O8, by omega, by omega⟩
    | _ => exact Bool.noConfusion e
  rintro σ8 H8 ⟨S8, l8, m8, rfl, O8, m81, m82⟩
  obtain ⟨vs, ds, el, nl, hA, hf, lv, o, ho⟩ := O8
  have F8 : Feed H8 p S := by
    obtain ⟨g, x, s, ep, s0, s1⟩ := hF
    exact ⟨g, x, s, S8 _ _ ep, s0, s1⟩
  refine ⟨_, rfl, _, rfl, _, rfl, l8, vs, rfl, .inl (SqL.of el), p, _, S, rfl, F8, by omega, by omega, by omega, fun r H9 r0 r1 F9 x9 => ?_⟩
  have e9 := x9 l8 _ nl el
  have hi : r.toNat < vs.length := by omega
  have er : ((r.toNat : Nat) : Int) = r := by omega
  have ea : atI vs r = some vs[r.toNat] := by
    have z : atI vs ((r.toNat : Nat) : Int) = some vs[r.toNat] := atI_nat (List.getElem?_eq_getElem hi)
    rw [er] at z
    exact z
  obtain ⟨d9, ed, hd9⟩ := hA.at_ (List.getElem?_eq_getElem hi)
  obtain ⟨g, x, s9, ep, _⟩ := F8
  exact ⟨l8, vs, r, _, rfl, rfl, SqL.of e9, ea, q _ d9 H9 (fun b u nb e => x9 _ _ nb (S8 _ _ e)) F9 (hd9.drawn ep x9) (hf d9 (List.mem_of_getElem? ed))⟩
end
end K01
end

section
set_option Elab.async false
set_option linter.all false
set_option maxRecDepth 100000
set_option maxHeartbeats 4000000
namespace K01
open PySem PySem.Spec PyProof.Rows L2 Gd
abbrev sBent : Stmt := topS 20
theorem scBent : FnScope ["_law_feed_here", "_law_so_now", "_law_at"] ["_law_feed_here", "_law_so_now"] (defScope sBent) :=
  ⟨rfl, rfl, rfl, by decide +kernel, rfl, by decide +kernel, by decide +kernel⟩
def spBent (K : PySem.W.Frag) (m : Nat) : Sp := fun vs H Q _ => ∃ (p : Addr) (v : V) (d : PyData) (S : Int) (k w n : Nat), vs = [.ref p, v] ∧ Feed H p S ∧ S + 2 * m + 4 ≤ 10000000 ∧ Dd K H (· = p) v d ∧ Fit k w n d ∧
  5 ≤ k ∧ k ≤ 40 ∧ d.depth < m ∧ ∀ (v' : V) (d' : PyData) (H' : Hp), Ex1 p H H' → Feed H' p (S + 2 * m + 4) → Dd K H' (· = p) v' d' → Fit (k + 1) (2 * w + 3000) (n + 4) d' → Q v' H'
theorem cut_to {ds : List PyData} {i : Nat} (h : i ≤ ds.length) : cutDs ds none (some (i : Int)) = ds.take i := by
  unfold cutDs
  rw [HT.sIx_none, HT.sIx_nat, List.drop_zero, Nat.sub_zero, Nat.min_eq_left h]
theorem cut_from {ds : List PyData} {i : Nat} (h : i ≤ ds.length) : cutDs ds (some (i : Int)) none = ds.drop i := by
  unfold cutDs
  rw [HT.sIx_none, HT.sIx_nat, Nat.min_eq_left h]
  exact List.take_of_length_le (by rw [List.length_drop] <;> exact Nat.le_refl _)
theorem wt_parts {ds : List PyData} {i : Nat} {d : PyData} (h : ds[i]? = some d) : PyData.weightAll ds = PyData.weightAll (ds.take i) + (d.weight + 1) + PyData.weightAll (ds.drop (i + 1)) := by
  induction ds generalizing i with
  | nil => simp at h
  | cons e r ih =>
    cases i with
    | zero =>
      cases Option.some.inj h
      simp only [List.take_zero, List.drop_succ_cons, List.drop_zero, PyData.weightAll]
      omega
    | succ i =>
      have z := ih h
      simp only [List.take_succ_cons, List.drop_succ_cons, PyData.weightAll]
      omega
section
variable {P : Program} {w : World} {K : PySem.W.Frag} {mg : Str → Option Value} {base : Heap} {f fT fO : Addr} {fd fdT fdO : FuncData}
theorem bent_step {m : Nat} (F : Fun K "_law_bent" "_law_bent" sBent f fd) (B : Bo mg) (G : FnOk P w K mg base CX0 (m + 2) f fd ["_law_feed_here", "_law_so_now"] (spBent K m))
    (b : Binds K fd ["_law_feed_here", "_law_so_now"] []) (gF : mg "_law_bent" = some (.ref f))
    (FT : Fun K "_law_take" "_law_take" sTake fT fdT) (bT : Binds K fdT ["_law_feed_here", "_law_many"] []) (gT : mg "_law_take" = some (.ref fT))
    (GO : FnOk P w K mg base CX0 2 fO fdO ["_law_feed_here", "_law_so_now"] (spOdd K)) (FO : Fun K "_law_odd" "_law_odd" sOdd fO fdO) (bO : Binds K fdO ["_law_feed_here", "_law_so_now"] []) (gO : mg "_law_odd" = some (.ref fO)) :
    FnOk P w K mg base CX0 (m + 1 + 2) f fd ["_law_feed_here", "_law_so_now"] (spBent K (m + 1)) := by
  have GT : FnOk P w K mg base CX0 1 fT fdT ["_law_feed_here", "_law_many"] spTake := ok_take FT
  refine F.ok scBent (fun vs H Q E h => ?_) (fun cdv A outer s H vs Q E hr h => ?_)
  · obtain ⟨p, v, d, S, k, w, n, rfl, _⟩ := h
    rfl
  obtain ⟨p, v, d, S, k, w, n, rfl, hF, hS, hd, ft, k5, k40, hm, q⟩ := h
  have nd := scBent.nd
  have hrT := hr.mono (show 1 ≤ m + 2 by omega)
  have hr2 := hr.mono (show 2 ≤ m + 2 by omega)
  refine ⟨_, pss_cons (ps_if (PW.pt (pw_or (pt_not (pt_val (pe_callB call_isi (by rfl) B.isi (by decide +kernel) (pa_cons (pv 1) (pa_cons (pe_bltn (v := .ty "tuple") (by rfl) B.tup (by decide +kernel) rfl) pa_nil)))))
      (pw_or (pt_cmpR (op_eqT0 hr.units0) (pv 1) (pe_tup pa_nil) (nomark _))
      (pw_or1 (pt_cmpR op_eq (pe_call GT hrT (by rfl) gT FT.kp bT .nil pass0 (pa_cons (pv 0) (pa_cons pe_int pa_nil))) pe_int (nomark _))))))
      (pss_one (ps_ret (pe_call GO hr2 (by rfl) gO FO.kp bO .nil pass0 (pa_cons (pv 0) (pa_cons (pv 1) pa_nil))))) pss_nil)
    (pss_cons (ps_set (i := 2) nd rfl (.inl rfl) (pe_call GT hrT (by rfl) gT FT.kp bT .nil pass0 (pa_cons (pv 0) (pa_cons (pe_callB call_len_seq (by rfl) B.len PySem.boot_len (pa_cons (pv 1) pa_nil)) pa_nil))))
    (pss_one (ps_ret (pe_op op_catB (pe_op op_catB (pe_slice sl_tupB (pv 1) po_none (po_some (pv 2)))
        (pe_tup (pa_cons (pe_call G hr (by rfl) gF F.kp b .nil pass0 (pa_cons (pv 0) (pa_cons (pe_ix ix_tup (pv 1) (pv 2) (fun _ _ => rfl)) pa_nil))) pa_nil)))
      (pe_slice sl_tupB (pv 1) (po_some (pe_op op_add (pv 2) pe_int)) po_none))))), ?_⟩
  have odd : ∀ {H1 : Hp} {T : Int} (E' : XK := E0), Ex1 p H H1 → Feed H1 p T → T ≤ S + 1 → spOdd K [.ref p, v] H1 Q E' := fun {H1 T} E' x F1 hT => by
    obtain ⟨g, y, z, ep, _⟩ := hF
    refine ⟨p, v, d, T, k, w, n + 3, rfl, F1, by omega, hd.drawn ep x, ft.mono (Nat.le_refl _) (Nat.le_refl _) (by omega), k5, k40, by omega, fun v' d' H' x' F' D' f' => ?_⟩
    exact q v' d' H' (x.trans x') (F'.le (by omega)) D' f'
  refine ⟨_, rfl, _, _, _, _, isT d, rfl, .ty _, hd.kind, kit_ty (k_tup d), _, rfl, ?_⟩
  cases ht : isT d with
  | false => exact iteT ⟨_, rfl, _, rfl, odd E0 (Ex1.refl _ _) hF (by omega)⟩
  | true =>
  refine iteF ?_
  cases d with
  | tuple ds =>
    cases hd with
    | @tup a xs _ hS0 hA =>
    refine ⟨_, rfl, (by show 0 ≤ sizeLine; decide), fun t1 n1 => ⟨a, t1, xs, rfl, rfl, Tups.of_same (fresh_same n1) _ _ hS0, SqT.of upd_same, _, rfl, ?_⟩⟩
    have x1 : Ex1 p H (upd H t1 (.tup [])) := Ex1.new n1
    have F1 : Feed (upd H t1 (.tup [])) p S := hF.stays n1
    have j1 : Same H (upd H t1 (.tup [])) := fresh_same n1
    generalize upd H t1 (.tup []) = H1 at *
    cases hx : xs.isEmpty with
    | true => exact iteT ⟨_, rfl, _, rfl, odd E0 x1 F1 (by omega)⟩
    | false =>
    refine iteF ⟨_, rfl, p, 5, S, rfl, F1, by omega, by omega, by omega, fun r H2 r0 r1 F2 x2 => ⟨rfl, _, rfl, ite2 (fun c => ?_) (fun c => ?_)⟩⟩
    · exact ⟨_, rfl, _, rfl, odd E0 (x1.trans x2) F2 (by omega)⟩
    have x12 : Ex1 p H H2 := x1.trans x2
    obtain ⟨g0, y0, z0, ep0, _⟩ := hF
    have T2 : Tups K H H2 := x12.tups ep0
    have hlen := hA.len
    have lpos : 0 < xs.length := by
      cases xs with
      | nil => cases hx
      | cons _ _ => exact Nat.succ_pos _
    obtain ⟨okl, oka⟩ : ds.length ≤ k ∧ okAll k ds = true := by
      have := ft.ok
      simpa only [okD, Bool.and_eq_true, decide_eq_true_eq] using this
    refine ⟨_, rfl, _, rfl, a, xs, rfl, .inr (T2 _ _ hS0), p, _, S + 1, rfl, F2, by omega, by omega, by omega, fun r3 H3 a0 a1 F3 x3 => ?_⟩
    obtain ⟨i, rfl⟩ : ∃ i : Nat, r3 = i := ⟨r3.toNat, by omega⟩
    have hi : i < xs.length := by omega
    have hi2 : i < ds.length := by omega
    have X3 : Ex1 p H H3 := x12.trans x3
    have T3 : Tups K H H3 := X3.tups ep0
    obtain ⟨n', rfl⟩ : ∃ n', n = n' + 1 := by
      have := ft.dp
      simp only [PyData.depth] at this
      exact ⟨n - 1, by omega⟩
    have fs := Fits.of ft
    have z16 : sizeLine = 16777216 := rfl
    have l1 := cutV_length xs none (some (i : Int))
    have l2 := cutV_length xs (some ((i : Int) + 1)) none
    obtain ⟨di, edi, hdi⟩ := hA.at_ (List.getElem?_eq_getElem hi)
    refine ⟨_, rfl, _, rfl, _, rfl, a, xs, rfl, T3 _ _ hS0, fun p1 I1 s1 q1 => ?_⟩
    have X4 : Ex1 p H I1 := X3.trans fun c u _ e => s1 c u e
    have F4 : Feed I1 p (S + 1 + 1) := by
      obtain ⟨g, x, s, ep, u0, u1⟩ := F3
      exact ⟨g, x, s, s1 _ _ ep, u0, u1⟩
    refine ⟨_, rfl, _, rfl, _, rfl, a, xs, _, _, rfl, rfl, X4.tups ep0 _ _ hS0, atI_nat (List.getElem?_eq_getElem hi), p, _, di, S + 1 + 1, k, di.weight, n', rfl, F4, by omega, hdi.drawn ep0 X4,
      ⟨(fs.at edi).ok, Nat.le_refl _, (fs.at edi).dp⟩, k5, k40, ?_, fun v' d' H' x' F' D' f' => ?_⟩
    · have := depth_at edi
      simp only [PyData.depth] at hm
      omega
    have X5 : Ex1 p H H' := X4.trans x'
    obtain ⟨g4, y4, z4, ep4, _⟩ := F4
    refine ⟨(by show 1 ≤ sizeLine; decide), fun t2 n2 => ?_⟩
    have k2 := fresh_same (o := .tup [v']) n2
    have q1' : SqT K (upd H' t2 (.tup [v'])) p1 (cutV xs none (some (i : Int))) := Tups.of_same k2 _ _ (x'.tups ep4 _ _ q1)
    refine ⟨p1, t2, _, _, rfl, rfl, q1', SqT.of upd_same, (by show (cutV xs none (some (i : Int))).length + 1 ≤ sizeLine; omega), fun p3 I3 s3 q3 => ?_⟩
    have K3 := k2.trans s3
    have X6 : Ex1 p H I3 := X5.trans fun c u _ e => K3 c u e
    refine ⟨_, rfl, _, rfl, _, _, rfl, rfl, _, rfl, a, xs, rfl, X6.tups ep0 _ _ hS0, fun p4 I4 s4 q4 => ?_⟩
    refine ⟨p3, p4, _, _, rfl, rfl, Tups.of_same s4 _ _ q3, q4, ?_, fun p5 I5 s5 q5 => ?_⟩
    · rw [List.length_append]
      show (cutV xs none (some (i : Int))).length + 1 + (cutV xs (some ((i : Int) + 1)) none).length ≤ sizeLine
      omega
    have K5 := K3.trans (s4.trans s5)
    have X7 : Ex1 p H I5 := X5.trans fun c u _ e => K5 c u e
    have A7 := hA.drawn ep0 X7
    have F7 : Feed I5 p (S + 2 * ((m + 1 : Nat) : Int) + 4) := by
      obtain ⟨g, x, s, ep, u0, u1⟩ := F'
      exact ⟨g, x, s, K5 _ _ ep, u0, by omega⟩
    have e1 : cutDs ds (some ((i : Int) + 1)) none = ds.drop (i + 1) := cut_from (i := i + 1) (by omega)
    have c1 := A7.cut none (some (i : Int))
    have c2 := A7.cut (some ((i : Int) + 1)) none
    rw [cut_to (by omega)] at c1
    rw [e1] at c2
    refine q (.ref p5) (.tuple (ds.take i ++ [d'] ++ ds.drop (i + 1))) I5 X7 F7 (.tup q5 ((c1.app (.cons (D'.same K5) .nil)).app c2)) ?_
    have wp := wt_parts edi
    have w0 := fs.wt
    have w1 := f'.wt
    refine Fit.mono (Fits.tup (k := k + 1) (w := 2 * w + 3000) (n := n' + 4) ⟨?_, ?_, ?_, ?_⟩) (Nat.le_refl _) (Nat.le_refl _) (by omega)
    · simp only [List.length_append, List.length_take, List.length_drop, List.length_cons, List.length_nil]
      omega
    · intro x hx
      simp only [List.mem_append, List.mem_singleton] at hx
      rcases hx with (hx | rfl) | hx
      · exact okD.mono (by omega) x (fs.ok x (List.mem_of_mem_take hx))
      · exact f'.ok
      · exact okD.mono (by omega) x (fs.ok x (List.mem_of_mem_drop hx))
    · rw [wt_app, wt_app]
      simp only [PyData.weightAll]
      omega
    · intro x hx
      simp only [List.mem_append, List.mem_singleton] at hx
      rcases hx with (hx | rfl) | hx
      · exact Nat.le_trans (fs.dp x (List.mem_of_mem_take hx)) (by omega)
      · exact f'.dp
      · exact Nat.le_trans (fs.dp x (List.mem_of_mem_drop hx)) (by omega)
  | _ => exact Bool.noConfusion ht
theorem bent_none : FnOk P w K mg base CX0 2 f fd ["_law_feed_here", "_law_so_now"] (spBent K 0) := by
  have bad : ∀ vs H Q E, ¬ spBent K 0 vs H Q E := by
    rintro vs H Q E ⟨p, v, d, S, k, w, n, _, _, _, _, _, _, _, h, _⟩
    omega
  exact ⟨fun vs H Q E h => absurd h (bad vs H Q E), fun A outer s H args us vs Q E _ _ _ _ h => absurd h (bad vs H Q E)⟩
theorem ok_bent (F : Fun K "_law_bent" "_law_bent" sBent f fd) (B : Bo mg)
    (b : Binds K fd ["_law_feed_here", "_law_so_now"] []) (gF : mg "_law_bent" = some (.ref f))
    (FT : Fun K "_law_take" "_law_take" sTake fT fdT) (bT : Binds K fdT ["_law_feed_here", "_law_many"] []) (gT : mg "_law_take" = some (.ref fT))
    (GO : FnOk P w K mg base CX0 2 fO fdO ["_law_feed_here", "_law_so_now"] (spOdd K)) (FO : Fun K "_law_odd" "_law_odd" sOdd fO fdO) (bO : Binds K fdO ["_law_feed_here", "_law_so_now"] []) (gO : mg "_law_odd" = some (.ref fO)) :
    ∀ m : Nat, FnOk P w K mg base CX0 (m + 2) f fd ["_law_feed_here", "_law_so_now"] (spBent K m)
  | 0 => bent_none
  | m + 1 => bent_step F B (ok_bent F B b gF FT bT gT GO FO bO gO m) b gF FT bT gT GO FO bO gO
variable {fL fM fP : Addr} {fdL fdM fdP : FuncData}
theorem piece_none : FnOk P w K mg base CX0 2 f fd ["_law_feed_here", "_law_deep", "_law_room"] (spPiece K 0) := by
  have bad : ∀ vs H Q E, ¬ spPiece K 0 vs H Q E := by
    rintro vs H Q E ⟨p, q, dp, S, r, _, _, h, _⟩
    omega
  exact ⟨fun vs H Q E h => absurd h (bad vs H Q E), fun A outer s H args us vs Q E _ _ _ _ h => absurd h (bad vs H Q E)⟩
theorem ok_piece (F : Fun K "_law_piece" "_law_piece" sPiece f fd)
    (b : Binds K fd ["_law_feed_here", "_law_deep", "_law_room"] []) (gF : mg "_law_piece" = some (.ref f))
    (FT : Fun K "_law_take" "_law_take" sTake fT fdT) (bT : Binds K fdT ["_law_feed_here", "_law_many"] []) (gT : mg "_law_take" = some (.ref fT))
    (GL : FnOk P w K mg base CX0 2 fL fdL ["_law_feed_here"] spLabel) (FL : Fun K "_law_label" "_law_label" sLabel fL fdL) (bL : Binds K fdL ["_law_feed_here"] []) (gL : mg "_law_label" = some (.ref fL))
    (GM : FnOk P w K mg base CX0 2 fM fdM ["_law_feed_here"] spNum) (FM : Fun K "_law_number" "_law_number" sNum fM fdM) (bM : Binds K fdM ["_law_feed_here"] []) (gM : mg "_law_number" = some (.ref fM)) :
    ∀ n : Nat, FnOk P w K mg base CX0 (n + 2) f fd ["_law_feed_here", "_law_deep", "_law_room"] (spPiece K n)
  | 0 => piece_none
  | n + 1 => piece_step F (ok_piece F b gF FT bT gT GL FL bL gL GM FM bM gM n) b gF FT bT gT GL FL bL gL GM FM bM gM
end
end K01
end

section
set_option Elab.async false
set_option linter.all false
set_option maxRecDepth 100000
set_option maxHeartbeats 4000000
namespace Gd
open PySem PySem.Spec PyProof.Rows L2
def onlyK {α : Type} : List α → List α → List α
  | [], ws => ws
  | _ :: _, _ => []
section
variable {X : Cx} {cx : CXT} {n : Nat} {f : Addr} {fd : FuncData} {ps ks : List Str} {sp : Sp} {E : XK} {x : Str} {p pos : Pos} {kws : List Keyword} {tk : TA}
def tKw (sp : Sp) (E : XK) (tk : TA) : TE := fun σ H Q => tk σ H fun zs H2 => sp zs H2 Q E
/-- f(k=e): by its names alone -/
theorem pe_kw (F : FnOk X.prog X.w X.K X.mg X.base cx n f fd ps sp) (hr : Room n X.A) (hg : Gl X x) (hm : X.mg x = some (.ref f)) (hk : PySem.W.keepIn X.K (.ref f) = true)
    (hb : KBinds X.K fd ps ks onlyK onlyK) (hx : Passes cx X E) (hkw : PK X kws tk)
    (hall : (backToKw pos (keywordEach kws X.env)).all (·.1.isSome) = true := by rfl) (hks : (backToKw pos (keywordEach kws X.env)).filterMap (·.1) = ks := by rfl)
    (hdb : (x == ("__debug__" : Str)) = false := by decide)
    (hpl : ((backTo pos (starEach [] X.env)).any (·.1) || (backToKw pos (keywordEach kws X.env)).any (·.1.isNone)) = false := by rfl) :
    PE X (.Call (.Name x p) [] kws pos) (tKw sp E tk) := by
  constructor
  intro pins s σ H Q I h
  refine wpAny_Call_Name_kw (ld_glob I hg hm ?_ hdb)
  refine PySem.W.callWith_KW0 (h₀ := X.base) I.ok.mod.kin hk hall (thn (hkw.run pos pins s σ H _ I h) ?_) hpl
  rintro ws s2 ⟨zs, H2, J, rz, q⟩
  refine ⟨J.kIn, ?_⟩
  rw [hks]
  exact run_fnk (us := []) (vs := []) F hr hb hx J .nil rz q
end
theorem onlyK_rel {vs : List V} {us : List Value} {zs : List V} {ws : List Value} (a : Vals vs us) (b : Vals zs ws) : Vals (onlyK vs zs) (onlyK us ws) := by
  cases a with
  | nil => exact b
  | cons _ _ => exact .nil
theorem kw_of {K : PySem.W.Frag} {x qual k : Str} {st : Stmt} {f : Addr} {fd : FuncData} (F : Fun K x qual st f fd)
    (h : ∀ (kV doc pm : Value) (an : Option Addr) (cdv ct w : Value), bindArgs (PySem.W.fnOf x qual (defArgs st) (defBody st) (defScope st) .none kV doc pm an cdv ct) ⟨[], [(k, w)]⟩ = pure [(k, w)]) :
    KBinds K fd [k] [k] onlyK onlyK := by
  obtain ⟨oc, od, kV, doc, pm, an, cdv, ct, osl, rfl, lk, hcd⟩ := F.ex
  refine ⟨fun s us ws _ hl => ?_, fun a b => onlyK_rel a b⟩
  cases us with
  | cons _ _ => cases hl
  | nil =>
    match ws, hl with
    | [w], _ => exact .of_eq (h kV doc pm an cdv ct w)
end Gd
namespace K01
open PySem PySem.Spec PyProof.Rows L2 Gd
abbrev sRight : Stmt := topS 24
theorem scRight : FnScope ["_law_so_now", "_law_held", "_law_due", "_law_turn"] ["_law_so_now"] (defScope sRight) :=
  ⟨rfl, rfl, rfl, by decide +kernel, rfl, by decide +kernel, by decide +kernel⟩
def spRight (K : PySem.W.Frag) : Sp := fun vs H Q _ => ∃ (N : Addr → Prop) (v : V) (d : PyData), vs = [v] ∧ Dd K H N v d ∧ Fit 50 100000 50 d ∧ ∀ H', Same H H' → Q (.bl true) H'
theorem bools_fit (a b c : Bool) : Fit 3 10 1 (.list [.bool a, .bool b, .bool c]) := ⟨rfl, by simp [PyData.weight, PyData.weightAll], by simp [PyData.depth, PyData.depthAll]⟩
theorem wor_eq {K : PySem.W.Frag} {H : Hp} {N : Addr → Prop} {v : V} {d : PyData} (h : Dd K H N v d) : isWor d = (decide (v = .non) || isNum d) := by
  cases h <;> rfl
section
variable {P : Program} {w : World} {K : PySem.W.Frag} {mg : Str → Option Value} {base : Heap} {f fI fL fX fP fN fW : Addr} {fd dI dL dX dP dN dW : FuncData}
theorem ok_right (F : Fun K "_law_right" "_law_right" sRight f fd) (mrepr : mg "repr" = none) (mrange : mg "range" = none)
    (FI : Fun K "_law_is_piece" "_law_is_piece" sLPiece fI dI) (GI : FnOk P w K mg base CX0 2 fI dI ["_law_so_now"] (spChk K isPart)) (bI : Binds K dI ["_law_so_now"] []) (gI : mg "_law_is_piece" = some (.ref fI))
    (FL : Fun K "_law_is_label" "_law_is_label" sLLabel fL dL) (GL : FnOk P w K mg base CX0 1 fL dL ["_law_so_now"] (spChk K isLabD)) (bL : Binds K dL ["_law_so_now"] []) (gL : mg "_law_is_label" = some (.ref fL))
    (FX : Fun K "_law_is_whole" "_law_is_whole" sLWhole fX dX) (GX : FnOk P w K mg base CX0 1 fX dX ["_law_so_now", "_law_most"] (spNear K)) (bX : Binds K dX ["_law_so_now", "_law_most"] []) (gX : mg "_law_is_whole" = some (.ref fX))
    (FP : Fun K "is_part" "is_part" sPart fP dP) (GP : FnOk P w K mg base CX0 9 fP dP ["thing"] (spChk K isPart)) (bP : Binds K dP ["thing"] []) (kP : KBinds K dP ["thing"] ["thing"] onlyK onlyK) (gP : mg "is_part" = some (.ref fP))
    (FN : Fun K "is_name" "is_name" sName fN dN) (GN : FnOk P w K mg base CX0 1 fN dN ["thing"] (spChk K isLabD)) (bN : Binds K dN ["thing"] []) (kN : KBinds K dN ["thing"] ["thing"] onlyK onlyK) (gN : mg "is_name" = some (.ref fN))
    (FW : Fun K "is_worth" "is_worth" sWorth fW dW) (GW : FnOk P w K mg base CX0 3 fW dW ["thing"] (spChk K isWor)) (bW : Binds K dW ["thing"] []) (kW : KBinds K dW ["thing"] ["thing"] onlyK onlyK) (gW : mg "is_worth" = some (.ref fW)) :
    FnG P w K mg base CX0 10 f fd ["_law_so_now"] (spRight K) := by
  refine okG F scRight (fun vs H Q E h => ?_) (fun cv A out s H vs Q E gd hr h => ?_)
  · obtain ⟨N, v, d, rfl, _⟩ := h
    rfl
  obtain ⟨N, v, d, rfl, hd, ft, q⟩ := h
  have nd := scRight.nd
  have hr1 := hr.mono (show 1 ≤ 9 by decide)
  have hr2 := hr.mono (show 2 ≤ 9 by decide)
  have hr3 := hr.mono (show 3 ≤ 9 by decide)
  refine ⟨_, (pss_cons (ps_set (i := 1) nd rfl (.inl rfl) (pe_callB (call_reprD gd hr.units) (by rfl) mrepr (by decide +kernel) (pa_cons (pv 0) pa_nil)))
    (C8.pss_cut (ps_set (i := 2) nd rfl (.inl rfl) (pe_lstS (pa_cons (pe_call GI hr2 (by rfl) gI FI.kp bI .nil pass0 (pa_cons (pv 0) pa_nil)) (pa_cons (pe_call GL hr1 (by rfl) gL FL.kp bL .nil pass0 (pa_cons (pv 0) pa_nil)) (pa_cons (pe_or (pe_cmpR op_isN (pv 0) pe_non (nomark _)) (pe_one (pe_call GX hr1 (by rfl) gX FX.kp bX .nil pass0 (pa_cons (pv 0) (pa_cons (pe_op op_pow pe_int pe_int) pa_nil))))) pa_nil)))))
    (pss_cons (ps_for PassesOwn.never rfl (pi_range1 (by rfl) mrange (pa_cons pe_int pa_nil)) (pg_name (i := 3) nd rfl (.inl rfl)) (pss_one (ps_if (PW.pt (pw_or (pt_cmpR op_ne (pe_callB (call_reprD gd hr.units) (by rfl) mrepr (by decide +kernel) (pa_cons (pe_lstS (pa_cons (pe_call GP hr (by rfl) gP FP.kp bP .nil pass0 (pa_cons (pv 0) pa_nil)) (pa_cons (pe_call GN hr1 (by rfl) gN FN.kp bN .nil pass0 (pa_cons (pv 0) pa_nil)) (pa_cons (pe_call GW hr3 (by rfl) gW FW.kp bW .nil pass0 (pa_cons (pv 0) pa_nil)) pa_nil)))) pa_nil)) (pe_callB (call_reprD gd hr.units) (by rfl) mrepr (by decide +kernel) (pa_cons (pv 2) pa_nil)) (nomark _)) (pw_or1 (pt_cmpR op_ne (pe_callB (call_reprD gd hr.units) (by rfl) mrepr (by decide +kernel) (pa_cons (pv 0) pa_nil)) (pv 1) (nomark _))))) pss_never pss_nil)))
    (pss_one (ps_ret (pe_and (pe_cmpR op_eq (pe_kw GP hr (by rfl) gP FP.kp kP pass0 (pk_cons (pv 0) pk_nil)) (pe_ix ix_list (pv 2) pe_int (fun _ _ => rfl)) (nomark _)) (pe_and (pe_cmpR op_eq (pe_kw GN hr1 (by rfl) gN FN.kp kN pass0 (pk_cons (pv 0) pk_nil)) (pe_ix ix_list (pv 2) pe_int (fun _ _ => rfl)) (nomark _)) (pe_one (pe_cmpR op_eq (pe_kw GW hr3 (by rfl) gW FW.kp kW pass0 (pk_cons (pv 0) pk_nil)) (pe_ix ix_list (pv 2) pe_int (fun _ _ => rfl)) (nomark _)))))))))), ?_⟩
  obtain ⟨fz, fs⟩ := ft.shown (by omega) (by omega)
  have fd60 : d.depth ≤ 60 := Nat.le_trans ft.dp (by omega)
  have ok := ft.ok
  refine ⟨_, rfl, v, d, N, rfl, hd, fs, fz, fd60, ?_⟩
  refine ⟨fun σ' H' => Same H H' ∧ ∃ (l : Addr) (y : Option V), σ' = [some v, some (.str d.shown), some (.ref l), y] ∧ H' l = some (.lst [.bl (isPart d), .bl (isLabD d), .bl (isWor d)]) ∧ l ≠ sysModules, ?_, ?_⟩
  · refine ⟨_, rfl, N, v, d, rfl, hd, ok, fun H1 s1 => ?_⟩
    refine ⟨_, rfl, N, v, d, rfl, hd.same s1, ok, fun H2 s2 => ?_⟩
    have s12 := s1.trans s2
    refine ⟨_, rfl, rfl, _, rfl, ite2 (fun e => ?_) (fun e => ?_)⟩
    · refine ⟨(by show 3 ≤ sizeLine; decide), fun l nl gl => ?_⟩
      have ew : isWor d = true := by rw [wor_eq hd, e, Bool.true_or]
      exact ⟨s12.trans (fresh_same nl), l, _, rfl, by rw [ew]; exact upd_same, gl⟩
    · refine ⟨_, rfl, 10, 30, rfl, rfl, ⟨by decide, by decide, by decide⟩, N, v, d, _, rfl, hd.same s12, ?_⟩
      refine ⟨(by show 3 ≤ sizeLine; decide), fun l nl gl => ?_⟩
      have ew : isWor d = nearB (10 ^ (30 : Int).toNat) d := by
        rw [wor_eq hd, Bool.eq_false_iff.mpr e, Bool.false_or]
        exact (near_num d).symm
      exact ⟨s12.trans (fresh_same nl), l, _, rfl, by rw [ew]; exact upd_same, gl⟩
  rintro σ1 H1 ⟨s1, l, y, rfl, el, gl⟩
  obtain ⟨bz, bs⟩ := (bools_fit (isPart d) (isLabD d) (isWor d)).shown (by omega) (by omega)
  refine ⟨2, rfl, by decide, by decide, ?_⟩
  refine for_range (lo := 0) (n := 2) (fun i σ' H' => Same H H' ∧ ∃ (y : Option V), σ' = [some v, some (.str d.shown), some (.ref l), y] ∧ H' l = some (.lst [.bl (isPart d), .bl (isLabD d), .bl (isWor d)])) ⟨s1, y, rfl, el⟩ ?_ ?_
  · rintro i σ' H2 hi ⟨s2, y2, rfl, el2⟩
    refine ⟨_, rfl, N, v, d, rfl, hd.same s2, ok, fun H3 s3 => ?_⟩
    refine ⟨_, rfl, N, v, d, rfl, hd.same (s2.trans s3), ok, fun H4 s4 => ?_⟩
    refine ⟨_, rfl, N, v, d, rfl, hd.same (s2.trans (s3.trans s4)), ok, fun H5 s5 => ?_⟩
    have s25 := s3.trans (s4.trans s5)
    refine ⟨(by show 3 ≤ sizeLine; decide), fun l2 nl2 gl2 => ?_⟩
    have j2 := fresh_same (o := .lst [.bl (isPart d), .bl (isLabD d), .bl (isWor d)]) nl2
    have el5 := j2 _ _ (s25 _ _ el2)
    have D1 : Dd K (upd H5 l2 (.lst [.bl (isPart d), .bl (isLabD d), .bl (isWor d)])) (fun _ => False) (.ref l2) (.list [.bool (isPart d), .bool (isLabD d), .bool (isWor d)]) :=
      .lst upd_same (fun z => z) gl2 (.cons (.bl _) (.cons (.bl _) (.cons (.bl _) .nil)))
    have D2 : Dd K (upd H5 l2 (.lst [.bl (isPart d), .bl (isLabD d), .bl (isWor d)])) (fun _ => False) (.ref l) (.list [.bool (isPart d), .bool (isLabD d), .bool (isWor d)]) :=
      .lst el5 (fun z => z) gl (.cons (.bl _) (.cons (.bl _) (.cons (.bl _) .nil)))
    have b60 : (PyData.list [.bool (isPart d), .bool (isLabD d), .bool (isWor d)]).depth ≤ 60 := by simp [PyData.depth, PyData.depthAll]
    refine ⟨_, _, _, rfl, D1, bs, bz, b60, ?_⟩
    refine ⟨_, rfl, _, _, _, rfl, D2, bs, bz, b60, ?_⟩
    refine ⟨rfl, _, rfl, ?_⟩
    rw [decide_eq_true rfl]
    refine iteF ?_
    have s6 := s2.trans (s25.trans j2)
    refine ⟨_, rfl, v, d, N, rfl, hd.same s6, fs, fz, fd60, ?_⟩
    refine ⟨_, rfl, rfl, _, rfl, ?_⟩
    rw [decide_eq_true rfl]
    refine iteF ?_
    exact ⟨s6, _, rfl, el5⟩
  · rintro σ' H2 ⟨s2, y2, rfl, el2⟩
    refine ⟨_, rfl, N, v, d, rfl, hd.same s2, ok, fun H3 s3 => ?_⟩
    have el3 := s3 _ _ el2
    refine ⟨_, rfl, l, _, 0, _, rfl, rfl, SqL.of el3, atI_nat (j := 0) rfl, rfl, _, rfl, ?_⟩
    rw [decide_eq_true rfl]
    refine iteT ⟨_, rfl, N, v, d, rfl, hd.same (s2.trans s3), ok, fun H4 s4 => ?_⟩
    have el4 := s4 _ _ el3
    refine ⟨_, rfl, l, _, 1, _, rfl, rfl, SqL.of el4, atI_nat (j := 1) rfl, rfl, _, rfl, ?_⟩
    rw [decide_eq_true rfl]
    refine iteT ⟨_, rfl, N, v, d, rfl, hd.same (s2.trans (s3.trans s4)), ok, fun H5 s5 => ?_⟩
    have el5 := s5 _ _ el4
    refine ⟨_, rfl, l, _, 2, _, rfl, rfl, SqL.of el5, atI_nat (j := 2) rfl, rfl, ?_⟩
    have z := q H5 (s2.trans (s3.trans (s4.trans s5)))
    rw [decide_eq_true rfl]
    exact z
end
end K01
end

section
set_option Elab.async false
set_option linter.all false
set_option maxRecDepth 100000
set_option maxHeartbeats 4000000
namespace K01
open PySem PySem.Spec PyProof.Rows L2 Gd
abbrev sSizes : Stmt := topS 25
theorem scSizes : FnScope ["_law_cell", "_law_row", "_law_k", "_law_full", "_law_near"] [] (defScope sSizes) :=
  ⟨rfl, rfl, rfl, by decide +kernel, rfl, by decide +kernel, by decide +kernel⟩
theorem at_end {α : Type} {vs : List α} {v : α} {m : Nat} (l : vs.length = m + 1) (h : vs[m]? = some v) : atI vs (-1) = some v := by
  unfold atI ixN
  rw [if_neg (by decide), if_pos (by omega), l]
  show vs[(-1 + ((m + 1 : Nat) : Int)).toNat]? = some v
  rw [show (-1 + ((m + 1 : Nat) : Int)).toNat = m by omega]
  exact h
/-- a small thing of tuples -/
structure Sm (w n : Nat) (d : PyData) : Prop where
  tup : tupOnly d = true
  fit : Fit 9 w n d
theorem Sm.mono {w n w' n' : Nat} {d : PyData} (h : Sm w n d) (a : w ≤ w') (b : n ≤ n') : Sm w' n' d := ⟨h.tup, h.fit.mono (Nat.le_refl _) a b⟩
theorem sm_node {x : Str} {w1 w2 n : Nat} {d e : PyData} (hx : isLab x = true) (h1 : Sm w1 n d) (h2 : Sm w2 n e) : Sm (11 + w1 + w2) (n + 1) (.tuple [.str x, d, e]) := by
  obtain ⟨sl, _⟩ := isLab_ascii hx
  refine ⟨by simp [tupOnly, tupOnlyAll, h1.tup, h2.tup], ?_, ?_, ?_⟩
  · have e : okAll 9 [.str x, d, e] = true := by
      unfold okAll okAll okAll okAll
      rw [okD_str hx, h1.fit.ok, h2.fit.ok] <;> rfl
    unfold okD
    rw [e]
    rfl
  · have a := h1.fit.wt
    have b := h2.fit.wt
    have e : (PyData.tuple [.str x, d, e]).weight = x.length + 1 + (d.weight + 1 + (e.weight + 1 + 0)) := by
      simp only [PyData.weight, PyData.weightAll]
      rfl
    omega
  · have a := h1.fit.dp
    have b := h2.fit.dp
    have e : (PyData.tuple [.str x, d, e]).depth = max 0 (max d.depth (max e.depth 0)) + 1 := by
      simp only [PyData.depth, PyData.depthAll]
    omega
abbrev cellD : PyData := .tuple [.str "cell", .str "a", .str "b"]
theorem sm_cell : Sm 9 1 cellD := ⟨by decide +kernel, by decide +kernel, by decide +kernel, by decide +kernel⟩
def Row (K : PySem.W.Frag) (H : Hp) (q : Addr) (w n m : Nat) : Prop := ∃ vs ds, H q = some (.lst vs) ∧ DpAll K H vs ds ∧ (∀ d ∈ ds, Sm w n d) ∧ vs.length = m
theorem all_tup {w n : Nat} : ∀ {ds : List PyData}, (∀ d ∈ ds, Sm w n d) → tupOnlyAll ds = true
  | [], _ => rfl
  | d :: ds, h => by
    simp only [tupOnlyAll, Bool.and_eq_true]
    exact ⟨(h d (List.mem_cons_self ..)).tup, all_tup fun e m => h e (List.mem_cons_of_mem _ m)⟩
theorem Row.tups {K : PySem.W.Frag} {H H' : Hp} {q : Addr} {w n m : Nat} (h : Row K H q w n m) (t : Tups K H H') (e : ∀ o, H q = some o → H' q = some o) : Row K H' q w n m := by
  obtain ⟨vs, ds, a, b, c, d⟩ := h
  exact ⟨vs, ds, e _ a, Gd.DpAll.tups t ds (all_tup c) b, c, d⟩
theorem Row.same {K : PySem.W.Frag} {H H' : Hp} {q : Addr} {w n m : Nat} (h : Row K H q w n m) (s : Same H H') : Row K H' q w n m := h.tups (Tups.of_same s) fun o e => s q o e
theorem Row.at {K : PySem.W.Frag} {H : Hp} {q : Addr} {w n m : Nat} (h : Row K H q w n m) {i : Nat} (hi : i < m) : ∃ vs v d, H q = some (.lst vs) ∧ vs[i]? = some v ∧ vs.length = m ∧ Dp K H v d ∧ Sm w n d := by
  obtain ⟨vs, ds, a, b, c, rfl⟩ := h
  obtain ⟨d, e, hd⟩ := Gd.DpAll.at_ b (List.getElem?_eq_getElem hi)
  exact ⟨vs, vs[i], d, a, List.getElem?_eq_getElem hi, rfl, hd, c d (List.mem_of_getElem? e)⟩
theorem Row.push {K : PySem.W.Frag} {H : Hp} {q : Addr} {vs : List V} {ds : List PyData} {w n w' n' : Nat} {v : V} {d : PyData} (e : H q = some (.lst vs)) (b : DpAll K H vs ds) (c : ∀ d ∈ ds, Sm w n d)
    (hv : Dp K H v d) (hd : Sm w' n' d) (hw : w ≤ w') (hn : n ≤ n') : Row K (upd H q (.lst (vs ++ [v]))) q w' n' (vs.length + 1) := by
  have t : Tups K H (upd H q (.lst (vs ++ [v]))) := Tups.upd_lst e
  refine ⟨vs ++ [v], ds ++ [d], upd_same, Gd.DpAll.tups t _ ?_ (Gd.DpAll.snoc b hv), ?_, by rw [List.length_append] <;> rfl⟩
  · refine all_tup (w := w') (n := n') fun x hx => ?_
    rcases List.mem_append.mp hx with h | h
    · exact (c x h).mono hw hn
    · rw [List.mem_singleton.mp h]
      exact hd
  · intro x hx
    rcases List.mem_append.mp hx with h | h
    · exact (c x h).mono hw hn
    · rw [List.mem_singleton.mp h]
      exact hd
theorem dp_app {K : PySem.W.Frag} {H : Hp} : ∀ {vs us : List V} {ds es : List PyData}, DpAll K H vs ds → DpAll K H us es → DpAll K H (vs ++ us) (ds ++ es)
  | _, _, _, _, .nil, h => h
  | _, _, _, _, .cons a b, h => .cons a (dp_app b h)
theorem dp_drop {K : PySem.W.Frag} {H : Hp} : ∀ {vs : List V} {ds : List PyData}, DpAll K H vs ds → ∀ i : Nat, DpAll K H (vs.drop i) (ds.drop i)
  | _, _, .nil, i => by rw [List.drop_nil, List.drop_nil]; exact .nil
  | _, _, .cons a b, 0 => .cons a b
  | _, _, .cons a b, i + 1 => dp_drop b i
theorem dp_cut {K : PySem.W.Frag} {H : Hp} {vs : List V} {ds : List PyData} (h : DpAll K H vs ds) : DpAll K H (cutV vs (some 3) none) (ds.drop 3) := by
  have e : cutV vs (some 3) none = vs.drop 3 := by
    unfold cutV
    have z : HT.sIx vs.length 0 (some 3) = min 3 vs.length := HT.sIx_nat vs.length 0 3
    rw [HT.sIx_none, z]
    by_cases l : 3 ≤ vs.length
    · rw [Nat.min_eq_left l]
      exact List.take_of_length_le (by rw [List.length_drop] <;> exact Nat.le_refl _)
    · rw [Nat.min_eq_right (by omega), List.drop_eq_nil_of_le (Nat.le_refl _), List.take_nil, List.drop_eq_nil_of_le (by omega)]
  rw [e]
  exact dp_drop h 3
def spSizes (K : PySem.W.Frag) : Sp := fun vs H Q _ => vs = [] ∧ ∀ (l : Addr) (us : List V) (ds : List PyData) (H' : Hp), Same H H' → H' l = some (.lst us) → DpAll K H' us ds → (∀ d ∈ ds, Sm 1000 12 d) → us.length ≤ 20 → Q (.ref l) H'
section
variable {P : Program} {w : World} {K : PySem.W.Frag} {mg : Str → Option Value} {base : Heap} {f : Addr} {fd : FuncData}
theorem ok_sizes (F : Fun K "_law_sizes" "_law_sizes" sSizes f fd) (mrange : mg "range" = none) :
    FnOk P w K mg base CX0 1 f fd [] (spSizes K) := by
  refine F.ok scSizes (fun vs H Q E h => ?_) (fun cdv A outer s H vs Q E hr h => ?_)
  · obtain ⟨rfl, _⟩ := h
    rfl
  obtain ⟨rfl, q⟩ := h
  have nd := scSizes.nd
  refine ⟨_, (pss_cons (ps_set (i := 0) nd rfl (.inl rfl) (pe_tup (pa_cons pe_str (pa_cons pe_str (pa_cons pe_str pa_nil)))))
    (pss_cons (ps_set (i := 1) nd rfl (.inl rfl) (pe_lst (pa_cons (pv 0) pa_nil)))
    (pss_cons (ps_for PassesOwn.never rfl (pi_range1 (by rfl) mrange (pa_cons pe_int pa_nil)) (pg_name (i := 2) nd rfl (.inl rfl)) (pss_one (ps_expr (pe_bm PySem.F.plainAttrs_list PySem.F.slot_list_append PySem.F.type_list_append mt_append (pv 1) (pa_cons (pe_tup (pa_cons pe_str (pa_cons (pe_ix ix_list (pv 1) (pe_un un_neg pe_int) (fun _ _ => rfl)) (pa_cons (pv 0) pa_nil)))) pa_nil)))))
    (pss_cons (ps_set (i := 3) nd rfl (.inl rfl) (pe_lst (pa_cons (pv 0) pa_nil)))
    (pss_cons (ps_for PassesOwn.never rfl (pi_range1 (by rfl) mrange (pa_cons pe_int pa_nil)) (pg_name (i := 2) nd rfl (.inl rfl)) (pss_one (ps_expr (pe_bm PySem.F.plainAttrs_list PySem.F.slot_list_append PySem.F.type_list_append mt_append (pv 3) (pa_cons (pe_tup (pa_cons pe_str (pa_cons (pe_ix ix_list (pv 3) (pe_un un_neg pe_int) (fun _ _ => rfl)) (pa_cons (pe_ix ix_list (pv 3) (pe_un un_neg pe_int) (fun _ _ => rfl)) pa_nil)))) pa_nil)))))
    (pss_cons (ps_set (i := 4) nd rfl (.inl rfl) (pe_tup (pa_cons pe_str (pa_cons (pe_ix ix_list (pv 3) pe_int (fun _ _ => rfl)) (pa_cons (pe_tup (pa_cons pe_str (pa_cons (pe_ix ix_list (pv 3) pe_int (fun _ _ => rfl)) (pa_cons (pe_tup (pa_cons pe_str (pa_cons (pe_ix ix_list (pv 3) pe_int (fun _ _ => rfl)) (pa_cons (pv 0) pa_nil)))) pa_nil)))) pa_nil)))))
    (pss_one (ps_ret (pe_op op_cat (pe_op op_cat (pe_op op_cat (pe_slice sl_list (pv 1) (po_some pe_int) po_none) (pe_lst (pa_cons (pe_tup (pa_cons pe_str (pa_cons (pv 0) (pa_cons (pe_ix ix_list (pv 1) pe_int (fun _ _ => rfl)) pa_nil)))) (pa_cons (pe_tup (pa_cons pe_str (pa_cons (pv 0) (pa_cons (pe_ix ix_list (pv 1) pe_int (fun _ _ => rfl)) pa_nil)))) pa_nil)))) (pe_slice sl_list (pv 3) (po_some pe_int) po_none)) (pe_lst (pa_cons (pv 4) (pa_cons (pe_tup (pa_cons pe_str (pa_cons (pv 0) (pa_cons (pe_ix ix_list (pv 3) pe_int (fun _ _ => rfl)) pa_nil)))) pa_nil)))))))))))), ?_⟩
  refine ⟨(by show 3 ≤ sizeLine; decide), fun t0 n0 => ?_⟩
  have s0 : Same H (upd H t0 (.tup [.str "cell", .str "a", .str "b"])) := fresh_same n0
  refine ⟨_, rfl, (by show 1 ≤ sizeLine; decide), fun q1 m1 => ?_⟩
  have nq1 : H q1 = none := by
    cases e : H q1 with
    | none => rfl
    | some o =>
      have := s0 _ _ e
      rw [m1] at this
      cases this
  have s1 : Same H (upd (upd H t0 (.tup [.str "cell", .str "a", .str "b"])) q1 (.lst [.ref t0])) := s0.trans (fresh_same m1)
  have hc : SqT K (upd (upd H t0 (.tup [.str "cell", .str "a", .str "b"])) q1 (.lst [.ref t0])) t0 [.str "cell", .str "a", .str "b"] := SqT.of (fresh_same m1 _ _ upd_same)
  have cell : ∀ {H' : Hp}, SqT K H' t0 [.str "cell", .str "a", .str "b"] → Dp K H' (.ref t0) cellD := fun h => .tup h (.cons (.str _) (.cons (.str _) (.cons (.str _) .nil)))
  refine ⟨5, rfl, by decide, by decide, ?_⟩
  refine for_range (lo := 0) (n := 5) (fun i σ' H' => Same H H' ∧ SqT K H' t0 [.str "cell", .str "a", .str "b"] ∧ Row K H' q1 (9 + 20 * i) (i + 1) (i + 1) ∧ ∃ y, σ' = [some (.ref t0), some (.ref q1), y, none, none]) ?_ ?_ ?_
  · refine ⟨s1, hc, ⟨[.ref t0], [cellD], upd_same, .cons (cell hc) .nil, fun d hd => ?_, rfl⟩, _, rfl⟩
    rw [List.mem_singleton.mp hd]
    exact sm_cell
  · rintro i σ' H1 hi ⟨s2, hc1, hrow, y, rfl⟩
    obtain ⟨vs, v, d, e1, ev, lv, hv, hs⟩ := hrow.at (i := i) (by omega)
    obtain ⟨vs', ds, e1', hA, hf, lv'⟩ := hrow
    cases e1'.symm.trans e1
    refine ⟨_, rfl, .inl ⟨rfl, _, SqL.of e1⟩, _, rfl, _, rfl, q1, vs, -1, v, rfl, rfl, SqL.of e1, at_end lv ev, _, rfl, (by show 3 ≤ sizeLine; decide), fun t2 n2 => ?_⟩
    have j2 := fresh_same (o := .tup [.str "plus", v, .ref t0]) n2
    have e2 := j2 _ _ e1
    refine ⟨q1, vs, _, rfl, rfl, e2, ?_, ?_⟩
    · show vs.length < 16777216
      omega
    have hn : Sm (11 + (9 + 20 * i) + 9) (i + 1 + 1) (.tuple [.str "plus", d, cellD]) := sm_node (by decide +kernel) hs (sm_cell.mono (Nat.le_refl _) (by omega))
    have T := Tups.upd_lst (K := K) (ys := vs ++ [.ref t2]) e2
    have dv : Dp K (upd H1 t2 (.tup [.str "plus", v, .ref t0])) (.ref t2) (.tuple [.str "plus", d, cellD]) :=
      .tup (SqT.of upd_same) (.cons (.str _) (.cons (Gd.Dp.same j2 d hv) (.cons (cell (Tups.of_same j2 _ _ hc1)) .nil)))
    refine ⟨fun b u e => ?_, T _ _ (Tups.of_same j2 _ _ hc1), ?_, _, rfl⟩
    · rw [upd_ne (ne_of_none e nq1)]
      exact j2 _ _ (s2 _ _ e)
    · have r := Row.push e2 (Gd.DpAll.same j2 ds hA) hf dv hn (by omega) (by omega)
      rw [lv] at r
      obtain ⟨a1, a2, a3, a4, a5, a6⟩ := r
      exact ⟨a1, a2, a3, a4, fun x hx => (a5 x hx).mono (by omega) (by omega), a6⟩
  rintro σ' H1 ⟨s2, hc1, hrow, y, rfl⟩
  refine ⟨_, rfl, (by show 1 ≤ sizeLine; decide), fun q2 m2 => ?_⟩
  have j0 := fresh_same (o := .lst [.ref t0]) m2
  have nq2 : H q2 = none := by
    cases e : H q2 with
    | none => rfl
    | some o =>
      have := s2 _ _ e
      rw [m2] at this
      cases this
  have q12 : q1 ≠ q2 := fun z => by
    obtain ⟨vs, ds, a, _⟩ := hrow
    rw [z, m2] at a
    cases a
  have hc2 := Tups.of_same j0 _ _ hc1
  refine ⟨4, rfl, by decide, by decide, ?_⟩
  refine for_range (lo := 0) (n := 4) (fun i σ' H' => Same H H' ∧ SqT K H' t0 [.str "cell", .str "a", .str "b"] ∧ Row K H' q1 (9 + 20 * 5) (5 + 1) (5 + 1) ∧ Row K H' q2 (20 * 2 ^ i - 11) (i + 1) (i + 1) ∧ ∃ y, σ' = [some (.ref t0), some (.ref q1), y, some (.ref q2), none]) ?_ ?_ ?_
  · refine ⟨s2.trans j0, hc2, hrow.same j0, ⟨[.ref t0], [cellD], upd_same, .cons (cell hc2) .nil, fun d hd => ?_, rfl⟩, _, rfl⟩
    rw [List.mem_singleton.mp hd]
    exact sm_cell
  · rintro i σ' H2 hi ⟨s3, hc3, hrow1, hrow2, y2, rfl⟩
    obtain ⟨vs, v, d, e1, ev, lv, hv, hs⟩ := hrow2.at (i := i) (by omega)
    obtain ⟨vs', ds, e1', hA, hf, lv'⟩ := hrow2
    cases e1'.symm.trans e1
    refine ⟨_, rfl, .inl ⟨rfl, _, SqL.of e1⟩, _, rfl, _, rfl, q2, vs, -1, v, rfl, rfl, SqL.of e1, at_end lv ev, _, rfl, _, rfl, q2, vs, -1, v, rfl, rfl, SqL.of e1, at_end lv ev, (by show 3 ≤ sizeLine; decide), fun t2 n2 => ?_⟩
    have j2 := fresh_same (o := .tup [.str "times", v, v]) n2
    have e2 := j2 _ _ e1
    refine ⟨q2, vs, _, rfl, rfl, e2, ?_, ?_⟩
    · show vs.length < 16777216
      omega
    have hn : Sm (11 + (20 * 2 ^ i - 11) + (20 * 2 ^ i - 11)) (i + 1 + 1) (.tuple [.str "times", d, d]) := sm_node (by decide +kernel) hs hs
    have T := Tups.upd_lst (K := K) (ys := vs ++ [.ref t2]) e2
    have dv : Dp K (upd H2 t2 (.tup [.str "times", v, v])) (.ref t2) (.tuple [.str "times", d, d]) :=
      .tup (SqT.of upd_same) (.cons (.str _) (.cons (Gd.Dp.same j2 d hv) (.cons (Gd.Dp.same j2 d hv) .nil)))
    have p0 : 1 ≤ 2 ^ i := Nat.one_le_two_pow
    have p1 : 2 ^ (i + 1) = 2 * 2 ^ i := by rw [Nat.pow_succ, Nat.mul_comm]
    refine ⟨fun b u e => ?_, T _ _ (Tups.of_same j2 _ _ hc3), (hrow1.same j2).tups T fun o e => ?_, ?_, _, rfl⟩
    · rw [upd_ne (ne_of_none e nq2)]
      exact j2 _ _ (s3 _ _ e)
    · rw [upd_ne q12]
      exact e
    · have r := Row.push e2 (Gd.DpAll.same j2 ds hA) hf dv hn (by omega) (by omega)
      rw [lv] at r
      obtain ⟨a1, a2, a3, a4, a5, a6⟩ := r
      exact ⟨a1, a2, a3, a4, fun x hx => (a5 x hx).mono (by rw [p1]; omega) (by omega), a6⟩
  rintro σ' H2 ⟨s3, hc3, hrow1, hrow2, y2, rfl⟩
  have hrow2 : Row K H2 q2 309 5 5 := hrow2
  obtain ⟨vs, v2, d2, e2, ev2, lv, hv2, f2⟩ := hrow2.at (i := 2) (by omega)
  obtain ⟨vs1, v1, d1, e2', ev1, _, hv1, f1⟩ := hrow2.at (i := 1) (by omega)
  cases e2.symm.trans e2'
  obtain ⟨vs3, v3, d3, e2', ev3, _, hv3, f3⟩ := hrow2.at (i := 3) (by omega)
  cases e2.symm.trans e2'
  obtain ⟨us, u3, c3, g1, gu3, lu, hu3, k3⟩ := hrow1.at (i := 3) (by omega)
  obtain ⟨us4, u4, c4, g1', gu4, _, hu4, k4⟩ := hrow1.at (i := 4) (by omega)
  cases g1.symm.trans g1'
  obtain ⟨vsx, ds, e2', hA, hf, _⟩ := hrow2
  cases e2.symm.trans e2'
  obtain ⟨usx, cs, g1', hB, hg, _⟩ := hrow1
  cases g1.symm.trans g1'
  -- near
  refine ⟨_, rfl, q2, vs, 2, v2, rfl, rfl, SqL.of e2, atI_nat ev2, _, rfl, q2, vs, 1, v1, rfl, rfl, SqL.of e2, atI_nat ev1, _, rfl, q2, vs, 1, v1, rfl, rfl, SqL.of e2, atI_nat ev1, _, rfl, (by show 3 ≤ sizeLine; decide), fun ta na => ?_⟩
  refine ⟨(by show 3 ≤ sizeLine; decide), fun tb nb => ?_⟩
  refine ⟨(by show 3 ≤ sizeLine; decide), fun tc nc => ?_⟩
  have ja := fresh_same (o := .tup [.str "plus", v1, .ref t0]) na
  have jb := fresh_same (o := .tup [.str "less", v1, .ref ta]) nb
  have jc := fresh_same (o := .tup [.str "over", v2, .ref tb]) nc
  have J3 := ja.trans (jb.trans jc)
  refine ⟨_, rfl, 3, rfl, q1, us, rfl, SqL.of (J3 _ _ g1), fun la nla => ?_⟩
  have jd := fresh_same (o := .lst (cutV us (some 3) none)) nla
  have J4 := J3.trans jd
  refine ⟨_, rfl, _, rfl, q1, us, 3, u3, rfl, rfl, SqL.of (J4 _ _ g1), atI_nat gu3, (by show 3 ≤ sizeLine; decide), fun td ntd => ?_⟩
  have je := fresh_same (o := .tup [.str "less", .ref t0, u3]) ntd
  have J5 := J4.trans je
  refine ⟨_, rfl, _, rfl, q1, us, 4, u4, rfl, rfl, SqL.of (J5 _ _ g1), atI_nat gu4, (by show 3 ≤ sizeLine; decide), fun te nte => ?_⟩
  have jf := fresh_same (o := .tup [.str "less", .ref t0, u4]) nte
  refine ⟨(by show 2 ≤ sizeLine; decide), fun lb nlb => ?_⟩
  have jg := fresh_same (o := .lst [.ref td, .ref te]) nlb
  have cl1 := cutV_length us (some 3) none
  have cl2 := cutV_length vs (some 3) none
  refine ⟨la, lb, _, _, rfl, rfl, (je.trans (jf.trans jg)) _ _ upd_same, upd_same, ?_, fun lc nlc => ?_⟩
  · show (cutV us (some 3) none).length + 2 ≤ 16777216
    omega
  have jh := fresh_same (o := .lst (cutV us (some 3) none ++ [.ref td, .ref te])) nlc
  have J8 := J5.trans (jf.trans (jg.trans jh))
  refine ⟨_, rfl, 3, rfl, q2, vs, rfl, SqL.of (J8 _ _ e2), fun ld nld => ?_⟩
  have ji := fresh_same (o := .lst (cutV vs (some 3) none)) nld
  refine ⟨lc, ld, _, _, rfl, rfl, ji _ _ upd_same, upd_same, ?_, fun le nle => ?_⟩
  · rw [List.length_append]
    show (cutV us (some 3) none).length + 2 + (cutV vs (some 3) none).length ≤ 16777216
    omega
  have jj := fresh_same (o := .lst (cutV us (some 3) none ++ [.ref td, .ref te] ++ cutV vs (some 3) none)) nle
  have J10 := J8.trans (ji.trans jj)
  refine ⟨_, rfl, _, rfl, _, rfl, q2, vs, 3, v3, rfl, rfl, SqL.of (J10 _ _ e2), atI_nat ev3, (by show 3 ≤ sizeLine; decide), fun tf ntf => ?_⟩
  have jk := fresh_same (o := .tup [.str "plus", .ref t0, v3]) ntf
  refine ⟨(by show 2 ≤ sizeLine; decide), fun lg nlg => ?_⟩
  have jl := fresh_same (o := .lst [.ref tc, .ref tf]) nlg
  refine ⟨le, lg, _, _, rfl, rfl, (jk.trans jl) _ _ upd_same, upd_same, ?_, fun lh nlh => ?_⟩
  · rw [List.length_append, List.length_append]
    show (cutV us (some 3) none).length + 2 + (cutV vs (some 3) none).length + 2 ≤ 16777216
    omega
  have jm := fresh_same (o := .lst (cutV us (some 3) none ++ [.ref td, .ref te] ++ cutV vs (some 3) none ++ [.ref tc, .ref tf])) nlh
  have J12 := J10.trans (jk.trans (jl.trans jm))
  -- where each was made, and from there on
  have after10 := jk.trans (jl.trans jm)
  have after5 := jf.trans (jg.trans (jh.trans (ji.trans (jj.trans after10))))
  have after3 := jd.trans (je.trans after5)
  have hcf := Tups.of_same J12 _ _ hc3
  have Dcell : Dp K _ (.ref t0) cellD := cell hcf
  have Dnear : Dp K _ (.ref tc) (.tuple [.str "over", d2, .tuple [.str "less", d1, .tuple [.str "plus", d1, cellD]]]) :=
    .tup (SqT.of (after3 _ _ upd_same)) (.cons (.str _) (.cons (Gd.Dp.same J12 d2 hv2) (.cons (.tup (SqT.of ((jc.trans after3) _ _ upd_same)) (.cons (.str _) (.cons (Gd.Dp.same J12 d1 hv1)
      (.cons (.tup (SqT.of ((jb.trans (jc.trans after3)) _ _ upd_same)) (.cons (.str _) (.cons (Gd.Dp.same J12 d1 hv1) (.cons Dcell .nil)))) .nil)))) .nil)))
  have Dtd : Dp K _ (.ref td) (.tuple [.str "less", cellD, c3]) := .tup (SqT.of (after5 _ _ upd_same)) (.cons (.str _) (.cons Dcell (.cons (Gd.Dp.same J12 c3 hu3) .nil)))
  have Dte : Dp K _ (.ref te) (.tuple [.str "less", cellD, c4]) := .tup (SqT.of ((jg.trans (jh.trans (ji.trans (jj.trans after10)))) _ _ upd_same)) (.cons (.str _) (.cons Dcell (.cons (Gd.Dp.same J12 c4 hu4) .nil)))
  have Dtf : Dp K _ (.ref tf) (.tuple [.str "plus", cellD, d3]) := .tup (SqT.of ((jl.trans jm) _ _ upd_same)) (.cons (.str _) (.cons Dcell (.cons (Gd.Dp.same J12 d3 hv3) .nil)))
  have A1 := dp_cut (Gd.DpAll.same J12 cs hB)
  have A2 := dp_cut (Gd.DpAll.same J12 ds hA)
  refine q lh _ (cs.drop 3 ++ [.tuple [.str "less", cellD, c3], .tuple [.str "less", cellD, c4]] ++ ds.drop 3 ++ [.tuple [.str "over", d2, .tuple [.str "less", d1, .tuple [.str "plus", d1, cellD]]], .tuple [.str "plus", cellD, d3]]) _
    (s3.trans J12) upd_same ?_ ?_ ?_
  · exact dp_app (dp_app (dp_app A1 (.cons Dtd (.cons Dte .nil))) A2) (.cons Dnear (.cons Dtf .nil))
  · have lc : isLab "less" = true := by decide +kernel
    have pc : isLab "plus" = true := by decide +kernel
    have oc : isLab "over" = true := by decide +kernel
    have c6 : Sm 9 6 cellD := sm_cell.mono (Nat.le_refl _) (by omega)
    have x1 : Sm 329 9 (.tuple [.str "plus", d1, cellD]) := (sm_node pc f1 (sm_cell.mono (Nat.le_refl _) (by omega))).mono (by omega) (by omega)
    have x2 : Sm 649 10 (.tuple [.str "less", d1, .tuple [.str "plus", d1, cellD]]) := (sm_node lc (f1.mono (Nat.le_refl _) (by omega)) x1).mono (by omega) (by omega)
    intro x hx
    simp only [List.mem_append, List.mem_cons, List.not_mem_nil, or_false] at hx
    rcases hx with ((hx | rfl | rfl) | hx) | rfl | rfl
    · exact (hg x (List.mem_of_mem_drop hx)).mono (by omega) (by omega)
    · exact (sm_node lc c6 k3).mono (by omega) (by omega)
    · exact (sm_node lc c6 k4).mono (by omega) (by omega)
    · exact (hf x (List.mem_of_mem_drop hx)).mono (by omega) (by omega)
    · exact (sm_node oc (f2.mono (Nat.le_refl _) (by omega)) x2).mono (by omega) (by omega)
    · exact (sm_node pc (sm_cell.mono (Nat.le_refl _) (by omega)) f3).mono (by omega) (by omega)
  · rw [List.length_append, List.length_append, List.length_append]
    show (cutV us (some 3) none).length + 2 + (cutV vs (some 3) none).length + 2 ≤ 20
    have a : (cutV us (some 3) none).length ≤ us.length := cl1
    omega
end
end K01
end

section
set_option Elab.async false
set_option linter.all false
set_option maxRecDepth 100000
set_option maxHeartbeats 8000000
namespace K01
open PySem PySem.Spec PyProof.Rows L2 Gd
abbrev sLaw : Stmt := topS 26
theorem scLaw : FnScope ["_law_script", "_law_k", "_law_feed_here", "_law_turn", "_law_piece_here", "_law_bent_here", "_law_many_now", "_law_so_now", "_law_odds"] ["_law_script"] (defScope sLaw) :=
  ⟨rfl, rfl, rfl, by decide +kernel, rfl, by decide +kernel, by decide +kernel⟩
def spLaw (K : PySem.W.Frag) : Sp := fun vs H Q _ => ∃ (a : Addr) (ns : List Int), vs = [.ref a] ∧ SqL K H a (ns.map V.int) ∧ ns.length ≤ 63 ∧ ∀ H', Q (.bl true) H'
theorem ex1_list {K : PySem.W.Frag} {H H' : Hp} {p a : Addr} {xs : List V} (n : H p = none) (x : Ex1 p H H') (h : SqL K H a xs) : SqL K H' a xs := by
  rcases h with (h | ⟨o, h⟩) | h
  · exact .inl (.inl (x _ _ (ne_of_none h n) h))
  · exact .inl (.inr ⟨o, x _ _ (ne_of_none h n) h⟩)
  · exact .inr h
/-- all of a list are told rightly: what is picked out is nothing -/
theorem picked {K : PySem.W.Frag} {N : Addr → Prop} {H : Hp} {l D : Addr} {vs : List V} {ds : List PyData} (el : H l = some (.lst vs)) (hA : DdAll K H N vs ds) (hD : H D = none) {i : Nat} {x : V} {H1 : Hp}
    (s : Same H H1) (hx : vs[i]? = some x) : ∃ d, ds[i]? = some d ∧ Dd K H1 N x d := by
  obtain ⟨d, e, h⟩ := hA.at_ hx
  exact ⟨d, e, h.same s⟩
theorem dd_head {K : PySem.W.Frag} {H : Hp} {N : Addr → Prop} {v : V} {vs : List V} {d : PyData} {ds : List PyData} (h : DdAll K H N (v :: vs) (d :: ds)) : Dd K H N v d := by
  cases h with
  | cons a _ => exact a
theorem mvD {K : PySem.W.Frag} {H H' : Hp} {p : Addr} {S : Int} {v : V} {d : PyData} (F : Feed H p S) (x : Ex1 p H H') (h : Dd K H (· = p) v d) : Dd K H' (· = p) v d := by
  obtain ⟨ys, ep⟩ := F.lst
  exact h.drawn ep x
theorem mvA {K : PySem.W.Frag} {H H' : Hp} {p : Addr} {S : Int} {vs : List V} {ds : List PyData} (F : Feed H p S) (x : Ex1 p H H') (h : DdAll K H (· = p) vs ds) : DdAll K H' (· = p) vs ds := by
  obtain ⟨ys, ep⟩ := F.lst
  exact h.drawn ep x
theorem mvT {K : PySem.W.Frag} {H H' : Hp} {p a : Addr} {S : Int} {xs : List V} (F : Feed H p S) (x : Ex1 p H H') (h : SqT K H a xs) : SqT K H' a xs := by
  obtain ⟨ys, ep⟩ := F.lst
  exact x.tups ep _ _ h
theorem Feed.same {H H' : Hp} {p : Addr} {S : Int} (F : Feed H p S) (s : Same H H') : Feed H' p S := by
  obtain ⟨g, x, z, ep, a, b⟩ := F
  exact ⟨g, x, z, s _ _ ep, a, b⟩
theorem ex1_of {H H' : Hp} {p : Addr} (s : Same H H') : Ex1 p H H' := fun b u _ e => s b u e
theorem ex1_two {H H' : Hp} {p q : Addr} {o : HO} (n : H q = none) (x : Ex2 p q (upd H q o) H') : Ex1 p H H' := fun b u nb e => x b u nb (ne_of_none e n) (by rw [upd_ne (ne_of_none e n)]; exact e)
theorem feed_no {H : Hp} {p q : Addr} {S : Int} (F : Feed H p S) (n : H q = none) : q ≠ p := F.ne n
theorem fits_all {ds4 : List PyData} {d5 d6 d12 d16 : PyData} {x9 : Str} {i10 : Int} (f4 : Fit 9 2250 5 (.tuple ds4)) (f5 : Fit (9 + 1) (2 * 2250 + 3000) (5 + 4) d5) (f6 : Fit (10 + 1) (2 * 7500 + 3000) (9 + 4) d6)
    (f12 : Fit (9 + 1) (2 * 8 + 3000) (3 + 1) d12) (f16 : Fit (9 + 1) (2 * 100 + 3000) (3 + 1) d16) (l9 : isLab x9 = true) (l10 : isNum (.int i10) = true) :
    ∀ d ∈ ([.tuple ds4, d5, d6, .list ds4, .tuple (ds4 ++ [.tuple ds4]), .tuple (cutDs ds4 (some 1) none), .tuple [.str "plus", .tuple ds4, .tuple ds4], .tuple [.str "less", .tuple ds4, .tuple [.str "number", .int 0]]] ++
      [.tuple [.str "over", .tuple [.str "number", .int 0], .tuple ds4]] ++ [.str x9, .int i10, d12] ++ [d16] : List PyData), Fit 50 100000 50 d := by
  have fs : Fits 9 2250 4 ds4 := Fits.of f4
  have g4 : Fit 50 2250 10 (.tuple ds4) := f4.mono (by omega) (by omega) (by omega)
  have num : Fit 50 2250 10 (.tuple [.str "number", .int 0]) := ⟨by decide +kernel, by decide +kernel, by decide +kernel⟩
  have tri : ∀ {x : Str} {d e : PyData}, isLab x = true → Fit 50 2250 10 d → Fit 50 2250 10 e → Fit 50 100000 50 (.tuple [.str x, d, e]) := fun {x d e} hx h1 h2 => by
    obtain ⟨sl, _⟩ := isLab_ascii hx
    refine ⟨?_, ?_, ?_⟩
    · have z : okAll 50 [.str x, d, e] = true := by
        unfold okAll okAll okAll okAll
        rw [okD_str hx, h1.ok, h2.ok] <;> rfl
      unfold okD
      rw [z]
      rfl
    · have a := h1.wt
      have b := h2.wt
      have z : (PyData.tuple [.str x, d, e]).weight = x.length + 1 + (d.weight + 1 + (e.weight + 1 + 0)) := by
        simp only [PyData.weight, PyData.weightAll]
        rfl
      omega
    · have a := h1.dp
      have b := h2.dp
      have z : (PyData.tuple [.str x, d, e]).depth = max 0 (max d.depth (max e.depth 0)) + 1 := by
        simp only [PyData.depth, PyData.depthAll]
      omega
  obtain ⟨ln9, _⟩ := isLab_ascii l9
  obtain ⟨o10, w10⟩ := num_ok (k := 50) l10
  intro d hd
  simp only [List.mem_append, List.mem_cons, List.not_mem_nil, or_false] at hd
  rcases hd with (((rfl | rfl | rfl | rfl | rfl | rfl | rfl | rfl) | rfl) | rfl | rfl | rfl) | rfl
  · exact f4.mono (by omega) (by omega) (by omega)
  · exact f5.mono (by omega) (by omega) (by omega)
  · exact f6.mono (by omega) (by omega) (by omega)
  · exact fs.lst.mono (by omega) (by omega) (by omega)
  · have a : Fits 50 2250 5 ds4 := fs.mono (by omega) (Nat.le_refl _) (by omega)
    have b : Fits 50 (2250 + 1) 5 [.tuple ds4] := Fits.one (f4.mono (by omega) (Nat.le_refl _) (Nat.le_refl _)) (by omega)
    have l4 := fs.len
    exact (Fits.app (l1 := 0) (l2 := 0) a b (by show ds4.length + 1 ≤ 50; omega)).tup.mono (Nat.le_refl _) (by omega) (by omega)
  · exact (fs.cut _ _).tup.mono (by omega) (by omega) (by omega)
  · exact tri (by decide +kernel) g4 g4
  · exact tri (by decide +kernel) g4 num
  · exact tri (by decide +kernel) num g4
  · exact ⟨okD_str l9, by rw [wt_str]; omega, by simp [PyData.depth]⟩
  · exact ⟨o10, by omega, by simp [PyData.depth]⟩
  · exact f12.mono (by omega) (by omega) (by omega)
  · exact f16.mono (by omega) (by omega) (by omega)
abbrev fixedD : List PyData := [.none, .bool true, .bool false, .int 0, .str "", .str "a", .str "abcdefgh", .str "abcdefghi", .str "A", .str "~", .tuple [], .list [], .dict [], .tuple [.str "a"], .dict [(.str "a", .int 1)], .int (10 ^ 30),
  .int (10 ^ 30 - 1), .int (1 - 10 ^ 30), .int (0 - 10 ^ 30), .tuple [.str "number", .bool true], .tuple [.str "cell", .str "a", .str "b"], .list [.str "cell", .str "a", .str "b"]]
theorem fixed_fit : ∀ d ∈ fixedD, Fit 50 100000 50 d := by
  have all : ∀ d ∈ fixedD, okD 50 d = true ∧ d.weight ≤ 100000 ∧ d.depth ≤ 50 := by decide +kernel
  intro d hd
  obtain ⟨a, b, c⟩ := all d hd
  exact ⟨a, b, c⟩
structure Ml (mg : Str → Option Value) : Prop where
  len : mg "len" = none
  rng : mg "range" = none
  min : mg "min" = none
  max : mg "max" = none
  lst : mg "list" = none
section
variable {P : Program} {w : World} {K : PySem.W.Frag} {mg : Str → Option Value} {base : Heap} {f fF fT fL fM fC fO fB fR fS fP : Addr} {fd dF dT dL dM dC dO dB dR dS dP : FuncData}
theorem ok_law (F : Fun K "law" "law" sLaw f fd) (Y : Ml mg)
    (FF : Fun K "_law_feed" "_law_feed" sFeed fF dF) (GF : FnOk P w K mg base CX0 1 fF dF ["_law_script", "_law_k"] (spFeed K)) (bF : Binds K dF ["_law_script", "_law_k"] []) (gF : mg "_law_feed" = some (.ref fF))
    (FT : Fun K "_law_take" "_law_take" sTake fT dT) (bT : Binds K dT ["_law_feed_here", "_law_many"] []) (gT : mg "_law_take" = some (.ref fT))
    (FL : Fun K "_law_label" "_law_label" sLabel fL dL) (GL : FnOk P w K mg base CX0 2 fL dL ["_law_feed_here"] spLabel) (bL : Binds K dL ["_law_feed_here"] []) (gL : mg "_law_label" = some (.ref fL))
    (FM : Fun K "_law_number" "_law_number" sNum fM dM) (GM : FnOk P w K mg base CX0 2 fM dM ["_law_feed_here"] spNum) (bM : Binds K dM ["_law_feed_here"] []) (gM : mg "_law_number" = some (.ref fM))
    (FC : Fun K "_law_piece" "_law_piece" sPiece fC dC) (GC : FnOk P w K mg base CX0 7 fC dC ["_law_feed_here", "_law_deep", "_law_room"] (spPiece K 5)) (bC : Binds K dC ["_law_feed_here", "_law_deep", "_law_room"] []) (gC : mg "_law_piece" = some (.ref fC))
    (FO : Fun K "_law_odd" "_law_odd" sOdd fO dO) (GO : FnOk P w K mg base CX0 2 fO dO ["_law_feed_here", "_law_so_now"] (spOdd K)) (bO : Binds K dO ["_law_feed_here", "_law_so_now"] []) (gO : mg "_law_odd" = some (.ref fO))
    (FB : Fun K "_law_bent" "_law_bent" sBent fB dB) (GB : FnOk P w K mg base CX0 12 fB dB ["_law_feed_here", "_law_so_now"] (spBent K 10)) (bB : Binds K dB ["_law_feed_here", "_law_so_now"] []) (gB : mg "_law_bent" = some (.ref fB))
    (FR : Fun K "_law_right" "_law_right" sRight fR dR) (GR : FnG P w K mg base CX0 12 fR dR ["_law_so_now"] (spRight K)) (bR : Binds K dR ["_law_so_now"] []) (gR : mg "_law_right" = some (.ref fR))
    (FS : Fun K "_law_sizes" "_law_sizes" sSizes fS dS) (GS : FnOk P w K mg base CX0 1 fS dS [] (spSizes K)) (bS : Binds K dS [] []) (gS : mg "_law_sizes" = some (.ref fS))
    (FP : Fun K "is_part" "is_part" sPart fP dP) (GP : FnOk P w K mg base CX0 9 fP dP ["thing"] (spChk K isPart)) (bP : Binds K dP ["thing"] []) (gP : mg "is_part" = some (.ref fP)) :
    FnG P w K mg base CX0 13 f fd ["_law_script"] (spLaw K) := by
  have GT : FnOk P w K mg base CX0 1 fT dT ["_law_feed_here", "_law_many"] spTake := ok_take FT
  refine okG F scLaw (fun vs H Q E h => ?_) (fun cv A out s H vs Q E gd hr h => ?_)
  · obtain ⟨a, ns, rfl, _⟩ := h
    rfl
  obtain ⟨a, ns, rfl, hS, hl, q⟩ := h
  have nd := scLaw.nd
  have hr1 := hr.mono (show 1 ≤ 12 by decide)
  have hr2 := hr.mono (show 2 ≤ 12 by decide)
  have hrC := hr.mono (show 7 ≤ 12 by decide)
  have hrP := hr.mono (show 9 ≤ 12 by decide)
  have hrB := hr
  have mrange := Y.rng
  have mlist := Y.lst
  have mlen := Y.len
  have mmin := Y.min
  have mmax := Y.max
  refine ⟨_, (C8.pss_cut (ps_for PassesOwn.never rfl (pi_range1 (by rfl) mrange (pa_cons (pe_callB (call_max2 rfl) (by rfl) mmax (by decide +kernel) (pa_cons pe_int (pa_cons (pe_callB (call_min2 rfl) (by rfl) mmin (by decide +kernel) (pa_cons pe_int (pa_cons (pe_callB call_len_seq (by rfl) mlen PySem.boot_len (pa_cons (pv 0) pa_nil)) pa_nil))) pa_nil))) pa_nil)) (pg_name (i := 1) nd rfl (.inl rfl)) (pss_cons (ps_set (i := 2) nd rfl (.inl rfl) (pe_call GF hr1 (by rfl) gF FF.kp bF .nil pass0 (pa_cons (pv 0) (pa_cons (pv 1) pa_nil)))) (pss_one (ps_for PassesOwn.never rfl (pi_range1 (by rfl) mrange (pa_cons (pe_ix ix_list (pe_lst (pa_cons pe_int (pa_cons pe_int (pa_cons pe_int (pa_cons pe_int (pa_cons pe_int (pa_cons pe_int (pa_cons pe_int (pa_cons pe_int pa_nil))))))))) (pe_call GT hr1 (by rfl) gT FT.kp bT .nil pass0 (pa_cons (pv 2) (pa_cons pe_int pa_nil))) (fun _ _ => rfl)) pa_nil)) (pg_name (i := 3) nd rfl (.inl rfl)) (pss_cons (ps_set (i := 4) nd rfl (.inl rfl) (pe_call GC hrC (by rfl) gC FC.kp bC .nil pass0 (pa_cons (pv 2) (pa_cons pe_int (pa_cons (pe_lst (pa_cons pe_int pa_nil)) pa_nil)))))
    (pss_cons (ps_if (pt_cmpR op_isnot_bl (pe_call GP hrP (by rfl) gP FP.kp bP .nil pass0 (pa_cons (pv 4) pa_nil)) pe_bl (nomark _)) pss_never pss_nil)
    (pss_cons (ps_set (i := 5) nd rfl (.inl rfl) (pe_call GB hrB (by rfl) gB FB.kp bB .nil pass0 (pa_cons (pv 2) (pa_cons (pv 4) pa_nil))))
    (pss_cons (ps_set (i := 6) nd rfl (.inl rfl) (pe_lst (pa_cons (pv 4) (pa_cons (pv 5) (pa_cons (pe_call GB hrB (by rfl) gB FB.kp bB .nil pass0 (pa_cons (pv 2) (pa_cons (pv 5) pa_nil))) (pa_cons (pe_callTy call_listS (by rfl) mlist (by decide +kernel) (pa_cons (pv 4) pa_nil)) (pa_cons (pe_op op_catB (pv 4) (pe_tup (pa_cons (pv 4) pa_nil))) (pa_cons (pe_slice sl_tupB (pv 4) (po_some pe_int) po_none) pa_nil))))))))
    (pss_cons (ps_set (i := 6) nd rfl (.inl rfl) (pe_op op_cat (pv 6) (pe_lst (pa_cons (pe_tup (pa_cons pe_str (pa_cons (pv 4) (pa_cons (pv 4) pa_nil)))) (pa_cons (pe_tup (pa_cons pe_str (pa_cons (pv 4) (pa_cons (pe_tup (pa_cons pe_str (pa_cons pe_int pa_nil))) pa_nil)))) pa_nil)))))
    (pss_cons (ps_expr (pe_bm PySem.F.plainAttrs_list PySem.F.slot_list_append PySem.F.type_list_append mt_append (pv 6) (pa_cons (pe_tup (pa_cons pe_str (pa_cons (pe_tup (pa_cons pe_str (pa_cons pe_int pa_nil))) (pa_cons (pv 4) pa_nil)))) pa_nil)))
    (pss_cons (ps_set (i := 6) nd rfl (.inl rfl) (pe_op op_cat (pv 6) (pe_lst (pa_cons (pe_call GL hr2 (by rfl) gL FL.kp bL .nil pass0 (pa_cons (pv 2) pa_nil)) (pa_cons (pe_call GM hr2 (by rfl) gM FM.kp bM .nil pass0 (pa_cons (pv 2) pa_nil)) (pa_cons (pe_call GO hr2 (by rfl) gO FO.kp bO .nil pass0 (pa_cons (pv 2) (pa_cons (pe_call GL hr2 (by rfl) gL FL.kp bL .nil pass0 (pa_cons (pv 2) pa_nil)) pa_nil))) pa_nil))))))
    (pss_cons (ps_set (i := 6) nd rfl (.inl rfl) (pe_op op_cat (pv 6) (pe_lst (pa_cons (pe_call GO hr2 (by rfl) gO FO.kp bO .nil pass0 (pa_cons (pv 2) (pa_cons (pe_call GM hr2 (by rfl) gM FM.kp bM .nil pass0 (pa_cons (pv 2) pa_nil)) pa_nil))) pa_nil))))
    (pss_one (ps_if (pt_cmpR (op_neL0 hr.units0) (pe_lc (own := [("_law_so_now", 7)]) (g := gName 7) rfl nd (pi_list (pv 6)) (blkOk_by (N := ["_law_script", "_law_k", "_law_feed_here", "_law_turn", "_law_piece_here", "_law_bent_here", "_law_many_now", "_law_so_now", "_law_odds"]) (sc := defScope sLaw) (by decide +kernel)) (fun _ _ _ _ _ => pg_name (i := 7) nd rfl (Or.inl rfl)) (fun _ _ _ _ _ => pts_one (pt_not (pt_val (pe_callG GR gd hr (by rfl) gR FR.kp bR .nil pass0 (pa_cons (pv 7) pa_nil))))) (fun _ _ _ _ _ => pv 7)) (pe_lst pa_nil) (nomark _)) pss_never pss_nil))))))))))))))
    (pss_cons (ps_set (i := 8) nd rfl (.inl rfl) (pe_lst (pa_cons pe_non (pa_cons pe_bl (pa_cons pe_bl (pa_cons pe_int (pa_cons pe_str (pa_cons pe_str (pa_cons pe_str (pa_cons pe_str (pa_cons pe_str (pa_cons pe_str (pa_cons (pe_tup pa_nil) (pa_cons (pe_lstS pa_nil) (pa_cons pe_dnewK (pa_cons (pe_tup (pa_cons pe_str pa_nil)) (pa_cons (pe_disp (pps_cons pe_str pe_int pps_nil) (by rfl) (by rfl) (fun z => by cases z) (by decide)) (pa_cons (pe_op op_pow pe_int pe_int) pa_nil))))))))))))))))))
    (pss_cons (ps_set (i := 8) nd rfl (.inl rfl) (pe_op op_cat (pv 8) (pe_lst (pa_cons (pe_op op_sub (pe_op op_pow pe_int pe_int) pe_int) (pa_cons (pe_op op_sub pe_int (pe_op op_pow pe_int pe_int)) (pa_cons (pe_op op_sub pe_int (pe_op op_pow pe_int pe_int)) (pa_cons (pe_tup (pa_cons pe_str (pa_cons pe_bl pa_nil))) (pa_cons (pe_tup (pa_cons pe_str (pa_cons pe_str (pa_cons pe_str pa_nil)))) (pa_cons (pe_lstS (pa_cons pe_str (pa_cons pe_str (pa_cons pe_str pa_nil)))) pa_nil)))))))))
    (pss_one (ps_ret (pe_cmpR (op_eqL0 hr.units0) (pe_lc (own := [("_law_so_now", 7)]) (g := gName 7) rfl nd (pi_list (pe_op op_cat (pv 8) (pe_call0 GS hr1 (by rfl) gS FS.kp bS .nil pass0))) (blkOk_by (N := ["_law_script", "_law_k", "_law_feed_here", "_law_turn", "_law_piece_here", "_law_bent_here", "_law_many_now", "_law_so_now", "_law_odds"]) (sc := defScope sLaw) (by decide +kernel)) (fun _ _ _ _ _ => pg_name (i := 7) nd rfl (Or.inl rfl)) (fun _ _ _ _ _ => pts_one (pt_not (pt_val (pe_callG GR gd hr (by rfl) gR FR.kp bR .nil pass0 (pa_cons (pv 7) pa_nil))))) (fun _ _ _ _ _ => pv 7)) (pe_lst pa_nil) (nomark _))))))), ?_⟩
  have hlen : (ns.map V.int).length = ns.length := List.length_map _
  have n63 : ((ns.map V.int).length : Int) ≤ 63 := by
    rw [hlen]
    omega
  refine ⟨fun σ' H' => ∃ x1 x2 x3 x4 x5 x6 x7 x8, σ' = [some (.ref a), x1, x2, x3, x4, x5, x6, x7, x8], ?_, ?_⟩
  · have lo5 : ∀ m : Int, 0 ≤ m → 0 ≤ (if m < 5 then m else 5) ∧ (if m < 5 then m else 5) ≤ 5 := by
      intro m h0
      split <;> omega
    obtain ⟨b0, b5⟩ := lo5 ((ns.map V.int).length : Int) (by omega)
    generalize hmm : (if ((ns.map V.int).length : Int) < 5 then ((ns.map V.int).length : Int) else 5) = mn at b0 b5
    have hi1 : ∀ m : Int, 0 ≤ m → m ≤ 5 → 0 ≤ (if m > 1 then m else 1) ∧ (if m > 1 then m else 1) ≤ 5 := by
      intro m h0 h5
      split <;> omega
    obtain ⟨c0, c5⟩ := hi1 mn b0 b5
    refine ⟨_, rfl, a, _, rfl, .inl hS, 5, _, rfl, 1, _, rfl, ?_⟩
    rw [hmm]
    refine ⟨_, rfl, by omega, by omega, ?_⟩
    refine for_range (lo := 0) (fun i σ H' => SqL K H' a (ns.map V.int) ∧ ∃ x1 x2 x3 x4 x5 x6, σ = [some (.ref a), x1, x2, x3, x4, x5, x6, none, none]) ⟨hS, _, _, _, _, _, _, rfl⟩ ?_ ?_
    · rintro i σ H1 hi ⟨hS1, x1, x2, x3, x4, x5, x6, rfl⟩
      have hi5 : (i : Int) < 5 := by omega
      refine ⟨_, rfl, _, rfl, a, ns, 0 + i, rfl, hS1, by omega, by omega, fun p fs np hF => ?_⟩
      have xp : Ex1 p H1 (upd H1 p (.lst fs)) := .at
      generalize upd H1 p (.lst fs) = H2 at hF xp ⊢
      refine ⟨(by show 8 ≤ sizeLine; decide), fun z8 n8 => ?_⟩
      refine ⟨_, rfl, p, 8, 0, rfl, Feed.same hF (fresh_same n8), by omega, by omega, by omega, fun r H3 r0 r1 F3 y3 => ?_⟩
      have ez := y3 z8 _ (feed_no hF n8) upd_same
      obtain ⟨nt, hnt, ea⟩ := at_map (f := V.int) (xs := [3, 1, 4, 1, 6, 2, 5, 3]) (r := r) r0 r1
      have ntb : 0 ≤ nt ∧ nt ≤ 6 := by
        simp only [List.mem_cons, List.not_mem_nil, or_false] at hnt
        rcases hnt with rfl | rfl | rfl | rfl | rfl | rfl | rfl | rfl <;> omega
      refine ⟨z8, _, r, .int nt, rfl, rfl, SqL.of ez, ea, nt, rfl, by omega, by omega, ?_⟩
      have X3 : Ex1 p H1 H3 := xp.trans ((Ex1.new n8).trans y3)
      refine for_range (lo := 0) (n := nt.toNat) (fun j σ H' => Ex1 p H1 H' ∧ Feed H' p (1 + 3000 * j) ∧ ∃ x3 x4 x5 x6, σ = [some (.ref a), some (.int (0 + i)), some (.ref p), x3, x4, x5, x6, none, none]) ⟨X3, F3.le (by omega), _, _, _, _, rfl⟩ ?_ ?_
      · rintro j σ H' hj ⟨XX, FF', y3, y4, y5, y6, rfl⟩
        have hj6 : (j : Int) < 6 := by omega
        have r5 : room 5 = 2046 := by decide
        -- the piece
        refine ⟨_, rfl, (by show 1 ≤ sizeLine; decide), fun qr nqr => ?_⟩
        refine ⟨p, qr, 5, 1 + 3000 * j, 15, rfl, rfl, by omega, by omega, feed_no FF' nqr, FF'.stays nqr, by omega, upd_same, by omega, by omega, fun v4 d4 c4 H4 x4 F4 e4 D4 P4 le4 => ?_⟩
        have X4 : Ex1 p H' H4 := ex1_two nqr x4
        obtain ⟨ds4, rfl⟩ : ∃ ds, d4 = .tuple ds := by
          have := P4.isT
          cases d4 with
          | tuple ds => exact ⟨ds, rfl⟩
          | _ => exact Bool.noConfusion this
        have dd4 : Dd K H4 (· = p) v4 (.tuple ds4) := Dd.ofDp _ P4.tup D4
        have f4 : Fit 9 2250 5 (.tuple ds4) := ⟨P4.ok, by have := P4.wt; omega, P4.dp⟩
        have hp4 : isPart (.tuple ds4) = true := by
          have e := P4.cnt
          have b := P4.pos
          unfold isPart
          rw [e, decide_eq_true b, decide_eq_true (by omega)] <;> rfl
        refine ⟨_, rfl, _, v4, _, rfl, dd4, okD.mono (by omega) _ f4.ok, fun H5 s5 => ⟨_, _, rfl, rfl, _, rfl, ?_⟩⟩
        rw [hp4]
        refine iteF ?_
        have dd5 := dd4.same s5
        have F5 := Feed.same F4 s5
        have X5 : Ex1 p H' H5 := X4.trans (ex1_of s5)
        -- bent ones
        refine ⟨_, rfl, _, rfl, p, v4, _, _, 9, 2250, 5, rfl, F5, by omega, dd5, f4, by omega, by omega, by have := f4.dp; omega, fun v5 d5 H6 x6 F6 D5 f5 => ?_⟩
        refine ⟨_, rfl, _, rfl, _, rfl, _, rfl, p, v5, d5, _, 10, 7500, 9, rfl, F6, by omega, D5, f5, by omega, by omega, by have := f5.dp; omega, fun v6 d6 H7 x7 F7 D6 f6 => ?_⟩
        have dd7 := mvD F5 (x6.trans x7) dd5
        have D5' := mvD F6 x7 D5
        have X7 : Ex1 p H' H7 := X5.trans (x6.trans x7)
        cases dd7 with
        | @tup a4 xs4 _ hS4 hA4 =>
        have len4 : xs4.length ≤ 9 := by
          rw [hA4.len]
          exact (Fits.of f4).len
        have z16 : sizeLine = 16777216 := rfl
        refine ⟨_, rfl, a4, xs4, rfl, hS4, fun a1 n1 g1 => ?_⟩
        have j1 := fresh_same (o := .lst xs4) n1
        have na1 : a1 ≠ p := feed_no F7 n1
        refine ⟨_, rfl, _, rfl, (by show 1 ≤ sizeLine; decide), fun t1 nt1 => ?_⟩
        have j2 := fresh_same (o := .tup [.ref a4]) nt1
        have J2 := j1.trans j2
        refine ⟨a4, t1, xs4, _, rfl, rfl, Tups.of_same J2 _ _ hS4, SqT.of upd_same, (by show xs4.length + 1 ≤ sizeLine; omega), fun p2 I2 s2 q2 => ?_⟩
        have J3 := J2.trans s2
        refine ⟨_, rfl, 1, rfl, a4, xs4, rfl, Tups.of_same J3 _ _ hS4, fun p3 I3 s3 q3 => ?_⟩
        have J4 := J3.trans s3
        refine ⟨(by show 6 ≤ sizeLine; decide), fun lm nlm => ?_⟩
        have j5 := fresh_same (o := .lst [.ref a4, v5, v6, .ref a1, .ref p2, .ref p3]) nlm
        have J5 := J4.trans j5
        -- two sums
        refine ⟨_, rfl, _, rfl, _, rfl, (by show 3 ≤ sizeLine; decide), fun t4 n4 => ?_⟩
        have j6 := fresh_same (o := .tup [.str "plus", .ref a4, .ref a4]) n4
        refine ⟨_, rfl, (by show 2 ≤ sizeLine; decide), fun t5 n5 => ?_⟩
        have j7 := fresh_same (o := .tup [.str "number", .int 0]) n5
        refine ⟨(by show 3 ≤ sizeLine; decide), fun t6 n6 => ?_⟩
        have j8 := fresh_same (o := .tup [.str "less", .ref a4, .ref t5]) n6
        refine ⟨(by show 2 ≤ sizeLine; decide), fun l2 nl2 => ?_⟩
        have j9 := fresh_same (o := .lst [.ref t4, .ref t6]) nl2
        have J9 := J5.trans (j6.trans (j7.trans (j8.trans j9)))
        refine ⟨lm, l2, _, _, rfl, rfl, (j6.trans (j7.trans (j8.trans j9))) _ _ upd_same, upd_same, (by show 8 ≤ sizeLine; decide), fun c6 nc6 => ?_⟩
        -- what there is ahead of the list that is made longer
        have hS9 := Tups.of_same J9 _ _ hS4
        have A9 := hA4.same J9
        have V4 : Dd K _ (· = p) (.ref a4) (.tuple ds4) := .tup hS9 A9
        have V5 := D5'.same J9
        have V6 := D6.same J9
        have all8 : DdAll K _ (· = p) [.ref a4, v5, v6, .ref a1, .ref p2, .ref p3, .ref t4, .ref t6]
            [.tuple ds4, d5, d6, .list ds4, .tuple (ds4 ++ [.tuple ds4]), .tuple (cutDs ds4 (some 1) none), .tuple [.str "plus", .tuple ds4, .tuple ds4], .tuple [.str "less", .tuple ds4, .tuple [.str "number", .int 0]]] :=
          .cons V4 (.cons V5 (.cons V6 (.cons (.lst ((j2.trans (s2.trans (s3.trans (j5.trans (j6.trans (j7.trans (j8.trans j9))))))) _ _ upd_same) na1 g1 A9)
            (.cons (.tup (Tups.of_same (s3.trans (j5.trans (j6.trans (j7.trans (j8.trans j9))))) _ _ q2) (A9.app (.cons V4 .nil)))
            (.cons (.tup (Tups.of_same (j5.trans (j6.trans (j7.trans (j8.trans j9)))) _ _ q3) (A9.cut (some 1) none))
            (.cons (.tup (SqT.of ((j7.trans (j8.trans j9)) _ _ upd_same)) (.cons (.str _) (.cons V4 (.cons V4 .nil))))
            (.cons (.tup (SqT.of (j9 _ _ upd_same)) (.cons (.str _) (.cons V4 (.cons (.tup (SqT.of ((j8.trans j9) _ _ upd_same)) (.cons (.str _) (.cons (.int _) .nil))) .nil)))) .nil)))))))
        have F9 := Feed.same F7 J9
        have X9 : Ex1 p H' _ := X7.trans (ex1_of J9)
        clear V4 V5 V6 A9 j1 j2 j5 j6 j7 j8 j9 s2 s3 q2 q3 J2 J3 J4 J5
        have nc6p : c6 ≠ p := feed_no F9 nc6
        have k1 := fresh_same (o := .lst ([.ref a4, v5, v6, .ref a1, .ref p2, .ref p3] ++ [.ref t4, .ref t6])) nc6
        -- one more
        refine ⟨_, rfl, .inl ⟨rfl, _, SqL.of upd_same⟩, (by show 2 ≤ sizeLine; decide), fun t7 n7 => ?_⟩
        have k2 := fresh_same (o := .tup [.str "number", .int 0]) n7
        refine ⟨_, rfl, (by show 3 ≤ sizeLine; decide), fun t8 n8' => ?_⟩
        have k3 := fresh_same (o := .tup [.str "over", .ref t7, .ref a4]) n8'
        have e6 := k3 _ _ (k2 _ _ (upd_same (a := c6) (o := .lst ([.ref a4, v5, v6, .ref a1, .ref p2, .ref p3] ++ [.ref t4, .ref t6]))))
        refine ⟨c6, _, _, rfl, rfl, e6, (by show 8 < sizeLine; decide), ?_⟩
        have TT := Tups.upd_lst (K := K) (ys := [.ref a4, v5, v6, .ref a1, .ref p2, .ref p3] ++ [.ref t4, .ref t6] ++ [.ref t8]) e6
        have KS := k1.trans (k2.trans k3)
        have KE : Same _ (upd _ c6 (.lst ([.ref a4, v5, v6, .ref a1, .ref p2, .ref p3] ++ [.ref t4, .ref t6] ++ [.ref t8]))) := fun b u e => by
          rw [upd_ne (ne_of_none e nc6)]
          exact KS _ _ e
        have v4' := dd_head (all8.same KE)
        have V8 := Dd.tup (N := (· = p)) (ds := [.str "over", .tuple [.str "number", .int 0], .tuple ds4]) (TT _ _ (SqT.of upd_same))
          (DdAll.cons (.str _) (.cons (.tup (TT _ _ (SqT.of (k3 _ _ upd_same))) (.cons (.str _) (.cons (.int _) .nil))) (.cons v4' .nil)))
        have all9 := (all8.same KE).app (.cons V8 .nil)
        have Fh := Feed.same F9 KE
        have Xh := X9.trans (ex1_of (p := p) KE)
        clear V8 TT KS k1 k2 k3 all8
        -- drawn ones
        refine ⟨_, rfl, _, rfl, p, _, rfl, Fh, by omega, fun x9 H9 z9 G9 l9 => ?_⟩
        refine ⟨_, rfl, p, _, rfl, G9, by omega, fun i10 H10 z10 G10 l10 => ?_⟩
        refine ⟨_, rfl, _, rfl, p, _, rfl, G10, by omega, fun x11 H11 z11 G11 l11 => ?_⟩
        obtain ⟨ln11, as11⟩ := isLab_ascii l11
        have f11 : Fit 9 8 3 (.str x11) := ⟨okD_str l11, by rw [wt_str]; exact ln11, by simp [PyData.depth]⟩
        refine ⟨p, .str x11, .str x11, _, 9, 8, 3, rfl, G11, by omega, .str _, f11, by omega, by omega, by omega, fun v12 d12 H12 z12 G12 D12 f12 => ?_⟩
        refine ⟨(by show 3 ≤ sizeLine; decide), fun l13 n13 => ?_⟩
        have m1 := fresh_same (o := .lst [.str x9, .int i10, v12]) n13
        have zz := z9.trans (z10.trans (z11.trans z12))
        have e12 := zz c6 _ nc6p upd_same
        refine ⟨c6, l13, _, _, rfl, rfl, m1 _ _ e12, upd_same, (by show 12 ≤ sizeLine; decide), fun c14 n14 => ?_⟩
        have m2 := fresh_same (o := .lst ([.ref a4, v5, v6, .ref a1, .ref p2, .ref p3] ++ [.ref t4, .ref t6] ++ [.ref t8] ++ [.str x9, .int i10, v12])) n14
        have M2 := m1.trans m2
        have all12 := ((mvA Fh zz all9).app (.cons (.str x9) (.cons (.int i10) (.cons D12 .nil)))).same M2
        have G14 := Feed.same G12 M2
        have X14 : Ex1 p H' _ := Xh.trans (zz.trans (ex1_of M2))
        have nc14 : c14 ≠ p := feed_no (Feed.same G12 m1) n14
        refine ⟨_, rfl, _, rfl, _, rfl, p, _, rfl, G14, by omega, fun i15 H15 z15 G15 l15 => ?_⟩
        obtain ⟨o15, w15⟩ := num_ok (k := 9) l15
        refine ⟨p, .int i15, .int i15, _, 9, 100, 3, rfl, G15, by omega, .int _, ⟨o15, w15, by simp [PyData.depth]⟩, by omega, by omega, by omega, fun v16 d16 H16 z16' G16 D16 f16 => ?_⟩
        refine ⟨(by show 1 ≤ sizeLine; decide), fun l17 n17 => ?_⟩
        have m3 := fresh_same (o := .lst [v16]) n17
        have z2 := z15.trans z16'
        have e16 := z2 c14 _ nc14 upd_same
        refine ⟨c14, l17, _, _, rfl, rfl, m3 _ _ e16, upd_same, (by show 13 ≤ sizeLine; decide), fun c18 n18 => ?_⟩
        have m4 := fresh_same (o := .lst ([.ref a4, v5, v6, .ref a1, .ref p2, .ref p3] ++ [.ref t4, .ref t6] ++ [.ref t8] ++ [.str x9, .int i10, v12] ++ [v16])) n18
        have M4 := m3.trans m4
        have all13 := ((mvA G14 z2 all12).app (.cons D16 .nil)).same M4
        have X18 : Ex1 p H' _ := X14.trans (z2.trans (ex1_of M4))
        have G18 := Feed.same G16 M4
        have fits : ∀ d ∈ ([.tuple ds4, d5, d6, .list ds4, .tuple (ds4 ++ [.tuple ds4]), .tuple (cutDs ds4 (some 1) none), .tuple [.str "plus", .tuple ds4, .tuple ds4], .tuple [.str "less", .tuple ds4, .tuple [.str "number", .int 0]]] ++
            [.tuple [.str "over", .tuple [.str "number", .int 0], .tuple ds4]] ++ [.str x9, .int i10, d12] ++ [d16] : List PyData), Fit 50 100000 50 d := fits_all f4 f5 f6 f12 f16 l9 l10
        refine ⟨_, rfl, c18, rfl, ⟨_, SqL.of upd_same⟩, fun D hD => ?_⟩
        refine lc_list (K := K) (a := c18) (fun i H' => Same _ H' ∧ H' D = some (.lst [])) ⟨fresh_same hD, upd_same⟩ (fun i H' _ z => SqL.of (z.1 _ _ upd_same)) ?_ ?_
        · rintro i x H20 hx ⟨s20, eD⟩
          obtain ⟨d, ed, hd⟩ := all13.at_ hx
          refine ⟨rfl, ?_⟩
          exact ⟨_, rfl, _, x, d, rfl, hd.same s20, fits d (List.mem_of_getElem? ed), fun H21 s21 => ⟨_, rfl, iteF ⟨s20.trans s21, s21 _ _ eD⟩⟩⟩
        · rintro H20 ⟨s20, eD⟩
          refine ⟨Nat.zero_le _, fun e0 ne0 => ?_⟩
          have m5 := fresh_same (o := .lst []) ne0
          refine ⟨D, e0, [], rfl, rfl, SqL.of (m5 _ _ eD), SqL.of upd_same, _, rfl, ?_⟩
          refine iteF ?_
          refine ⟨XX.trans (X18.trans (ex1_of (s20.trans m5))), (Feed.same G18 (s20.trans m5)).le ?_, _, _, _, _, rfl⟩
          omega
      · rintro σ H' ⟨XX, _, y3, y4, y5, y6, rfl⟩
        exact ⟨ex1_list np XX hS1, _, _, _, _, _, _, rfl⟩
    · rintro σ H1 ⟨hS1, x1, x2, x3, x4, x5, x6, rfl⟩
      exact ⟨_, _, _, _, _, _, _, _, rfl⟩
  rintro σ' H1 ⟨x1, x2, x3, x4, x5, x6, x7, x8, rfl⟩
  have P30 : (0 : Int) ≤ 30 ∧ (30 : Int) ≤ 1000000 ∧ (10 : Int).natAbs < 2 ^ 64 := ⟨by decide, by decide, by decide⟩
  refine ⟨(by show 0 ≤ sizeLine; decide), fun t1 n1 => ?_⟩
  have j1 := fresh_same (o := .tup []) n1
  refine ⟨(by show 0 ≤ sizeLine; decide), fun a2 n2 g2 => fun d3 n3 => ?_⟩
  have j2 := fresh_same (o := .lst []) n2
  have j3 := fresh_same (o := .dK []) n3
  refine ⟨(by show 1 ≤ sizeLine; decide), fun t4 n4 => ?_⟩
  have j4 := fresh_same (o := .tup [.str "a"]) n4
  refine fun p5 n5 => ⟨upd_same, [(Sum.inr "a", .int 1)], rfl, by decide, ?_⟩

  have e5 : mergeK [] ([(Sum.inr "a", V.int 1)] : List (Key × V)) = ([(Sum.inr "a", V.int 1)] : List (Key × V)) := by
    simp [mergeK, putK]
  rw [e5]
  have k5 := fresh_same (o := .dK []) n5
  have j5 : Same _ (upd (upd (upd (upd (upd (upd H1 t1 (.tup [])) a2 (.lst [])) d3 (.dK [])) t4 (.tup [.str "a"])) p5 (.dK [])) p5 (.dK [(Sum.inr "a", .int 1)])) := fun b u e => by
    rw [upd_ne (ne_of_none e n5)]
    exact k5 _ _ e
  refine ⟨10, 30, rfl, rfl, P30, (by show 16 ≤ sizeLine; decide), fun l6 n6 => ?_⟩
  have j6 := fresh_same (o := .lst [.non, .bl true, .bl false, .int 0, .str "", .str "a", .str "abcdefgh", .str "abcdefghi", .str "A", .str "~", .ref t1, .ref a2, .ref d3, .ref t4, .ref p5, .int (10 ^ 30)]) n6
  refine ⟨_, rfl, 10, 30, rfl, rfl, P30, _, _, rfl, rfl, 10, 30, rfl, rfl, P30, _, _, rfl, rfl, 10, 30, rfl, rfl, P30, _, _, rfl, rfl, (by show 2 ≤ sizeLine; decide), fun t7 n7 => ?_⟩
  have j7 := fresh_same (o := .tup [.str "number", .bl true]) n7
  refine ⟨(by show 3 ≤ sizeLine; decide), fun t8 n8 => ?_⟩
  have j8 := fresh_same (o := .tup [.str "cell", .str "a", .str "b"]) n8
  refine ⟨(by show 3 ≤ sizeLine; decide), fun a9 n9 g9 => ?_⟩
  have j9 := fresh_same (o := .lst [.str "cell", .str "a", .str "b"]) n9
  refine ⟨(by show 6 ≤ sizeLine; decide), fun l10 n10 => ?_⟩
  have j10 := fresh_same (o := .lst [.int (10 ^ 30 - 1), .int (1 - 10 ^ 30), .int (0 - 10 ^ 30), .ref t7, .ref t8, .ref a9]) n10
  refine ⟨l6, l10, _, _, rfl, rfl, (j7.trans (j8.trans (j9.trans j10))) _ _ upd_same, upd_same, (by show 22 ≤ sizeLine; decide), fun c11 n11 => ?_⟩
  have j11 := fresh_same (o := .lst ([.non, .bl true, .bl false, .int 0, .str "", .str "a", .str "abcdefgh", .str "abcdefghi", .str "A", .str "~", .ref t1, .ref a2, .ref d3, .ref t4, .ref p5, .int (10 ^ 30)] ++ [.int (10 ^ 30 - 1), .int (1 - 10 ^ 30), .int (0 - 10 ^ 30), .ref t7, .ref t8, .ref a9])) n11
  have K6 := j6.trans (j7.trans (j8.trans (j9.trans (j10.trans j11))))
  have K5 := j5.trans K6
  have K4 := j4.trans K5
  have K3 := j3.trans K4
  have K2 := j2.trans K3
  let F0 : Addr → Prop := fun _ => False
  have aa := DdAll.cons (K := K) (N := F0) .non (DdAll.cons (.bl true) (.cons (.bl false) (.cons (.int 0) (.cons (.str "") (.cons (.str "a") (.cons (.str "abcdefgh") (.cons (.str "abcdefghi") (.cons (.str "A") (.cons (.str "~")
    (.cons (.tup (SqT.of (K2 _ _ upd_same)) .nil) (.cons (.lst (K3 _ _ upd_same) (fun z => z) g2 .nil) (.cons (.dct0 (K4 _ _ upd_same) (fun z => z)) (.cons (.tup (SqT.of (K5 _ _ upd_same)) (.cons (.str "a") .nil))
    (.cons (.dct1 (K6 _ _ upd_same) (fun z => z)) (.cons (.int (10 ^ 30)) (.cons (.int (10 ^ 30 - 1)) (.cons (.int (1 - 10 ^ 30)) (.cons (.int (0 - 10 ^ 30))
    (.cons (.tup (SqT.of ((j8.trans (j9.trans (j10.trans j11))) _ _ upd_same)) (.cons (.str "number") (.cons (.bl true) .nil))) (.cons (.tup (SqT.of ((j9.trans (j10.trans j11)) _ _ upd_same)) (.cons (.str "cell") (.cons (.str "a") (.cons (.str "b") .nil))))
    (.cons (.lst ((j10.trans j11) _ _ upd_same) (fun z => z) g9 (.cons (.str "cell") (.cons (.str "a") (.cons (.str "b") .nil)))) .nil)))))))))))))))))))))
  refine ⟨_, rfl, rfl, fun l12 us ds H12 s12 e12 D12 f12 b12 => ?_⟩
  have e11 := s12 _ _ (upd_same (a := c11))
  refine ⟨c11, l12, _, _, rfl, rfl, e11, e12, ?_, fun c13 n13 => ?_⟩
  · show 22 + us.length ≤ 16777216
    omega
  have j13 := fresh_same (o := .lst ([.non, .bl true, .bl false, .int 0, .str "", .str "a", .str "abcdefgh", .str "abcdefghi", .str "A", .str "~", .ref t1, .ref a2, .ref d3, .ref t4, .ref p5, .int (10 ^ 30)] ++ [.int (10 ^ 30 - 1), .int (1 - 10 ^ 30), .int (0 - 10 ^ 30), .ref t7, .ref t8, .ref a9] ++ us)) n13
  have all := ((aa.same s12).app (DdAll.ofDp (N := F0) ds (all_tup f12) D12)).same j13
  refine ⟨c13, rfl, ⟨_, SqL.of upd_same⟩, fun D hD => ?_⟩
  refine lc_list (K := K) (a := c13) (fun i H' => Same _ H' ∧ H' D = some (.lst [])) ⟨fresh_same hD, upd_same⟩ (fun i H' _ z => SqL.of (z.1 _ _ upd_same)) ?_ ?_
  · rintro i x H20 hx ⟨s20, eD⟩
    obtain ⟨d, ed, hd⟩ := all.at_ hx
    refine ⟨rfl, ?_⟩
    refine ⟨_, rfl, _, x, d, rfl, hd.same s20, ?_, fun H21 s21 => ⟨_, rfl, iteF ⟨s20.trans s21, s21 _ _ eD⟩⟩⟩
    rcases List.mem_append.mp (List.mem_of_getElem? ed) with h | h
    · exact fixed_fit d h
    · exact (f12 d h).fit.mono (by omega) (by omega) (by omega)
  · rintro H20 ⟨s20, eD⟩
    refine ⟨Nat.zero_le _, fun e0 ne0 => ?_⟩
    exact ⟨D, e0, [], rfl, rfl, SqL.of (fresh_same ne0 _ _ eD), SqL.of upd_same, q _⟩
end
end K01
end

section
set_option Elab.async false
set_option linter.all false
set_option maxRecDepth 100000
set_option maxHeartbeats 8000000
namespace K01
open PySem PySem.Spec PyProof.Rows L2 Gd
theorem all_mk {l : PySem.W.OpenLaw} {w : World} {K : PySem.W.Frag} {h : Heap} {mg : Str → Option Value} {fa : Addr} {f0 f1 f2 f3 f4 f5 f6 f7 f8 f9 f10 f11 f12 f13 f14 f15 f16 f17 f18 pS : Addr} (X : K.In h) (G : h.Ns mainGlobals mg) (hfa : mg "law" = some (.ref fa))
    {od0 an0 od1 an1 od2 an2 od3 an3 od4 an4 od5 an5 od6 an6 od7 an7 od8 an8 od9 an9 od10 an10 od11 an11 od12 an12 od13 an13 od14 an14 od15 an15 od16 an16 od17 an17 od18 an18 ddS : Option Addr} {sl0 sl1 sl2 sl3 sl4 sl5 sl6 sl7 sl8 sl9 sl10 sl11 sl12 sl13 sl14 sl15 sl16 sl17 sl18 slS : Array (Option Value)} {oc0 kV0 dc0 pm0 cd0 ct0 oc1 kV1 dc1 pm1 cd1 ct1 oc2 kV2 dc2 pm2 cd2 ct2 oc3 kV3 dc3 pm3 cd3 ct3 oc4 kV4 dc4 pm4 cd4 ct4 oc5 kV5 dc5 pm5 cd5 ct5 oc6 kV6 dc6 pm6 cd6 ct6 oc7 kV7 dc7 pm7 cd7 ct7 oc8 kV8 dc8 pm8 cd8 ct8 oc9 kV9 dc9 pm9 cd9 ct9 oc10 kV10 dc10 pm10 cd10 ct10 oc11 kV11 dc11 pm11 cd11 ct11 oc12 kV12 dc12 pm12 cd12 ct12 oc13 kV13 dc13 pm13 cd13 ct13 oc14 kV14 dc14 pm14 cd14 ct14 oc15 kV15 dc15 pm15 cd15 ct15 oc16 kV16 dc16 pm16 cd16 ct16 oc17 kV17 dc17 pm17 cd17 ct17 oc18 kV18 dc18 pm18 cd18 ct18 : Value} {tL tN tG tD tM t1 t2 t3 t4 : Tok} {nnS : Nat}
    (aF0 : PySem.W.nsIn K mainGlobals "is_name" = some (some (.ref f0)))
    (lF0 : K.lookup f0 = some ⟨oc0, od0, .func (PySem.W.fnOf "is_name" "is_name" (defArgs sName) (defBody sName) (defScope sName) .none kV0 dc0 pm0 an0 cd0 ct0), sl0⟩)
    (cF0 : PySem.W.codeIn K cd0 "is_name" = true)
    (kF0 : PySem.W.keepIn K (.ref f0) = true)
    (aF1 : PySem.W.nsIn K mainGlobals "is_whole" = some (some (.ref f1)))
    (lF1 : K.lookup f1 = some ⟨oc1, od1, .func (PySem.W.fnOf "is_whole" "is_whole" (defArgs sWhole) (defBody sWhole) (defScope sWhole) .none kV1 dc1 pm1 an1 cd1 ct1), sl1⟩)
    (cF1 : PySem.W.codeIn K cd1 "is_whole" = true)
    (kF1 : PySem.W.keepIn K (.ref f1) = true)
    (aF2 : PySem.W.nsIn K mainGlobals "is_number" = some (some (.ref f2)))
    (lF2 : K.lookup f2 = some ⟨oc2, od2, .func (PySem.W.fnOf "is_number" "is_number" (defArgs sNumber) (defBody sNumber) (defScope sNumber) .none kV2 dc2 pm2 an2 cd2 ct2), sl2⟩)
    (cF2 : PySem.W.codeIn K cd2 "is_number" = true)
    (kF2 : PySem.W.keepIn K (.ref f2) = true)
    (aF3 : PySem.W.nsIn K mainGlobals "is_worth" = some (some (.ref f3)))
    (lF3 : K.lookup f3 = some ⟨oc3, od3, .func (PySem.W.fnOf "is_worth" "is_worth" (defArgs sWorth) (defBody sWorth) (defScope sWorth) .none kV3 dc3 pm3 an3 cd3 ct3), sl3⟩)
    (cF3 : PySem.W.codeIn K cd3 "is_worth" = true)
    (kF3 : PySem.W.keepIn K (.ref f3) = true)
    (aF4 : PySem.W.nsIn K mainGlobals "is_part" = some (some (.ref f4)))
    (lF4 : K.lookup f4 = some ⟨oc4, od4, .func (PySem.W.fnOf "is_part" "is_part" (defArgs sPart) (defBody sPart) (defScope sPart) .none kV4 dc4 pm4 an4 cd4 ct4), sl4⟩)
    (cF4 : PySem.W.codeIn K cd4 "is_part" = true)
    (kF4 : PySem.W.keepIn K (.ref f4) = true)
    (aF5 : PySem.W.nsIn K mainGlobals "_count_parts" = some (some (.ref f5)))
    (lF5 : K.lookup f5 = some ⟨oc5, od5, .func (PySem.W.fnOf "_count_parts" "_count_parts" (defArgs sCount) (defBody sCount) (defScope sCount) .none kV5 dc5 pm5 an5 cd5 ct5), sl5⟩)
    (cF5 : PySem.W.codeIn K cd5 "_count_parts" = true)
    (kF5 : PySem.W.keepIn K (.ref f5) = true)
    (aF6 : PySem.W.nsIn K mainGlobals "_law_feed" = some (some (.ref f6)))
    (lF6 : K.lookup f6 = some ⟨oc6, od6, .func (PySem.W.fnOf "_law_feed" "_law_feed" (defArgs sFeed) (defBody sFeed) (defScope sFeed) .none kV6 dc6 pm6 an6 cd6 ct6), sl6⟩)
    (cF6 : PySem.W.codeIn K cd6 "_law_feed" = true)
    (kF6 : PySem.W.keepIn K (.ref f6) = true)
    (aF7 : PySem.W.nsIn K mainGlobals "_law_take" = some (some (.ref f7)))
    (lF7 : K.lookup f7 = some ⟨oc7, od7, .func (PySem.W.fnOf "_law_take" "_law_take" (defArgs sTake) (defBody sTake) (defScope sTake) .none kV7 dc7 pm7 an7 cd7 ct7), sl7⟩)
    (cF7 : PySem.W.codeIn K cd7 "_law_take" = true)
    (kF7 : PySem.W.keepIn K (.ref f7) = true)
    (aF8 : PySem.W.nsIn K mainGlobals "_law_label" = some (some (.ref f8)))
    (lF8 : K.lookup f8 = some ⟨oc8, od8, .func (PySem.W.fnOf "_law_label" "_law_label" (defArgs sLabel) (defBody sLabel) (defScope sLabel) .none kV8 dc8 pm8 an8 cd8 ct8), sl8⟩)
    (cF8 : PySem.W.codeIn K cd8 "_law_label" = true)
    (kF8 : PySem.W.keepIn K (.ref f8) = true)
    (aF9 : PySem.W.nsIn K mainGlobals "_law_number" = some (some (.ref f9)))
    (lF9 : K.lookup f9 = some ⟨oc9, od9, .func (PySem.W.fnOf "_law_number" "_law_number" (defArgs sNum) (defBody sNum) (defScope sNum) .none kV9 dc9 pm9 an9 cd9 ct9), sl9⟩)
    (cF9 : PySem.W.codeIn K cd9 "_law_number" = true)
    (kF9 : PySem.W.keepIn K (.ref f9) = true)
    (aF10 : PySem.W.nsIn K mainGlobals "_law_piece" = some (some (.ref f10)))
    (lF10 : K.lookup f10 = some ⟨oc10, od10, .func (PySem.W.fnOf "_law_piece" "_law_piece" (defArgs sPiece) (defBody sPiece) (defScope sPiece) .none kV10 dc10 pm10 an10 cd10 ct10), sl10⟩)
    (cF10 : PySem.W.codeIn K cd10 "_law_piece" = true)
    (kF10 : PySem.W.keepIn K (.ref f10) = true)
    (aF11 : PySem.W.nsIn K mainGlobals "_law_odd" = some (some (.ref f11)))
    (lF11 : K.lookup f11 = some ⟨oc11, od11, .func (PySem.W.fnOf "_law_odd" "_law_odd" (defArgs sOdd) (defBody sOdd) (defScope sOdd) .none kV11 dc11 pm11 an11 cd11 ct11), sl11⟩)
    (cF11 : PySem.W.codeIn K cd11 "_law_odd" = true)
    (kF11 : PySem.W.keepIn K (.ref f11) = true)
    (aF12 : PySem.W.nsIn K mainGlobals "_law_bent" = some (some (.ref f12)))
    (lF12 : K.lookup f12 = some ⟨oc12, od12, .func (PySem.W.fnOf "_law_bent" "_law_bent" (defArgs sBent) (defBody sBent) (defScope sBent) .none kV12 dc12 pm12 an12 cd12 ct12), sl12⟩)
    (cF12 : PySem.W.codeIn K cd12 "_law_bent" = true)
    (kF12 : PySem.W.keepIn K (.ref f12) = true)
    (aF13 : PySem.W.nsIn K mainGlobals "_law_is_whole" = some (some (.ref f13)))
    (lF13 : K.lookup f13 = some ⟨oc13, od13, .func (PySem.W.fnOf "_law_is_whole" "_law_is_whole" (defArgs sLWhole) (defBody sLWhole) (defScope sLWhole) .none kV13 dc13 pm13 an13 cd13 ct13), sl13⟩)
    (cF13 : PySem.W.codeIn K cd13 "_law_is_whole" = true)
    (kF13 : PySem.W.keepIn K (.ref f13) = true)
    (aF14 : PySem.W.nsIn K mainGlobals "_law_is_label" = some (some (.ref f14)))
    (lF14 : K.lookup f14 = some ⟨oc14, od14, .func (PySem.W.fnOf "_law_is_label" "_law_is_label" (defArgs sLLabel) (defBody sLLabel) (defScope sLLabel) .none kV14 dc14 pm14 an14 cd14 ct14), sl14⟩)
    (cF14 : PySem.W.codeIn K cd14 "_law_is_label" = true)
    (kF14 : PySem.W.keepIn K (.ref f14) = true)
    (aF15 : PySem.W.nsIn K mainGlobals "_law_is_piece" = some (some (.ref f15)))
    (lF15 : K.lookup f15 = some ⟨oc15, od15, .func (PySem.W.fnOf "_law_is_piece" "_law_is_piece" (defArgs sLPiece) (defBody sLPiece) (defScope sLPiece) .none kV15 dc15 pm15 an15 cd15 ct15), sl15⟩)
    (cF15 : PySem.W.codeIn K cd15 "_law_is_piece" = true)
    (kF15 : PySem.W.keepIn K (.ref f15) = true)
    (aF16 : PySem.W.nsIn K mainGlobals "_law_right" = some (some (.ref f16)))
    (lF16 : K.lookup f16 = some ⟨oc16, od16, .func (PySem.W.fnOf "_law_right" "_law_right" (defArgs sRight) (defBody sRight) (defScope sRight) .none kV16 dc16 pm16 an16 cd16 ct16), sl16⟩)
    (cF16 : PySem.W.codeIn K cd16 "_law_right" = true)
    (kF16 : PySem.W.keepIn K (.ref f16) = true)
    (aF17 : PySem.W.nsIn K mainGlobals "_law_sizes" = some (some (.ref f17)))
    (lF17 : K.lookup f17 = some ⟨oc17, od17, .func (PySem.W.fnOf "_law_sizes" "_law_sizes" (defArgs sSizes) (defBody sSizes) (defScope sSizes) .none kV17 dc17 pm17 an17 cd17 ct17), sl17⟩)
    (cF17 : PySem.W.codeIn K cd17 "_law_sizes" = true)
    (kF17 : PySem.W.keepIn K (.ref f17) = true)
    (aF18 : PySem.W.nsIn K mainGlobals "law" = some (some (.ref f18)))
    (lF18 : K.lookup f18 = some ⟨oc18, od18, .func (PySem.W.fnOf "law" "law" (defArgs sLaw) (defBody sLaw) (defScope sLaw) .none kV18 dc18 pm18 an18 cd18 ct18), sl18⟩)
    (cF18 : PySem.W.codeIn K cd18 "law" = true)
    (kF18 : PySem.W.keepIn K (.ref f18) = true)
    (nL : PySem.W.nsIn K mainGlobals "_LETTERS" = some (some (.str "abcdefghijklmnopqrstuvwxyz" tL)))
    (nN : PySem.W.nsIn K mainGlobals "_LONGEST_NAME" = some (some (.int 8 tN)))
    (nG : PySem.W.nsIn K mainGlobals "_TOO_GREAT" = some (some (.int 1000000000000000000000000000000 tG)))
    (nD : PySem.W.nsIn K mainGlobals "_DEEPEST" = some (some (.int 5 tD)))
    (nM : PySem.W.nsIn K mainGlobals "_MOST_PARTS" = some (some (.int 15 tM)))
    (nS : PySem.W.nsIn K mainGlobals "_SIGNS" = some (some (.ref pS)))
    (lS : K.lookup pS = some ⟨.type "tuple", ddS, .seq #[.str "plus" t1, .str "less" t2, .str "times" t3, .str "over" t4] nnS, slS⟩)
    (z_isinstance : PySem.W.nsIn K mainGlobals "isinstance" = some none)
    (z_str : PySem.W.nsIn K mainGlobals "str" = some none)
    (z_int : PySem.W.nsIn K mainGlobals "int" = some none)
    (z_bool : PySem.W.nsIn K mainGlobals "bool" = some none)
    (z_tuple : PySem.W.nsIn K mainGlobals "tuple" = some none)
    (z_len : PySem.W.nsIn K mainGlobals "len" = some none)
    (z_all : PySem.W.nsIn K mainGlobals "all" = some none)
    (z_abs : PySem.W.nsIn K mainGlobals "abs" = some none)
    (z_range : PySem.W.nsIn K mainGlobals "range" = some none)
    (z_list : PySem.W.nsIn K mainGlobals "list" = some none)
    (z_repr : PySem.W.nsIn K mainGlobals "repr" = some none)
    (z_min : PySem.W.nsIn K mainGlobals "min" = some none)
    (z_max : PySem.W.nsIn K mainGlobals "max" = some none) :
    ∃ fd : FuncData, (∀ (s : Shared) (v : Value), BindsTo s fd ⟨[v], []⟩ [("_law_script", v)]) ∧ ∀ base : Heap, K.In base → base.Ns mainGlobals mg → FnG l.prog w K mg base CX0 13 fa fd ["_law_script"] (spLaw K) := by
  have e := hfa.symm.trans (PySem.W.mg_of X G aF18)
  cases e
  have F0 := fun_mk (st := sName) lF0 cF0 kF0
  have b0 := F0.binds (ps := ["thing"]) fun _ _ _ _ _ _ us hl => match us, hl with | [_], _ => rfl
  have m0 := PySem.W.mg_of X G aF0
  have F1 := fun_mk (st := sWhole) lF1 cF1 kF1
  have b1 := F1.binds (ps := ["thing"]) fun _ _ _ _ _ _ us hl => match us, hl with | [_], _ => rfl
  have m1 := PySem.W.mg_of X G aF1
  have F2 := fun_mk (st := sNumber) lF2 cF2 kF2
  have b2 := F2.binds (ps := ["thing"]) fun _ _ _ _ _ _ us hl => match us, hl with | [_], _ => rfl
  have m2 := PySem.W.mg_of X G aF2
  have F3 := fun_mk (st := sWorth) lF3 cF3 kF3
  have b3 := F3.binds (ps := ["thing"]) fun _ _ _ _ _ _ us hl => match us, hl with | [_], _ => rfl
  have m3 := PySem.W.mg_of X G aF3
  have F4 := fun_mk (st := sPart) lF4 cF4 kF4
  have b4 := F4.binds (ps := ["thing"]) fun _ _ _ _ _ _ us hl => match us, hl with | [_], _ => rfl
  have m4 := PySem.W.mg_of X G aF4
  have F5 := fun_mk (st := sCount) lF5 cF5 kF5
  have b5 := F5.binds (ps := ["thing", "deep"]) fun _ _ _ _ _ _ us hl => match us, hl with | [_, _], _ => rfl
  have m5 := PySem.W.mg_of X G aF5
  have F6 := fun_mk (st := sFeed) lF6 cF6 kF6
  have b6 := F6.binds (ps := ["_law_script", "_law_k"]) fun _ _ _ _ _ _ us hl => match us, hl with | [_, _], _ => rfl
  have m6 := PySem.W.mg_of X G aF6
  have F7 := fun_mk (st := sTake) lF7 cF7 kF7
  have b7 := F7.binds (ps := ["_law_feed_here", "_law_many"]) fun _ _ _ _ _ _ us hl => match us, hl with | [_, _], _ => rfl
  have m7 := PySem.W.mg_of X G aF7
  have F8 := fun_mk (st := sLabel) lF8 cF8 kF8
  have b8 := F8.binds (ps := ["_law_feed_here"]) fun _ _ _ _ _ _ us hl => match us, hl with | [_], _ => rfl
  have m8 := PySem.W.mg_of X G aF8
  have F9 := fun_mk (st := sNum) lF9 cF9 kF9
  have b9 := F9.binds (ps := ["_law_feed_here"]) fun _ _ _ _ _ _ us hl => match us, hl with | [_], _ => rfl
  have m9 := PySem.W.mg_of X G aF9
  have F10 := fun_mk (st := sPiece) lF10 cF10 kF10
  have b10 := F10.binds (ps := ["_law_feed_here", "_law_deep", "_law_room"]) fun _ _ _ _ _ _ us hl => match us, hl with | [_, _, _], _ => rfl
  have m10 := PySem.W.mg_of X G aF10
  have F11 := fun_mk (st := sOdd) lF11 cF11 kF11
  have b11 := F11.binds (ps := ["_law_feed_here", "_law_so_now"]) fun _ _ _ _ _ _ us hl => match us, hl with | [_, _], _ => rfl
  have m11 := PySem.W.mg_of X G aF11
  have F12 := fun_mk (st := sBent) lF12 cF12 kF12
  have b12 := F12.binds (ps := ["_law_feed_here", "_law_so_now"]) fun _ _ _ _ _ _ us hl => match us, hl with | [_, _], _ => rfl
  have m12 := PySem.W.mg_of X G aF12
  have F13 := fun_mk (st := sLWhole) lF13 cF13 kF13
  have b13 := F13.binds (ps := ["_law_so_now", "_law_most"]) fun _ _ _ _ _ _ us hl => match us, hl with | [_, _], _ => rfl
  have m13 := PySem.W.mg_of X G aF13
  have F14 := fun_mk (st := sLLabel) lF14 cF14 kF14
  have b14 := F14.binds (ps := ["_law_so_now"]) fun _ _ _ _ _ _ us hl => match us, hl with | [_], _ => rfl
  have m14 := PySem.W.mg_of X G aF14
  have F15 := fun_mk (st := sLPiece) lF15 cF15 kF15
  have b15 := F15.binds (ps := ["_law_so_now"]) fun _ _ _ _ _ _ us hl => match us, hl with | [_], _ => rfl
  have m15 := PySem.W.mg_of X G aF15
  have F16 := fun_mk (st := sRight) lF16 cF16 kF16
  have b16 := F16.binds (ps := ["_law_so_now"]) fun _ _ _ _ _ _ us hl => match us, hl with | [_], _ => rfl
  have m16 := PySem.W.mg_of X G aF16
  have F17 := fun_mk (st := sSizes) lF17 cF17 kF17
  have b17 := F17.binds (ps := []) fun _ _ _ _ _ _ us hl => match us, hl with | [], _ => rfl
  have m17 := PySem.W.mg_of X G aF17
  have F18 := fun_mk (st := sLaw) lF18 cF18 kF18
  have m18 := PySem.W.mg_of X G aF18
  have kw4 := kw_of (k := "thing") F4 fun _ _ _ _ _ _ _ => rfl
  have kw0 := kw_of (k := "thing") F0 fun _ _ _ _ _ _ _ => rfl
  have kw3 := kw_of (k := "thing") F3 fun _ _ _ _ _ _ _ => rfl
  have y_isinstance := PySem.W.mg_none_of X G z_isinstance
  have y_str := PySem.W.mg_none_of X G z_str
  have y_int := PySem.W.mg_none_of X G z_int
  have y_bool := PySem.W.mg_none_of X G z_bool
  have y_tuple := PySem.W.mg_none_of X G z_tuple
  have y_len := PySem.W.mg_none_of X G z_len
  have y_all := PySem.W.mg_none_of X G z_all
  have y_abs := PySem.W.mg_none_of X G z_abs
  have y_range := PySem.W.mg_none_of X G z_range
  have y_list := PySem.W.mg_none_of X G z_list
  have y_repr := PySem.W.mg_none_of X G z_repr
  have y_min := PySem.W.mg_none_of X G z_min
  have y_max := PySem.W.mg_none_of X G z_max
  have C : Cs K mg pS := ⟨⟨_, PySem.W.mg_of X G nL⟩, ⟨_, PySem.W.mg_of X G nN⟩, ⟨_, PySem.W.mg_of X G nG⟩, ⟨_, PySem.W.mg_of X G nD⟩, ⟨_, PySem.W.mg_of X G nM⟩, PySem.W.mg_of X G nS,
    y_isinstance, y_str, y_int, y_bool, y_tuple, y_len, y_all, y_abs, fun H => .inr ⟨_, _, _, lS, rfl, rfl, (by show 4 ≤ sizeLine; decide), .cons ⟨_, rfl⟩ (.cons ⟨_, rfl⟩ (.cons ⟨_, rfl⟩ (.cons ⟨_, rfl⟩ .nil)))⟩⟩
  have B : Bo mg := ⟨y_isinstance, y_int, y_str, y_tuple, y_list, y_len⟩
  have Y : Ml mg := ⟨y_len, y_range, y_min, y_max, y_list⟩
  refine ⟨PySem.W.fnOf "law" "law" (defArgs sLaw) (defBody sLaw) (defScope sLaw) .none kV18 dc18 pm18 an18 cd18 ct18, fun s v => .of_eq rfl, fun base _ _ => ?_⟩
  have gName := ok_name (P := l.prog) (w := w) (base := base) F0 C
  have gNum := ok_number (P := l.prog) (w := w) (base := base) F2 C F1 b1 m1
  have gWor := ok_worth (P := l.prog) (w := w) (base := base) F3 gNum F2 b2 m2
  have gCnt := ok_count (P := l.prog) (w := w) (base := base) F5 C b5 m5 gNum F2 b2 m2 gName F0 b0 m0 6
  have gPart := ok_part (P := l.prog) (w := w) (base := base) F4 C gCnt F5 b5 m5
  have gLW := ok_lwhole (P := l.prog) (w := w) (base := base) F13 C
  have gLL := ok_llabel (P := l.prog) (w := w) (base := base) F14 C
  have gLP := ok_lpiece (P := l.prog) (w := w) (base := base) F15 C gLW F13 b13 m13 gLL F14 b14 m14
  have gFeed := ok_feed (P := l.prog) (w := w) (base := base) F6 y_len y_abs
  have gLab := ok_label (P := l.prog) (w := w) (base := base) F8 F7 b7 m7 y_range
  have gLN := ok_num (P := l.prog) (w := w) (base := base) F9 F7 b7 m7
  have gPc := ok_piece (P := l.prog) (w := w) (base := base) F10 b10 m10 F7 b7 m7 gLab F8 b8 m8 gLN F9 b9 m9 5
  have gOdd := ok_odd (P := l.prog) (w := w) (base := base) F11 B F7 b7 m7
  have gBent := ok_bent (P := l.prog) (w := w) (base := base) F12 B b12 m12 F7 b7 m7 gOdd F11 b11 m11 10
  have gSz := ok_sizes (P := l.prog) (w := w) (base := base) F17 y_range
  have gR := ok_right (P := l.prog) (w := w) (base := base) F16 y_repr y_range F15 gLP b15 m15 F14 gLL b14 m14 F13 gLW b13 m13
    F4 gPart b4 kw4 m4 F0 gName b0 kw0 m0 F3 gWor b3 kw3 m3
  exact ok_law F18 Y F6 gFeed b6 m6 F7 b7 m7 F8 gLab b8 m8 F9 gLN b9 m9
    F10 gPc b10 m10 F11 gOdd b11 m11 F12 gBent b12 m12 F16 (gR.mono (by decide)) b16 m16
    F17 gSz b17 m17 F4 gPart b4 m4
end K01
open PySem PySem.W PyProof.Rows
set_option maxRecDepth 100000 in
set_option maxHeartbeats 0 in
theorem PySem.Challenge.cw_plansamid_k01_worths_and_parts_known_holds : PySem.Challenge.rw_plansamid_k01_worths_and_parts_known.Holds := by
  w_on; o_law; k_head; (case hw => w_witness2)
  k_fill
  refine Gd.walkG (l := PySem.Challenge.rw_plansamid_k01_worths_and_parts_known) (m := 63) (n := 13) (x := "_law_script") (sp := K01.spLaw) rfl (by decide) rfl ⟨rfl, by decide, by decide⟩ (fun w h Y => PySem.W.kIn_of Y) ?F ?S
  case S =>
    intro K H a ns h1 _ _ h4
    exact ⟨a, ns, rfl, h4, h1, fun _ => rfl⟩
  case F =>
    intro w mg fa h KX G hmg
    refine' K01.all_mk KX G hmg ?aF0 ?lF0 ?cF0 ?kF0 ?aF1 ?lF1 ?cF1 ?kF1 ?aF2 ?lF2 ?cF2 ?kF2 ?aF3 ?lF3 ?cF3 ?kF3 ?aF4 ?lF4 ?cF4 ?kF4 ?aF5 ?lF5 ?cF5 ?kF5 ?aF6 ?lF6 ?cF6 ?kF6 ?aF7 ?lF7 ?cF7 ?kF7 ?aF8 ?lF8 ?cF8 ?kF8 ?aF9 ?lF9 ?cF9 ?kF9 ?aF10 ?lF10 ?cF10 ?kF10 ?aF11 ?lF11 ?cF11 ?kF11 ?aF12 ?lF12 ?cF12 ?kF12 ?aF13 ?lF13 ?cF13 ?kF13 ?aF14 ?lF14 ?cF14 ?kF14 ?aF15 ?lF15 ?cF15 ?kF15 ?aF16 ?lF16 ?cF16 ?kF16 ?aF17 ?lF17 ?cF17 ?kF17 ?aF18 ?lF18 ?cF18 ?kF18 ?nL ?nN ?nG ?nD ?nM ?nS ?lS ?z_isinstance ?z_str ?z_int ?z_bool ?z_tuple ?z_len ?z_all ?z_abs ?z_range ?z_list ?z_repr ?z_min ?z_max
    (case aF0 => k_is)
    (case lF0 => k_is)
    (case cF0 => k_is)
    (case kF0 => k_is)
    (case aF1 => k_is)
    (case lF1 => k_is)
    (case cF1 => k_is)
    (case kF1 => k_is)
    (case aF2 => k_is)
    (case lF2 => k_is)
    (case cF2 => k_is)
    (case kF2 => k_is)
    (case aF3 => k_is)
    (case lF3 => k_is)
    (case cF3 => k_is)
    (case kF3 => k_is)
    (case aF4 => k_is)
    (case lF4 => k_is)
    (case cF4 => k_is)
    (case kF4 => k_is)
    (case aF5 => k_is)
    (case lF5 => k_is)
    (case cF5 => k_is)
    (case kF5 => k_is)
    (case aF6 => k_is)
    (case lF6 => k_is)
    (case cF6 => k_is)
    (case kF6 => k_is)
    (case aF7 => k_is)
    (case lF7 => k_is)
    (case cF7 => k_is)
    (case kF7 => k_is)
    (case aF8 => k_is)
    (case lF8 => k_is)
    (case cF8 => k_is)
    (case kF8 => k_is)
    (case aF9 => k_is)
    (case lF9 => k_is)
    (case cF9 => k_is)
    (case kF9 => k_is)
    (case aF10 => k_is)
    (case lF10 => k_is)
    (case cF10 => k_is)
    (case kF10 => k_is)
    (case aF11 => k_is)
    (case lF11 => k_is)
    (case cF11 => k_is)
    (case kF11 => k_is)
    (case aF12 => k_is)
    (case lF12 => k_is)
    (case cF12 => k_is)
    (case kF12 => k_is)
    (case aF13 => k_is)
    (case lF13 => k_is)
    (case cF13 => k_is)
    (case kF13 => k_is)
    (case aF14 => k_is)
    (case lF14 => k_is)
    (case cF14 => k_is)
    (case kF14 => k_is)
    (case aF15 => k_is)
    (case lF15 => k_is)
    (case cF15 => k_is)
    (case kF15 => k_is)
    (case aF16 => k_is)
    (case lF16 => k_is)
    (case cF16 => k_is)
    (case kF16 => k_is)
    (case aF17 => k_is)
    (case lF17 => k_is)
    (case cF17 => k_is)
    (case kF17 => k_is)
    (case aF18 => k_is)
    (case lF18 => k_is)
    (case cF18 => k_is)
    (case kF18 => k_is)
    (case nL => k_is)
    (case nN => k_is)
    (case nG => k_is)
    (case nD => k_is)
    (case nM => k_is)
    (case nS => k_is)
    (case lS => k_is)
    (case z_isinstance => k_is)
    (case z_str => k_is)
    (case z_int => k_is)
    (case z_bool => k_is)
    (case z_tuple => k_is)
    (case z_len => k_is)
    (case z_all => k_is)
    (case z_abs => k_is)
    (case z_range => k_is)
    (case z_list => k_is)
    (case z_repr => k_is)
    (case z_min => k_is)
    (case z_max => k_is)
end
