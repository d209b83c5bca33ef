import PyProof.Rows.All
import Wide.All
import OpenK.AllK
import Wide.FinOn
import HandS.ForMost
import HandS.ForExc
import HandS.EndBits
import HandS.Lambda
import HandS.EndTab
import HandS.IsInst
import KE.SortData
import PyProof.Rows.StrMeet
import PyProof.ReprRoads
import HandS.ExcInit
import KE.KExcMake
import KE.KExcIs
import KE.KTryMore
import HandS.TryOnly
import PyProof.Rows.CatchTuple
import HandS.SetFor
import PyProof.ReprLen
import HandS.TupAny
import PyProof.Rows.IntBool
import KE.KRevSl
import HandS.Style
import PyProof.FitsInt
import PyProof.NeKinds
import HandS.Codes
import HandS.Text
import HandS.Walk
import HandS.Conv
import HandS.TupSets
import HandS.Strs
import HandS.SetKeys
import HandS.Defaults
import HandS.Words
import HandS.WordsDict
import HandS.ExcIs
import HandS.Flow
import HandS.MakeKwOnly
import PySem.Challenge.RW_plansamid_k07_rows_at_each_moment

section
set_option Elab.async false
set_option linter.all false
set_option maxRecDepth 100000
set_option maxHeartbeats 4000000
/-! A def's promise where no text of a container is being put together around it (so that repr is served). -/
namespace Gd
open PySem PySem.Spec PyProof.Rows L2

/-- no container is amid its own text -/
def Free (A : Around) : Prop := A.guards = some []

structure FnG (P : Program) (w : World) (K : PySem.W.Frag) (mg : Str → Option Value)
    (base : Heap) (cx : CXT) (n : Nat) (f : Addr) (fd : FuncData) (ps : List Str) (sp : Sp) : Prop where
  len : ∀ vs H Q E, sp vs H Q E → vs.length = ps.length
  run : ∀ (A : Around) (out : List Env) (s : Shared) (H : Hp) (args : Args) (us : List Value)
      (vs : List V) (Q : VK) (E : XK), Free A → Room n A → Env0 P w K mg base A out s H →
      BindsTo s fd args (ps.zip us) → Vals vs us → sp vs H Q E →
      codeAny (model P w) A (.call (.ref f) args) (CR cx out P w H s Q E) s

section
variable {P : Program} {w : World} {K : PySem.W.Frag} {mg : Str → Option Value} {base : Heap} {cx : CXT}
theorem FnG.ofOk {n : Nat} {f : Addr} {fd : FuncData} {ps : List Str} {sp : Sp}
    (F : FnOk P w K mg base cx n f fd ps sp) : FnG P w K mg base cx n f fd ps sp :=
  ⟨F.len, fun A out s H args us vs Q E _ => F.run A out s H args us vs Q E⟩
theorem FnG.mono {m n : Nat} {f : Addr} {fd : FuncData} {ps : List Str} {sp : Sp}
    (F : FnG P w K mg base cx m f fd ps sp) (h : m ≤ n) : FnG P w K mg base cx n f fd ps sp :=
  ⟨F.len, fun A out s H args us vs Q E g r => F.run A out s H args us vs Q E g (r.mono h)⟩
end

section
variable {X : Cx} {cx : CXT} {n : Nat} {f : Addr} {fd : FuncData} {ps : List Str} {sp : Sp}
  {dvs : List V} {ds : List Value} {E : XK} {x : Str} {p pos : Pos} {e : Expr} {es : List Expr} {t : TA}

theorem run_g {pins : List (Addr × Obj)} {σ : L2.St} {H : Hp} {s : Shared} {Q : VK} {us : List Value} {vs : List V}
    (F : FnG X.prog X.w X.K X.mg X.base cx n f fd ps sp) (g : Free X.A) (hr : Room n X.A)
    (hb : Binds X.K fd ps ds) (hd : Vals dvs ds) (hx : Passes cx X E)
    (I : Inv X pins σ H s) (r : Vals vs us) (h : sp (vs ++ dvs) H Q E) :
    wpAny (model X.prog X.w) X.A (call (.ref f) us) (EP X pins σ Q) X.xe s := by
  have rr : Vals (vs ++ dvs) (us ++ ds) := r.append hd
  have hl : (us ++ ds).length = ps.length := (Paired.length rr).symm.trans (F.len _ _ _ _ h)
  have all := F.run X.A X.stack s H ⟨us, []⟩ (us ++ ds) (vs ++ dvs) Q E g hr I.env0 (hb s us I.kIn hl) rr h
  refine wpAny_call (codeAny_mono all ?_)
  intro o s' z
  cases o with
  | error er => exact hx pins σ H s er s' I z
  | ok fl =>
    cases fl with
    | ret u => exact I.after z
    | _ => exact False.elim z

theorem pe_callG (F : FnG X.prog X.w X.K X.mg X.base cx n f fd ps sp) (g : Free X.A) (hr : Room n X.A)
    (hg : Gl X x) (hm : X.mg x = some (.ref f)) (hk : PySem.W.keepIn X.K (.ref f) = true)
    (hb : Binds X.K fd ps ds) (hd : Vals dvs ds) (hx : Passes cx X E) (ha : PA X (e :: es) t)
    (hdb : (x == ("__debug__" : Str)) = false := by decide)
    (he : starEach (e :: es) X.env = (false, eval e X.env) :: starEach es X.env := by rfl)
    (hpl : (backTo pos (starEach es X.env)).any (·.1) = false := by rfl) :
    PE X (.Call (.Name x p) (e :: es) [] pos) (tCall sp dvs E t) := by
  constructor
  intro pins s σ H Q I h
  refine wpAny_Call_Name_kw (ld_glob I hg hm ?_ hdb)
  have args := ha.run pos pins s σ H _ I h
  refine PySem.W.callWith_K (h₀ := X.base) I.ok.mod.kin hk (thn args ?_) he hpl
  rintro us s1 ⟨vs, H1, J, r, q⟩
  exact ⟨J.kIn, run_g F g hr hb hd hx J r q⟩
end

/-! ### by the body -/
section
variable {P : Program} {w : World} {K : PySem.W.Frag} {mg : Str → Option Value} {base : Heap}
theorem FnG.body {cx : CXT} {n : Nat} {f : Addr} {nm ql : Str} {pr : Arguments} {bd : List Stmt} {sc : Scope}
    {dV kV dc pm cv ct oc : Value} {an od : Option Addr} {sl : Array (Option Value)} {N ps : List Str} {sp : Sp}
    (lk : K.lookup f = some ⟨oc, od, .func (PySem.W.fnOf nm ql pr bd sc dV kV dc pm an cv ct), sl⟩)
    (hc : PySem.W.codeIn K cv ql = true) (S : FnScope N ps sc) (len : ∀ vs H Q E, sp vs H Q E → vs.length = ps.length)
    (hb : ∀ (A : Around) (out : List Env) (s : Shared) (H : Hp) (vs : List V) (Q : VK) (E : XK),
      Free (A.deeper (envOfC ql sc s.heap.objs.size f cv)) → Room n (A.deeper (envOfC ql sc s.heap.objs.size f cv)) →
      sp vs H Q E → ∃ t, PSs (cxOf cx P w K mg base N ql sc f cv A out s H E) bd t ∧
        t { nx := fun _ H' => Q .non H', rt := Q } (start N vs) H) :
    FnG P w K mg base cx (n + 1) f (PySem.W.fnOf nm ql pr bd sc dV kV dc pm an cv ct) ps sp := by
  refine ⟨len, ?_⟩
  intro A out s H args us vs Q E g hr e0 hbd r hsp
  have hl := len _ _ _ _ hsp
  have KX : K.In s.heap := e0.mod.kin.keeps fun b o e => (e0.bs b o e).1
  have lim : s.heap.NoLimit := e0.mod.nolimit.keeps fun b o e => (e0.bs b o e).1
  have kinds : ∀ y ∈ ps.zip us, sc.names.lookup y.1 = some .local ∨
      (sc.names.lookup y.1 = some .cell ∧
        ((cellsFrom (s.heap.objs.size + 1) sc.names []).lookup y.1).isSome = true) := by
    rintro ⟨y, v⟩ hy
    rcases S.par y (List.of_mem_zip hy).1 with q | q
    · left; exact q
    · right; exact ⟨q, PySem.W.cellsFrom_some _ _ _ (.inl q)⟩
  have code := PySem.W.codeRec_of KX hc
  refine codeAny_call_function hr.depth (KX _ _ lk) rfl S.co S.gen rfl code (hbd _ _ _ _ ?_)
  refine wpAny_newFunctionEnv_cells S.kind kinds ?_
  intro env he s1 x
  subst he
  refine ⟨lim.keeps x.toInCall.keep, codeAny_func ?_⟩
  obtain ⟨t, ht, hq⟩ := hb A out s H vs Q E g (hr.deeper _) hsp
  have I := inv_start (CX := cx) (P := P) (w := w) (E := E) S hr.hd e0 hl r x
  refine wpAny_mono (ht.run [] s1 (start N vs) H _ I hq) ?_ fun er s' z => z
  intro fl s' z
  cases fl with
  | ret u =>
    obtain ⟨v, σ', H', J, rv, q⟩ := z
    exact ⟨v, H', J.os, J.bare, J.base, J.hok, rv, q⟩
  | next =>
    obtain ⟨σ', H', J, q⟩ := z
    exact ⟨V.non, H', J.os, J.bare, J.base, J.hok, rfl, q⟩
  | brk =>
    obtain ⟨_, _, _, q⟩ := z
    exact q.elim
  | cont =>
    obtain ⟨_, _, _, q⟩ := z
    exact q.elim

theorem okG {x ql : Str} {st : Stmt} {f : Addr} {fd : FuncData} {N ps : List Str} {n : Nat} {sp : Sp}
    (F : Fun K x ql st f fd) (S : FnScope N ps (defScope st)) (len : ∀ vs H Q E, sp vs H Q E → vs.length = ps.length)
    (hb : ∀ (cv : Value) (A : Around) (out : List Env) (s : Shared) (H : Hp) (vs : List V) (Q : VK) (E : XK),
      Free (A.deeper (envOfC ql (defScope st) s.heap.objs.size f cv)) →
      Room n (A.deeper (envOfC ql (defScope st) s.heap.objs.size f cv)) → sp vs H Q E →
      ∃ t, PSs (cxOf CX0 P w K mg base N ql (defScope st) f cv A out s H E).nox (defBody st) t ∧
        t { nx := fun _ H' => Q .non H', rt := Q } (start N vs) H) :
    FnG P w K mg base CX0 (n + 1) f fd ps sp := by
  obtain ⟨oc, od, kV, dc, pm, an, cv, ct, sl, rfl, lk, hc⟩ := F.ex
  refine FnG.body lk hc S len ?_
  intro A out s H vs Q E g hr hsp
  obtain ⟨t, h, q⟩ := hb cv A out s H vs Q E g hr hsp
  exact ⟨t, h.nox, q⟩
end
end Gd
end

section
set_option Elab.async false
set_option linter.all false
set_option maxRecDepth 100000
set_option maxHeartbeats 4000000
/-! The end of a law's row from a promise of Gd.FnG. -/
namespace Gd
open PySem PySem.Spec PyProof.Rows L2

/-- what is wanted of the law's own call -/
def Yes (s1 : Shared) (r : Result) (s' : Shared) : Prop :=
  r = .ok (.ret (.bool true)) ∧ OldK s1.heap s'.heap ∧ s'.os = s1.os ∧ AllBare s'.gens

section
variable {P : Program} {w : World} {K : PySem.W.Frag} {mg mb : Str → Option Value} {cx : CXT} {n : Nat}
  {fa a : Addr} {fd : FuncData} {x : Str} {sp : Sp} {s1 : Shared} {vs : List Value} {ns : List Int}

theorem begun (H : Hp) (only : Only H) (hS : SqL K H a (ns.map V.int)) (hok : HOk P w H s1.heap)
    (at_a : ∀ b, H b ≠ none → b = a) (noK : H a ≠ none → K.lookup a = none)
    (KX : K.In s1.heap) (hns : s1.heap.Ns mainGlobals mg) (hb : s1.heap.Ns builtinsNs mb)
    (hbb : ∀ y : Str, y ≠ "__name__" → mb y = bootBuiltins y) (hlim : s1.heap.NoLimit) (hg : s1.gens = #[])
    (ha : s1.heap.get? a = some { cls := .type "list", data := .seq vs.toArray }) (hr : Room n callerA)
    (F : ∀ base : Heap, K.In base → base.Ns mainGlobals mg → FnG P w K mg base cx n fa fd [x] sp)
    (hbind : ∀ (s : Shared) (u : Value), BindsTo s fd ⟨[u], []⟩ [(x, u)])
    (hsp : sp [.ref a] H (fun v _ => v = .bl true) fun _ _ _ => False)
    (hCX : ∀ e s', cx [] H s1 (fun _ _ _ => False) e s' → False) :
    codeAny (model P w) callerA (.call (.ref fa) ⟨[.ref a], []⟩) (Yes s1) s1 := by
  -- the base: what isn't tracked
  let B := hidT s1.heap H
  have toB : ∀ {b : Addr} {o : Obj}, s1.heap.get? b = some o → H b = none → B.get? b = some o :=
    fun e z => hidT_get e z
  have notDict : ∀ {b : Addr} {o : Obj} {es : Array DictEntry} {m : Nat},
      s1.heap.get? b = some o → o.data = .dict es m → H b = none := by
    intro b o es m e d
    cases q : H b with
    | none => rfl
    | some u =>
      exfalso
      have eb : b = a := at_a b (by simp [q])
      rw [eb, ha] at e
      cases Option.some.inj e
      cases d
  have nsB : ∀ {b : Addr} {m : Str → Option Value}, s1.heap.Ns b m → B.Ns b m := by
    rintro b m ⟨o, es, ep, e, d, r⟩
    exact ⟨o, es, ep, toB e (notDict e d), d, r⟩
  have inB : K.In B := by
    intro b o e
    refine toB (KX b o e) ?_
    cases q : H b with
    | none => rfl
    | some u =>
      have eb : b = a := at_a b (by simp [q])
      have z := noK (by rw [← eb, q]; simp)
      rw [eb, z] at e
      cases e
  have modB : Mod K mg B := by
    obtain ⟨mc, l1, l2⟩ := hlim
    exact ⟨inB, nsB hns, ⟨mb, nsB hb, hbb⟩, ⟨mc, nsB l1, l2⟩⟩
  have nil : ∀ {b : Addr}, b ∉ ([] : List Addr) := fun z => nomatch z
  have e0 : Env0 P w K mg B callerA [] s1 H :=
    ⟨rfl, modB, fun b o e => of_hidT e, Nat.le_of_eq (hidT_size _ _), trivial, fun b z => (nil z).elim, hok, .of_eq hg⟩
  have got := (F B inB (nsB hns)).run callerA [] s1 H ⟨[.ref a], []⟩ [.ref a] [.ref a] _ _ rfl hr e0
    (hbind s1 (.ref a)) (.cons rfl .nil) hsp
  refine codeAny_mono got ?_
  intro r s' z
  cases r with
  | error er => exact (hCX er s' z).elim
  | ok fl =>
    cases fl with
    | ret u =>
      obtain ⟨v, H', os, bare, un, hok', rv, q⟩ := z
      obtain rfl : v = .bl true := q
      obtain rfl : u = Value.bool true := rv
      refine ⟨rfl, OldK.of_keep ?_, os, bare⟩
      intro b o e
      cases q : H b with
      | none => exact un.keep b o e q (fun z => (nil z).elim) (fun z => (nil z).elim)
      | some u =>
        rcases only b with z | ⟨ob, xs, z⟩
        · exact nomatch q.symm.trans z
        · obtain ⟨g1, _⟩ := hok b _ z
          obtain ⟨g2, _⟩ := hok' b _ (un.frzs b ob _ z)
          exact g2.trans (g1.symm.trans e)
    | _ => exact False.elim z

theorem law_callG (KX : K.In s1.heap) (hns : s1.heap.Ns mainGlobals mg) (hb : s1.heap.Ns builtinsNs mb)
    (hbb : ∀ y : Str, y ≠ "__name__" → mb y = bootBuiltins y) (hlim : s1.heap.NoLimit) (hg : s1.gens = #[])
    (ha : s1.heap.get? a = some { cls := .type "list", data := .seq vs.toArray }) (hi : IntsAre vs ns)
    (hl : ns.length ≤ sizeLine) (hr : Room n callerA)
    (F : ∀ base : Heap, K.In base → base.Ns mainGlobals mg → FnG P w K mg base cx n fa fd [x] sp)
    (hbind : ∀ (s : Shared) (u : Value), BindsTo s fd ⟨[u], []⟩ [(x, u)])
    (hsp : ∀ H : Hp, Only H → SqL K H a (ns.map V.int) → sp [.ref a] H (fun v _ => v = .bl true) fun _ _ _ => False)
    (hCX : ∀ H e s', cx [] H s1 (fun _ _ _ => False) e s' → False) :
    codeAny (model P w) callerA (.call (.ref fa) ⟨[.ref a], []⟩) (Yes s1) s1 := by
  have rv := vals_ints hi
  have hz : vs.toArray.size ≤ sizeLine := by
    rw [List.size_toArray, hi.length]
    exact hl
  cases hk : K.lookup a with
  | some o =>
    have e : some o = some _ := (KX a o hk).symm.trans ha
    cases e
    have here : SqL K (fun _ => none) a (ns.map V.int) := .inr ⟨_, vs.toArray, _, hk, rfl, rfl, rfl, hz, by simpa using rv⟩
    have only : Only (fun _ => none) := fun _ => .inl rfl
    exact begun (fun _ => none) only here (fun b u z => nomatch z) (fun b z => absurd rfl z) (fun z => absurd rfl z)
      KX hns hb hbb hlim hg ha hr F hbind (hsp _ only here) (hCX _)
  | none =>
    let H : Hp := fun b => if b = a then some (.frz { cls := .type "list", data := .seq vs.toArray } (.lst (ns.map V.int))) else none
    have Ha : H a = some (.frz { cls := .type "list", data := .seq vs.toArray } (.lst (ns.map V.int))) := if_pos rfl
    have Hn : ∀ {b : Addr}, b ≠ a → H b = none := fun z => if_neg z
    have only : Only H := by
      intro b
      by_cases eb : b = a
      · right
        subst eb
        exact ⟨_, _, Ha⟩
      · left
        exact Hn eb
    have here : SqL K H a (ns.map V.int) := .inl (.inr ⟨_, Ha⟩)
    refine begun H only here ?_ ?_ (fun _ => hk) KX hns hb hbb hlim hg ha hr F hbind (hsp _ only here) (hCX _)
    · intro b u z
      by_cases eb : b = a
      · subst eb
        rw [Ha] at z
        cases z
        exact ⟨ha, by rw [List.length_map]; exact hl, vs, _, rv, ha⟩
      · rw [Hn eb] at z
        cases z
    · intro b z
      by_cases eb : b = a
      · exact eb
      · exact absurd (Hn eb) z
end

theorem walkG {l : PySem.W.OpenLaw} {m n : Nat} {q : Program} {loose : List Str} {XP : (Str → Option Value) → Heap → Prop}
    {YP : World → Heap → Prop} {d : DefRec} {K : Params → PySem.W.Frag} {sp : PySem.W.Frag → Sp} {x : Str}
    (hn : l.most = some m) (hm : m ≤ sizeLine) (hdf : d.params.defaults = []) (hr : Room n callerA)
    (hY : ∀ (w : World) (h : Heap), YP w h → (K w.params).In h)
    (F : ∀ (w : World) (mg : Str → Option Value) (fa : Addr) (h : Heap), (K w.params).In h → h.Ns mainGlobals mg →
      mg d.name = some (.ref fa) → ∃ fd : FuncData, (∀ (s : Shared) (u : Value), BindsTo s fd ⟨[u], []⟩ [(x, u)]) ∧
        ∀ base : Heap, (K w.params).In base → base.Ns mainGlobals mg →
          FnG l.prog w (K w.params) mg base CX0 n fa fd [x] (sp (K w.params)))
    (hsp : ∀ (K : PySem.W.Frag) (H : Hp) (a : Addr) (ns : List Int), ns.length ≤ m →
      (∀ z ∈ ns, Builtin.Int.intBits z ≤ 1048576) → Only H → SqL K H a (ns.map V.int) →
      sp K [.ref a] H (fun v _ => v = .bl true) fun _ _ _ => False) :
    PySem.W.WalkO q loose XP YP l.row.toRowW d [] (fun f vs => PySem.call f vs) := by
  refine Att.attach_callB hn hdf ?_
  intro w s0 s1 mg mb fa o pm cd dc a vs ns G Y ho hd hcd hmg hobj hints hlen hbits hg
  have KX := hY w _ Y
  obtain ⟨fd, hb, hF⟩ := F w mg fa _ KX G.T.g hmg
  exact law_callG KX G.T.g G.T.b G.T.builtins G.T.nolimit hg hobj hints (Nat.le_trans hlen hm) hr hF hb
    (fun H only hS => hsp _ H a ns hlen hbits only hS) fun H e s' z => z.elim
end Gd
end

section
set_option Elab.async false
set_option linter.all false
set_option maxRecDepth 100000
set_option maxHeartbeats 4000000
/-! The end of a law's row from a promise of Gd.FnG, with the tables of code objects of defs that hold lambdas. -/
namespace Gd
open PySem PySem.Spec PyProof.Rows L2 LamX
/-- the def y, its code object c, the table P, which is not written out -/
def TabIn (K : PySem.W.Frag) (mg : Str → Option Value) (ys : List Str) (p : Addr × Addr) : Prop :=
  ∃ (y : Str) (f : Addr) (oc : Value) (od : Option Addr) (fd : FuncData) (sl : Array (Option Value)) (e : Value) (dd : Option Addr) (vs : Array Value) (sl2 : Array (Option Value)), y ∈ ys ∧ mg y = some (.ref f) ∧ K.lookup f = some ⟨oc, od, .func fd, sl⟩ ∧ fd.code = .ref p.1 ∧
    K.lookup p.1 = some ⟨e, dd, .fields vs, sl2⟩ ∧ vs[11]? = some (.ref p.2) ∧ K.lookup p.2 = none
section
variable {P : Program} {w : World} {K : PySem.W.Frag} {mg mb : Str → Option Value} {cx : CXT} {n : Nat} {cs : List (Addr × Addr)}
  {fa a : Addr} {fd : FuncData} {x : Str} {sp : Sp} {s1 : Shared} {vs : List Value} {ns : List Int}
theorem begunT (H : Hp) (hH : ∀ p ∈ cs, H p.2 = some (.tbl #[])) (only : ∀ b, H b = none ∨ (∃ p ∈ cs, b = p.2) ∨ ∃ o xs, H b = some (.frz o (.lst xs))) (hok : HOk P w H s1.heap)
    (at_a : ∀ b, H b ≠ none → b = a ∨ ∃ p ∈ cs, b = p.2) (noK : H a ≠ none → K.lookup a = none)
    (hT : ∀ p ∈ cs, s1.heap.get? p.2 = some { cls := .none, data := .fields #[] }) (nT : ∀ p ∈ cs, K.lookup p.2 = none) (C : ∀ p ∈ cs, PySem.W.CodeHd s1.heap p.1 p.2)
    (hbm : ∃ (bm : Addr) (ob : Obj), mg "__builtins__" = some (.ref bm) ∧ bm ≠ builtinsNs ∧ s1.heap.get? bm = some ob ∧ ob.cls = .type "module" ∧ ob.dict = some builtinsNs ∧ ob.data = .plain)
    (KX : K.In s1.heap) (hns : s1.heap.Ns mainGlobals mg) (hb : s1.heap.Ns builtinsNs mb)
    (hbb : ∀ y : Str, y ≠ "__name__" → mb y = bootBuiltins y) (hlim : s1.heap.NoLimit) (hg : s1.gens = #[])
    (ha : s1.heap.get? a = some { cls := .type "list", data := .seq vs.toArray }) (hr : Room n callerA)
    (F : ∀ base : Heap, K.In base → base.Ns mainGlobals mg → (∀ p ∈ cs, TabB base mg p.1 p.2) → FnG P w K mg base cx n fa fd [x] sp)
    (hbind : ∀ (s : Shared) (u : Value), BindsTo s fd ⟨[u], []⟩ [(x, u)])
    (hsp : sp [.ref a] H (fun v _ => v = .bl true) fun _ _ _ => False)
    (hCX : ∀ e s', cx [] H s1 (fun _ _ _ => False) e s' → False) :
    codeAny (model P w) callerA (.call (.ref fa) ⟨[.ref a], []⟩) (Yes s1) s1 := by
  let B := hidT s1.heap H
  have toB : ∀ {b : Addr} {o : Obj}, s1.heap.get? b = some o → H b = none → B.get? b = some o := fun e z => hidT_get e z
  -- what is neither a list nor an empty table is not tracked
  have off : ∀ {b : Addr} {o : Obj}, s1.heap.get? b = some o → (∀ us m, o.data ≠ .seq us m) → o.data ≠ .fields #[] → H b = none := by
    intro b o e d1 d2
    cases q : H b with
    | none => rfl
    | some u =>
      exfalso
      rcases at_a b (by simp [q]) with eb | ⟨p, hp, eb⟩
      · rw [eb, ha] at e
        cases Option.some.inj e
        exact d1 _ _ rfl
      · rw [eb, hT p hp] at e
        cases Option.some.inj e
        exact d2 rfl
  have nsB : ∀ {b : Addr} {m : Str → Option Value}, s1.heap.Ns b m → B.Ns b m := by
    rintro b m ⟨o, es, ep, e, d, r⟩
    exact ⟨o, es, ep, toB e (off e (fun _ _ z => by rw [d] at z; cases z) (fun z => by rw [d] at z; cases z)), d, r⟩
  have inB : K.In B := by
    intro b o e
    refine toB (KX b o e) ?_
    cases q : H b with
    | none => rfl
    | some u =>
      rcases at_a b (by simp [q]) with eb | ⟨p, hp, eb⟩
      · have z := noK (by rw [← eb, q]; simp)
        rw [eb, z] at e
        cases e
      · rw [eb, nT p hp] at e
        cases e
  have modB : Mod K mg B := by
    obtain ⟨mc, l1, l2⟩ := hlim
    exact ⟨inB, nsB hns, ⟨mb, nsB hb, hbb⟩, ⟨mc, nsB l1, l2⟩⟩
  have tabB : ∀ p ∈ cs, TabB B mg p.1 p.2 := by
    intro p hp
    have hTp := hT p hp
    refine ⟨?_, ?_, ?_⟩
    · obtain ⟨o, us, file, tf, flags, tg, inF, text, tt, e1, r1, r2, r3, r⟩ := C p hp
      refine ⟨o, us, file, tf, flags, tg, inF, text, tt, toB e1 (off e1 (fun _ _ z => by rw [r2] at z; cases z) fun z => ?_), r1, r2, r3, r⟩
      rw [r2] at z
      cases z
      simp at r3
    · obtain ⟨bm, ob, b1, b2, b3, b4, b5, b6⟩ := hbm
      refine ⟨bm, ob, b1, b2, ?_, ?_, toB b3 (off b3 (fun _ _ z => by rw [b6] at z; cases z) fun z => by rw [b6] at z; cases z), b4, b5, b6⟩
      · rintro rfl
        obtain ⟨o, es, ep, e, d, _⟩ := hns
        rw [e] at b3
        cases b3
        rw [d] at b6
        cases b6
      · rintro rfl
        rw [hTp] at b3
        cases b3
        cases b6
    · intro z
      obtain ⟨o, es, ep, e, d, _⟩ := hns
      rw [z, hTp] at e
      cases e
      cases d
  have nil : ∀ {b : Addr}, b ∉ ([] : List Addr) := fun z => nomatch z
  have e0 : Env0 P w K mg B callerA [] s1 H :=
    ⟨rfl, modB, fun b o e => of_hidT e, Nat.le_of_eq (hidT_size _ _), trivial, fun b z => (nil z).elim, hok, .of_eq hg⟩
  have got := (F B inB (nsB hns) tabB).run callerA [] s1 H ⟨[.ref a], []⟩ [.ref a] [.ref a] _ _ rfl hr e0
    (hbind s1 (.ref a)) (.cons rfl .nil) hsp
  refine codeAny_mono got ?_
  intro r s' z
  cases r with
  | error er => exact (hCX er s' z).elim
  | ok fl =>
    cases fl with
    | ret u =>
      obtain ⟨v, H', os, bare, un, hok', rv, q⟩ := z
      obtain rfl : v = .bl true := q
      obtain rfl : u = Value.bool true := rv
      have old : ∀ b o, (¬ ∃ p ∈ cs, b = p.2) → s1.heap.get? b = some o → s'.heap.get? b = some o := by
        intro b o nb e
        cases q : H b with
        | none => exact un.keep b o e q (fun z => (nil z).elim) (fun z => (nil z).elim)
        | some u =>
          rcases only b with z | z | ⟨ob, xs, z⟩
          · exact nomatch q.symm.trans z
          · exact absurd z nb
          · obtain ⟨g1, _⟩ := hok b _ z
            obtain ⟨g2, _⟩ := hok' b _ (un.frzs b ob _ z)
            exact g2.trans (g1.symm.trans e)
      have more : ∀ p ∈ cs, ∃ us : Array Value, s'.heap.get? p.2 = some { cls := .none, data := .fields us } := fun p hp => by
        obtain ⟨us, z⟩ := un.tbls p.2 #[] (hH p hp)
        exact ⟨_, hok' p.2 _ z⟩
      refine ⟨rfl, ⟨fun b o e => ?_, fun b o e => ?_⟩, os, bare⟩
      · by_cases nb : ∃ p ∈ cs, b = p.2
        · obtain ⟨p, hp, rfl⟩ := nb
          obtain ⟨us, z⟩ := more p hp
          rw [hT p hp] at e
          cases e
          exact .inr (.inl ⟨((C p hp).tab (hT p hp)).isCodeTable, rfl, #[], us, rfl, by rw [Array.empty_append]; exact z⟩)
        · exact .inl (old b o nb e)
      · by_cases nb : ∃ p ∈ cs, b = p.2
        · obtain ⟨p, hp, rfl⟩ := nb
          obtain ⟨us, z⟩ := more p hp
          exact ⟨_, z⟩
        · exact ⟨o, old b o nb e⟩
    | _ => exact False.elim z
theorem law_callT (hT : ∀ p ∈ cs, s1.heap.get? p.2 = some { cls := .none, data := .fields #[] }) (nT : ∀ p ∈ cs, K.lookup p.2 = none) (C : ∀ p ∈ cs, PySem.W.CodeHd s1.heap p.1 p.2)
    (hbm : ∃ (bm : Addr) (ob : Obj), mg "__builtins__" = some (.ref bm) ∧ bm ≠ builtinsNs ∧ s1.heap.get? bm = some ob ∧ ob.cls = .type "module" ∧ ob.dict = some builtinsNs ∧ ob.data = .plain)
    (KX : K.In s1.heap) (hns : s1.heap.Ns mainGlobals mg) (hb : s1.heap.Ns builtinsNs mb)
    (hbb : ∀ y : Str, y ≠ "__name__" → mb y = bootBuiltins y) (hlim : s1.heap.NoLimit) (hg : s1.gens = #[])
    (ha : s1.heap.get? a = some { cls := .type "list", data := .seq vs.toArray }) (hi : IntsAre vs ns)
    (hl : ns.length ≤ sizeLine) (hr : Room n callerA)
    (F : ∀ base : Heap, K.In base → base.Ns mainGlobals mg → (∀ p ∈ cs, TabB base mg p.1 p.2) → FnG P w K mg base cx n fa fd [x] sp)
    (hbind : ∀ (s : Shared) (u : Value), BindsTo s fd ⟨[u], []⟩ [(x, u)])
    (hsp : ∀ H : Hp, (∀ p ∈ cs, H p.2 = some (.tbl #[])) → SqL K H a (ns.map V.int) → sp [.ref a] H (fun v _ => v = .bl true) fun _ _ _ => False)
    (hCX : ∀ H e s', cx [] H s1 (fun _ _ _ => False) e s' → False) :
    codeAny (model P w) callerA (.call (.ref fa) ⟨[.ref a], []⟩) (Yes s1) s1 := by
  have rv := vals_ints hi
  have hz : vs.toArray.size ≤ sizeLine := by
    rw [List.size_toArray, hi.length]
    exact hl
  have na : ¬ ∃ p ∈ cs, a = p.2 := by
    rintro ⟨p, hp, e⟩
    have := hT p hp
    rw [← e, ha] at this
    cases Option.some.inj this
  have dec : ∀ b, Decidable (∃ p ∈ cs, b = p.2) := fun b => Classical.propDecidable _
  cases hk : K.lookup a with
  | some o =>
    have e : some o = some _ := (KX a o hk).symm.trans ha
    cases e
    let H : Hp := fun b => @ite _ (∃ p ∈ cs, b = p.2) (dec b) (some (.tbl #[])) none
    have Ht : ∀ {b}, (∃ p ∈ cs, b = p.2) → H b = some (.tbl #[]) := fun z => if_pos z
    have Hn : ∀ {b}, (¬ ∃ p ∈ cs, b = p.2) → H b = none := fun z => if_neg z
    have here : SqL K H a (ns.map V.int) := .inr ⟨_, vs.toArray, _, hk, rfl, rfl, rfl, hz, by simpa using rv⟩
    have hH : ∀ p ∈ cs, H p.2 = some (.tbl #[]) := fun p hp => Ht ⟨p, hp, rfl⟩
    refine begunT H hH (fun b => ?_) (fun b u z => ?_) (fun b z => ?_) (fun z => absurd (Hn na) z) hT nT C hbm KX hns hb hbb hlim hg ha hr F hbind (hsp H hH here) (hCX _)
    · by_cases hb : ∃ p ∈ cs, b = p.2
      · exact .inr (.inl hb)
      · exact .inl (Hn hb)
    · by_cases hb : ∃ p ∈ cs, b = p.2
      · rw [Ht hb] at z
        cases z
        obtain ⟨p, hp, rfl⟩ := hb
        exact hT p hp
      · rw [Hn hb] at z
        cases z
    · by_cases hb : ∃ p ∈ cs, b = p.2
      · exact .inr hb
      · exact absurd (Hn hb) z
  | none =>
    let H : Hp := fun b => if b = a then some (.frz { cls := .type "list", data := .seq vs.toArray } (.lst (ns.map V.int))) else @ite _ (∃ p ∈ cs, b = p.2) (dec b) (some (.tbl #[])) none
    have Ha : H a = some (.frz { cls := .type "list", data := .seq vs.toArray } (.lst (ns.map V.int))) := if_pos rfl
    have Ht : ∀ {b}, (∃ p ∈ cs, b = p.2) → H b = some (.tbl #[]) := fun {b} z => (if_neg (fun (e : b = a) => na (by rw [← e]; exact z))).trans (if_pos z)
    have Hn : ∀ {b}, b ≠ a → (¬ ∃ p ∈ cs, b = p.2) → H b = none := fun z1 z2 => (if_neg z1).trans (if_neg z2)
    have here : SqL K H a (ns.map V.int) := .inl (.inr ⟨_, Ha⟩)
    have hH : ∀ p ∈ cs, H p.2 = some (.tbl #[]) := fun p hp => Ht ⟨p, hp, rfl⟩
    refine begunT H hH (fun b => ?_) (fun b u z => ?_) (fun b z => ?_) (fun _ => hk) hT nT C hbm KX hns hb hbb hlim hg ha hr F hbind (hsp H hH here) (hCX _)
    · by_cases eb : b = a
      · exact .inr (.inr ⟨_, _, by rw [eb]; exact Ha⟩)
      by_cases hb : ∃ p ∈ cs, b = p.2
      · exact .inr (.inl hb)
      · exact .inl (Hn eb hb)
    · by_cases eb : b = a
      · subst eb
        rw [Ha] at z
        cases z
        exact ⟨ha, by rw [List.length_map]; exact hl, vs, _, rv, ha⟩
      by_cases hb : ∃ p ∈ cs, b = p.2
      · rw [Ht hb] at z
        cases z
        obtain ⟨p, hp, rfl⟩ := hb
        exact hT p hp
      · rw [Hn eb hb] at z
        cases z
    · by_cases eb : b = a
      · exact .inl eb
      by_cases hb : ∃ p ∈ cs, b = p.2
      · exact .inr hb
      · exact absurd (Hn eb hb) z
end
theorem walkT {l : PySem.W.OpenLaw} {m n : Nat} {q : Program} {loose : List Str} {XP : (Str → Option Value) → Heap → Prop}
    {YP : World → Heap → Prop} {d : DefRec} {K : Params → PySem.W.Frag} {sp : PySem.W.Frag → List (Addr × Addr) → Sp} {x : Str} {ys : List Str}
    (hn : l.most = some m) (hm : m ≤ sizeLine) (hdf : d.params.defaults = []) (hr : Room n callerA)
    (hY : ∀ (w : World) (h : Heap), YP w h → (K w.params).In h) (hys : (ys.all fun y => (recsOf q).any fun e => e.name == y) = true)
    (F : ∀ (w : World) (mg : Str → Option Value) (fa : Addr) (h : Heap), (K w.params).In h → h.Ns mainGlobals mg →
      mg d.name = some (.ref fa) → ∃ (fd : FuncData) (cs : List (Addr × Addr)), (∀ p ∈ cs, TabIn (K w.params) mg ys p) ∧ (∀ (s : Shared) (u : Value), BindsTo s fd ⟨[u], []⟩ [(x, u)]) ∧
        ∀ base : Heap, (K w.params).In base → base.Ns mainGlobals mg → (∀ p ∈ cs, TabB base mg p.1 p.2) → FnG l.prog w (K w.params) mg base CX0 n fa fd [x] (sp (K w.params) cs))
    (hsp : ∀ (K : PySem.W.Frag) (cs : List (Addr × Addr)) (H : Hp) (a : Addr) (ns : List Int), ns.length ≤ m →
      (∀ z ∈ ns, Builtin.Int.intBits z ≤ 1048576) → (∀ p ∈ cs, H p.2 = some (.tbl #[])) → SqL K H a (ns.map V.int) →
      sp K cs [.ref a] H (fun v _ => v = .bl true) fun _ _ _ => False) :
    PySem.W.WalkO q loose XP YP l.row.toRowW d [] (fun f vs => PySem.call f vs) := by
  refine Att.attach_callB hn hdf ?_
  intro w s0 s1 mg mb fa o pm cd dc a vs ns G Y ho hd hcd hmg hobj hints hlen hbits hg
  have KX := hY w _ Y
  obtain ⟨fd, cs, tabs, hb, hF⟩ := F w mg fa _ KX G.T.g hmg
  have all : ∀ p ∈ cs, s1.heap.get? p.2 = some { cls := .none, data := .fields #[] } ∧ (K w.params).lookup p.2 = none ∧ PySem.W.CodeHd s1.heap p.1 p.2 := by
    rintro ⟨c, P⟩ hp
    obtain ⟨y, f, oc, od, fd1, sl, e, dd, us, sl2, hy, t1, t2, t3, t4, t5, t6⟩ := tabs _ hp
    obtain ⟨dL, hL, en⟩ := List.any_eq_true.mp (List.all_eq_true.mp hys y hy)
    have en : dL.name = y := beq_iff_eq.mp en
    obtain ⟨a', o', fd', c', P', h1, h2, h3, h4, h5, h6⟩ := G.T.tab dL hL
    rw [en, t1] at h1
    cases h1
    rw [KX _ _ t2] at h2
    cases h2
    cases h3
    rw [t3] at h4
    cases h4
    have hcd := PySem.W.CodeHd.of h5 h6
    obtain ⟨⟨o2, vs2, q1, _, q3, q4⟩, hP⟩ := h6
    rw [KX _ _ t4] at q1
    cases q1
    cases q3
    rw [t5] at q4
    cases q4
    exact ⟨hP, t6, hcd⟩
  exact law_callT (fun p hp => (all p hp).1) (fun p hp => (all p hp).2.1) (fun p hp => (all p hp).2.2) G.T.bmain KX G.T.g G.T.b G.T.builtins G.T.nolimit hg hobj hints (Nat.le_trans hlen hm) hr hF hb
    (fun H hH hS => hsp _ cs H a ns hlen hbits hH hS) fun H e s' z => z.elim
end Gd
end

section
set_option Elab.async false
set_option linter.all false
set_option maxRecDepth 100000
set_option maxHeartbeats 4000000
/-! What the laws draw from: a list of three numbers, of which each draw takes one more. -/
namespace Gd
open PySem PySem.Spec PyProof.Rows L2

/-- at p: what is left of a great number, the seed, how many were drawn, at most S -/
def Feed (H : Hp) (p : Addr) (S : Int) : Prop := ∃ g x s : Int, H p = some (.lst [.int g, .int x, .int s]) ∧ 0 ≤ s ∧ s ≤ S
theorem Feed.le {H : Hp} {p : Addr} {S T : Int} (h : Feed H p S) (l : S ≤ T) : Feed H p T := by
  obtain ⟨g, x, s, e, a, b⟩ := h
  exact ⟨g, x, s, e, a, by omega⟩
theorem Feed.here {H : Hp} {p : Addr} {S g x s : Int} (h0 : 0 ≤ s) (h : s ≤ S) : Feed (upd H p (.lst [.int g, .int x, .int s])) p S :=
  ⟨g, x, s, upd_same, h0, h⟩
theorem Feed.stays {H : Hp} {p q : Addr} {S : Int} {o : HO} (h : Feed H p S) (n : H q = none) : Feed (upd H q o) p S := by
  obtain ⟨g, x, s, e, a, b⟩ := h
  refine ⟨g, x, s, ?_, a, b⟩
  rw [upd_ne (ne_of_none e n)]
  exact e
/-- all is as it was, but at p -/
def Ex1 (p : Addr) (H H' : Hp) : Prop := ∀ a o, a ≠ p → H a = some o → H' a = some o
theorem Ex1.refl (p : Addr) (H : Hp) : Ex1 p H H := fun _ _ _ h => h
theorem Ex1.trans {p : Addr} {H H1 H2 : Hp} (a : Ex1 p H H1) (b : Ex1 p H1 H2) : Ex1 p H H2 := fun x o n h => b x o n (a x o n h)
theorem Ex1.at {p : Addr} {H : Hp} {o : HO} : Ex1 p H (upd H p o) := fun a u n e => by
  rw [upd_ne n]
  exact e
theorem Ex1.new {p q : Addr} {H : Hp} {o : HO} (n : H q = none) : Ex1 p H (upd H q o) := fun a u _ e => by
  rw [upd_ne (ne_of_none e n)]
  exact e

theorem Feed.lst {H : Hp} {p : Addr} {S : Int} (h : Feed H p S) : ∃ xs, H p = some (.lst xs) := by
  obtain ⟨g, x, s, e, _⟩ := h
  exact ⟨_, e⟩
theorem Feed.ne {H : Hp} {p q : Addr} {S : Int} (h : Feed H p S) (n : H q = none) : q ≠ p := fun z => by
  obtain ⟨xs, e⟩ := h.lst
  rw [z, e] at n
  cases n
def spTake : Sp := fun vs H Q _ => ∃ (p : Addr) (m S : Int), vs = [.ref p, .int m] ∧ Feed H p S ∧ 0 < m ∧ m < 1073741824 ∧
  S ≤ 1000000000 ∧ ∀ (r : Int) (H' : Hp), 0 ≤ r → r < m → Feed H' p (S + 1) → Ex1 p H H' → Q (.int r) H'

theorem fmod_in (a : Int) {b : Int} (h : 0 < b) : 0 ≤ a.fmod b ∧ a.fmod b < b :=
  ⟨Int.fmod_nonneg_of_pos a h, Int.fmod_lt_of_pos a h⟩
end Gd
end

section
set_option Elab.async false
set_option linter.all false
set_option maxRecDepth 100000
set_option maxHeartbeats 4000000
/-! Data: numbers, texts, truths, None, tuples of such. -/
namespace Gd
open PySem PySem.Spec PyProof.Rows L2

mutual
def tupOnly : PyData → Bool
  | .none => true
  | .bool _ => true
  | .int _ => true
  | .str _ => true
  | .tuple ds => decide (ds.length ≤ 1000) && tupOnlyAll ds
  | .list _ => false
  | .dict _ => false
def tupOnlyAll : List PyData → Bool
  | [] => true
  | d :: ds => tupOnly d && tupOnlyAll ds
end

/-- tuples stay -/
def Tups (K : PySem.W.Frag) (H H' : Hp) : Prop := ∀ a xs, SqT K H a xs → SqT K H' a xs
theorem Tups.refl {K : PySem.W.Frag} {H : Hp} : Tups K H H := fun _ _ h => h
theorem Tups.trans {K : PySem.W.Frag} {H H1 H2 : Hp} (a : Tups K H H1) (b : Tups K H1 H2) : Tups K H H2 := fun x y h => b x y (a x y h)
theorem Tups.upd_lst {K : PySem.W.Frag} {H : Hp} {D : Addr} {xs ys : List V} (e : H D = some (.lst xs)) : Tups K H (upd H D (.lst ys)) := by
  intro a zs h
  rcases h with (h | ⟨o, h⟩) | h
  · refine .inl (.inl ?_)
    rw [upd_ne (fun z => by rw [z, e] at h; cases h)]
    exact h
  · refine .inl (.inr ⟨o, ?_⟩)
    rw [upd_ne (fun z => by rw [z, e] at h; cases h)]
    exact h
  · exact .inr h
theorem Tups.of_same {K : PySem.W.Frag} {H H' : Hp} (s : Same H H') : Tups K H H' := by
  intro a zs h
  rcases h with (h | ⟨o, h⟩) | h
  · exact .inl (.inl (s _ _ h))
  · exact .inl (.inr ⟨o, s _ _ h⟩)
  · exact .inr h

theorem Tups.new {K : PySem.W.Frag} {H : Hp} {q : Addr} {o : HO} (n : H q = none) : Tups K H (upd H q o) :=
  .of_same fun b u e => by
    rw [upd_ne (ne_of_none e n)]
    exact e
theorem Ex1.tups {K : PySem.W.Frag} {H H' : Hp} {p : Addr} {xs : List V} (x : Ex1 p H H') (e : H p = some (.lst xs)) : Tups K H H' := by
  intro a zs h
  rcases h with (h | ⟨o, h⟩) | h
  · exact .inl (.inl (x _ _ (fun z => by rw [z, e] at h; cases h) h))
  · exact .inl (.inr ⟨o, x _ _ (fun z => by rw [z, e] at h; cases h) h⟩)
  · exact .inr h
section
variable {K : PySem.W.Frag} {H H' : Hp}
mutual
theorem Dp.tups (t : Tups K H H') : ∀ (d : PyData) {v : V}, tupOnly d = true → Dp K H v d → Dp K H' v d
  | .none, _, _, h => by cases h; exact .non
  | .bool _, _, _, h => by cases h; exact .bl _
  | .int _, _, _, h => by cases h; exact .int _
  | .str _, _, _, h => by cases h; exact .str _
  | .tuple ds, _, o, h => by
    cases h with
    | tup a b =>
      simp only [tupOnly, Bool.and_eq_true] at o
      exact .tup (t _ _ a) (DpAll.tups t ds o.2 b)
  | .list _, _, o, _ => by simp [tupOnly] at o
  | .dict _, _, _, h => by cases h
theorem DpAll.tups (t : Tups K H H') : ∀ (ds : List PyData) {vs : List V}, tupOnlyAll ds = true → DpAll K H vs ds → DpAll K H' vs ds
  | [], _, _, h => by cases h; exact .nil
  | d :: ds, _, o, h => by
    simp only [tupOnlyAll, Bool.and_eq_true] at o
    cases h with
    | cons a b => exact .cons (Dp.tups t d o.1 a) (DpAll.tups t ds o.2 b)
end
mutual
theorem Dp.same (s : Same H H') : ∀ (d : PyData) {v : V}, Dp K H v d → Dp K H' v d
  | .none, _, h => by cases h; exact .non
  | .bool _, _, h => by cases h; exact .bl _
  | .int _, _, h => by cases h; exact .int _
  | .str _, _, h => by cases h; exact .str _
  | .tuple ds, _, h => by
    cases h with
    | tup a b => exact .tup (Tups.of_same s _ _ a) (DpAll.same s ds b)
  | .list ds, _, h => by
    cases h with
    | lst a b => exact .lst (s.seq a) (DpAll.same s ds b)
  | .dict _, _, h => by cases h
theorem DpAll.same (s : Same H H') : ∀ (ds : List PyData) {vs : List V}, DpAll K H vs ds → DpAll K H' vs ds
  | [], _, h => by cases h; exact .nil
  | d :: ds, _, h => by
    cases h with
    | cons a b => exact .cons (Dp.same s d a) (DpAll.same s ds b)
end
theorem DpAll.len : ∀ {vs : List V} {ds : List PyData}, DpAll K H vs ds → vs.length = ds.length
  | _, _, .nil => rfl
  | _, _, .cons _ b => congrArg (· + 1) (DpAll.len b)
theorem DpAll.at_ : ∀ {vs : List V} {ds : List PyData} {i : Nat} {v : V}, DpAll K H vs ds → vs[i]? = some v → ∃ d, ds[i]? = some d ∧ Dp K H v d
  | _, _, _, _, .nil, e => by simp at e
  | _, _, 0, _, .cons a _, e => by
    cases Option.some.inj e
    exact ⟨_, rfl, a⟩
  | _, _, i + 1, _, .cons _ b, e => DpAll.at_ (i := i) b e
theorem DpAll.snoc : ∀ {vs : List V} {ds : List PyData} {v : V} {d : PyData}, DpAll K H vs ds → Dp K H v d → DpAll K H (vs ++ [v]) (ds ++ [d])
  | _, _, _, _, .nil, h => .cons h .nil
  | _, _, _, _, .cons a b, h => .cons a (DpAll.snoc b h)
theorem tupOnlyAll_at : ∀ {ds : List PyData} {i : Nat} {d : PyData}, tupOnlyAll ds = true → ds[i]? = some d → tupOnly d = true
  | [], _, _, _, e => by simp at e
  | x :: r, 0, d, o, e => by
    simp only [tupOnlyAll, Bool.and_eq_true] at o
    cases Option.some.inj e
    exact o.1
  | x :: r, i + 1, d, o, e => by
    simp only [tupOnlyAll, Bool.and_eq_true] at o
    exact tupOnlyAll_at (i := i) o.2 e
theorem tupOnlyAll_take : ∀ {ds : List PyData}, tupOnlyAll ds = true → ∀ i : Nat, tupOnlyAll (ds.take i) = true
  | [], _, i => by rw [List.take_nil] <;> rfl
  | x :: r, o, 0 => rfl
  | x :: r, o, i + 1 => by
    simp only [tupOnlyAll, Bool.and_eq_true] at o
    simp only [List.take_succ_cons, tupOnlyAll, Bool.and_eq_true]
    exact ⟨o.1, tupOnlyAll_take o.2 i⟩
theorem depth_at : ∀ {ds : List PyData} {i : Nat} {d : PyData}, ds[i]? = some d → d.depth ≤ PyData.depthAll ds
  | [], _, _, e => by simp at e
  | x :: r, 0, d, e => by
    cases Option.some.inj e
    simp only [PyData.depthAll]
    omega
  | x :: r, i + 1, d, e => by
    have h := depth_at (ds := r) (i := i) e
    simp only [PyData.depthAll]
    omega
end

/-- the built-in class of data -/
def kindN : PyData → String
  | .none => "NoneType"
  | .bool _ => "bool"
  | .int _ => "int"
  | .str _ => "str"
  | .list _ => "list"
  | .tuple _ => "tuple"
  | .dict _ => "dict"
theorem Dp.kind {K : PySem.W.Frag} {H : Hp} {v : V} {d : PyData} (h : Dp K H v d) (o : tupOnly d = true) : TyX K H v (.type (kindN d)) := by
  cases h with
  | non => exact .base .non
  | bl b => exact .base (.bl b)
  | int i => exact .base (.int i)
  | str x => exact .base (.str x)
  | lst _ _ => simp [tupOnly] at o
  | tup a _ =>
    rcases a with (a | ⟨z, a⟩) | ⟨z, its, n, a, c, _⟩
    · exact .base (.tup a)
    · exact .fTuple a
    · exact .kTuple a c
section
theorem kb0 : kitB "NoneType" "list" = some false ∧ kitB "NoneType" "tuple" = some false ∧ kitB "NoneType" "dict" = some false := by decide +kernel
theorem kb1 : kitB "bool" "list" = some false ∧ kitB "bool" "tuple" = some false ∧ kitB "bool" "dict" = some false := by decide +kernel
theorem kb2 : kitB "int" "list" = some false ∧ kitB "int" "tuple" = some false ∧ kitB "int" "dict" = some false := by decide +kernel
theorem kb3 : kitB "str" "list" = some false ∧ kitB "str" "tuple" = some false ∧ kitB "str" "dict" = some false := by decide +kernel
theorem kb4 : kitB "tuple" "list" = some false ∧ kitB "tuple" "tuple" = some true ∧ kitB "tuple" "dict" = some false := by decide +kernel
theorem kind_list {d : PyData} (o : tupOnly d = true) : kitB (kindN d) "list" = some false := by
  cases d with
  | none => exact kb0.1
  | bool b => exact kb1.1
  | int i => exact kb2.1
  | str x => exact kb3.1
  | tuple ds => exact kb4.1
  | list ds => simp [tupOnly] at o
  | dict ds => simp [tupOnly] at o
theorem kind_dict {d : PyData} (o : tupOnly d = true) : kitB (kindN d) "dict" = some false := by
  cases d with
  | none => exact kb0.2.2
  | bool b => exact kb1.2.2
  | int i => exact kb2.2.2
  | str x => exact kb3.2.2
  | tuple ds => exact kb4.2.2
  | list ds => simp [tupOnly] at o
  | dict ds => simp [tupOnly] at o
theorem kind_tuple {d : PyData} (o : tupOnly d = true) (n : ¬ ∃ ds, d = .tuple ds) : kitB (kindN d) "tuple" = some false := by
  cases d with
  | none => exact kb0.2.1
  | bool b => exact kb1.2.1
  | int i => exact kb2.2.1
  | str x => exact kb3.2.1
  | tuple ds => exact absurd ⟨ds, rfl⟩ n
  | list ds => simp [tupOnly] at o
  | dict ds => simp [tupOnly] at o
end
end Gd
end

section
set_option Elab.async false
set_option linter.all false
set_option maxRecDepth 100000
set_option maxHeartbeats 4000000
/-! sorted(xs) of data of one form: tuples of texts, numbers, within tuples. -/
namespace Gd
open PySem PySem.Spec PyProof.Rows L2 PySem.W
def RD (K : PySem.W.Frag) (H : Hp) (u : Value) (d : PyData) : Prop := ∃ x, RelV x u ∧ Dp K H x d
section
variable {K : PySem.W.Frag} {H : Hp}
theorem each_of : ∀ {xs : List V} {us : List Value} {ds : List PyData}, Vals xs us → DpAll K H xs ds → EachIs (RD K H) us ds
  | _, _, _, .nil, h => by
    cases h
    exact .nil
  | _, _, _, .cons r rs, h => by
    cases h with
    | cons a b => exact .cons ⟨_, r, a⟩ (each_of rs b)
theorem of_each : ∀ {us : List Value} {ds : List PyData}, EachIs (RD K H) us ds → ∃ xs, Vals xs us ∧ DpAll K H xs ds
  | _, _, .nil => ⟨[], .nil, .nil⟩
  | _, _, .cons ⟨x, r, a⟩ h => by
    obtain ⟨xs, rs, b⟩ := of_each h
    exact ⟨x :: xs, .cons r rs, .cons a b⟩
end
/-- the order in which sorted tells -/
def told (ds : List PyData) : List PyData := ds.mergeSort (dataLe false id)
def rSortD (K : PySem.W.Frag) : List V → Hp → VK → Prop := fun xs H Q => ∃ (a : Addr) (vs : List V) (ds : List PyData), xs = [.ref a] ∧ SqL K H a vs ∧ DpAll K H vs ds ∧ AllAlike ds ∧ Sortable ds ∧ ds.length ≤ 1000 ∧ (∀ d ∈ ds, d.depth ≤ 50) ∧
  ∀ (us : List V) (p : Addr), H p = none → DpAll K H us (told ds) → Q (.ref p) (upd H p (.lst us))
theorem call_sortedD {X : Cx} (hu : X.A.units + 64 < cLine) : CallR X (.builtin "sorted") (rSortD X.K) := by
  intro pins s σ H xs us Q I r h
  obtain ⟨a, vs, ds, rfl, hs, hA, al, so, hz, hd, q⟩ := h
  obtain ⟨u, rfl, ru⟩ := r.one
  cases ru
  obtain ⟨its, rv, hl, _⟩ := I.list hs
  have e := each_of rv hA
  have er : EachIs (fun v b => ∃ as, Reads s.heap v (id b) as) its ds := e.mono fun v d ⟨x, r1, r2⟩ => Dp.reads I d x v r2 r1
  have zl : sizeLine = 16777216 := rfl
  refine sorted_data (enc := id) hl.isList e er (by rw [List.map_id]; exact al) (by rw [List.map_id]; exact so) (by omega) (fun b hb => ?_) fun out hlen eo => ?_
  · have := hd b hb
    show X.A.units + 2 + b.depth < cLine
    omega
  · obtain ⟨ws, r2, A2⟩ := of_each eo
    obtain ⟨ep, he⟩ := sortedAll_at s.heap its (List.toArray out)
    have hw : ws.length ≤ sizeLine := by
      have := r2.length
      omega
    exact ⟨.ref _, upd H (s.heap.objs.size + 1) (.lst ws), I.laid (t' := s.toks) (fun _ _ => sortedAll_old) (Nat.le_succ _) ⟨hw, out, ep, r2, he⟩, rfl, q ws _ (I.hok.fresh (Nat.le_succ _)) A2⟩
end Gd
end

section
set_option Elab.async false
set_option linter.all false
set_option maxRecDepth 100000
set_option maxHeartbeats 4000000
/-! Sorted lists of the same things are the same. -/
namespace Gd
open PySem PySem.Spec PyProof.Rows L2 PySem.W
theorem perm_sorted {α : Type} {r : α → α → Prop} : ∀ {l u : List α}, l.Perm u → l.Pairwise r → u.Pairwise r → (∀ a ∈ l, ∀ b ∈ l, r a b → r b a → a = b) → l = u
  | [], u, p, _, _, _ => (List.nil_perm.mp p).symm
  | a :: l, [], p, _, _, _ => absurd p.length_eq (by simp)
  | a :: l, b :: u, p, h1, h2, an => by
    have ha : a ∈ b :: u := p.subset (by simp)
    have hb : b ∈ a :: l := p.symm.subset (by simp)
    rw [List.pairwise_cons] at h1 h2
    have e : a = b := by
      rcases List.mem_cons.mp ha with e | ha
      · exact e
      · rcases List.mem_cons.mp hb with e | hb'
        · exact e.symm
        · exact an a (by simp) b hb (h1.1 b hb') (h2.1 a ha)
    subst e
    rw [perm_sorted (List.Perm.cons_inv p) h1.2 h2.2 fun x hx y hy => an x (by simp [hx]) y (by simp [hy])]
theorem le_trans (a b c : PyData) (h1 : dataLe false id a b = true) (h2 : dataLe false id b c = true) : dataLe false id a c = true := by
  have g : ∀ x y : PyData, dataLe false id x y = !dataLt y x := fun _ _ => rfl
  rw [g] at h1 h2 ⊢
  cases h : dataLt c a with
  | false => rfl
  | true =>
    rcases lex_negTrans (O := itemOrd) (keyToks c) (keyToks b) (keyToks a) h with q | q
    · have : dataLt c b = true := q
      rw [this] at h2
      cases h2
    · have : dataLt b a = true := q
      rw [this] at h1
      cases h1
theorem le_total (a b : PyData) : (dataLe false id a b || dataLe false id b a) = true := by
  have g : ∀ x y : PyData, dataLe false id x y = !dataLt y x := fun _ _ => rfl
  rw [g, g]
  cases h : dataLt b a with
  | false => rfl
  | true =>
    cases h2 : dataLt a b with
    | false => rfl
    | true =>
      have := lex_trans (O := itemOrd) (keyToks a) (keyToks b) (keyToks a) h2 h
      rw [lex_irrefl] at this
      cases this
theorem told_sorted (ds : List PyData) : (told ds).Pairwise fun a b => dataLe false id a b = true := List.pairwise_mergeSort le_trans le_total ds
theorem told_perm (ds : List PyData) : (told ds).Perm ds := List.mergeSort_perm ds _
/-- sorted of the same things in another order -/
theorem told_same {ds es : List PyData} (p : ds.Perm es) (an : ∀ a ∈ ds, ∀ b ∈ ds, dataLe false id a b = true → dataLe false id b a = true → a = b) : told ds = told es := by
  refine perm_sorted ((told_perm ds).trans (p.trans (told_perm es).symm)) (told_sorted ds) (told_sorted es) fun a ha b hb => ?_
  exact an a ((told_perm ds).mem_iff.mp ha) b ((told_perm ds).mem_iff.mp hb)
end Gd
end

section
set_option Elab.async false
set_option linter.all false
/-! sorted texts: one order alone. -/
namespace Gd
open PySem PySem.Spec PyProof.Rows L2
def leS (a b : Str) : Prop := ltCps b.cps.toList a.cps.toList = false
theorem leS_trans {a b c : Str} (h : leS a b) (g : leS b c) : leS a c := by
  unfold leS at *
  rw [ltCps_eq, decide_eq_false_iff_not] at *
  exact List.le_trans (α := Nat) h g
theorem leS_anti {a b : Str} (h : leS a b) (g : leS b a) : a = b := by
  unfold leS at *
  rw [ltCps_eq, decide_eq_false_iff_not] at *
  have e : a.cps.toList = b.cps.toList := List.le_antisymm (α := Nat) h g
  have e2 : a.cps = b.cps := Array.toList_inj.mp e
  cases a
  cases b
  simp at e2
  subst e2
  rfl
theorem rising_all : ∀ (l : List Str) (p : Str), risingS p l = true → (p :: l).Pairwise leS
  | [], p, _ => by simp
  | x :: r, p, h => by
    simp only [risingS, Bool.and_eq_true, Bool.not_eq_true'] at h
    have ih := rising_all r x h.2
    refine List.pairwise_cons.mpr ⟨fun y hy => ?_, ih⟩
    rcases List.mem_cons.mp hy with e | hy
    · rw [e]
      exact h.1
    · exact leS_trans h.1 ((List.pairwise_cons.mp ih).1 y hy)
theorem sorted_all : ∀ (l : List Str), sortedS l = true → l.Pairwise leS
  | [], _ => List.Pairwise.nil
  | x :: r, h => rising_all r x h
theorem sortedS_one {l u : List Str} (p : l.Perm u) (h : sortedS l = true) (g : sortedS u = true) : l = u :=
  perm_sorted p (sorted_all l h) (sorted_all u g) fun _ _ _ _ a b => leS_anti a b
end Gd
end

section
set_option Elab.async false
set_option linter.all false
set_option maxRecDepth 100000
set_option maxHeartbeats 4000000
/-! A def whose code object is known: for defs that hold lambdas. -/
namespace Gd
open PySem PySem.Spec PyProof.Rows L2 LamX
structure FunC (K : PySem.W.Frag) (x qual : Str) (st : Stmt) (f : Addr) (fd : FuncData) (c : Addr) : Prop where
  ex : ∃ (oc : Value) (od : Option Addr) (kV doc pm : Value) (an : Option Addr) (ct : Value) (osl : Array (Option Value)),
    fd = PySem.W.fnOf x qual (defArgs st) (defBody st) (defScope st) .none kV doc pm an (.ref c) ct ∧ K.lookup f = some ⟨oc, od, .func fd, osl⟩ ∧ PySem.W.codeIn K (.ref c) qual = true
  kp : PySem.W.keepIn K (.ref f) = true
theorem FunC.fn {K : PySem.W.Frag} {x qual : Str} {st : Stmt} {f : Addr} {fd : FuncData} {c : Addr} (F : FunC K x qual st f fd c) : Fun K x qual st f fd := by
  obtain ⟨oc, od, kV, doc, pm, an, ct, osl, h⟩ := F.ex
  exact ⟨⟨oc, od, kV, doc, pm, an, .ref c, ct, osl, h⟩, F.kp⟩
section
variable {P : Program} {w : World} {K : PySem.W.Frag} {mg : Str → Option Value} {base : Heap}
theorem okC {x ql : Str} {st : Stmt} {f c : Addr} {fd : FuncData} {N ps : List Str} {n : Nat} {sp : Sp}
    (F : FunC K x ql st f fd c) (S : FnScope N ps (defScope st)) (len : ∀ vs H Q E, sp vs H Q E → vs.length = ps.length)
    (hb : ∀ (A : Around) (out : List Env) (s : Shared) (H : Hp) (vs : List V) (Q : VK) (E : XK),
      Room n (A.deeper (envOfC ql (defScope st) s.heap.objs.size f (.ref c))) → sp vs H Q E →
      ∃ t, PSs (cxOf CX0 P w K mg base N ql (defScope st) f (.ref c) A out s H E).nox (defBody st) t ∧
        t { nx := fun _ H' => Q .non H', rt := Q } (start N vs) H) :
    FnOk P w K mg base CX0 (n + 1) f fd ps sp := by
  obtain ⟨oc, od, kV, dc, pm, an, ct, sl, rfl, lk, hc⟩ := F.ex
  refine fn_of lk hc S len fun A outer s H vs Q E hr hsp => ?_
  obtain ⟨t, h, q⟩ := hb A outer s H vs Q E hr hsp
  exact ⟨t, h.nox, q⟩
theorem okCG {x ql : Str} {st : Stmt} {f c : Addr} {fd : FuncData} {N ps : List Str} {n : Nat} {sp : Sp}
    (F : FunC K x ql st f fd c) (S : FnScope N ps (defScope st)) (len : ∀ vs H Q E, sp vs H Q E → vs.length = ps.length)
    (hb : ∀ (A : Around) (out : List Env) (s : Shared) (H : Hp) (vs : List V) (Q : VK) (E : XK),
      Free (A.deeper (envOfC ql (defScope st) s.heap.objs.size f (.ref c))) →
      Room n (A.deeper (envOfC ql (defScope st) s.heap.objs.size f (.ref c))) → sp vs H Q E →
      ∃ t, PSs (cxOf CX0 P w K mg base N ql (defScope st) f (.ref c) A out s H E).nox (defBody st) t ∧
        t { nx := fun _ H' => Q .non H', rt := Q } (start N vs) H) :
    FnG P w K mg base CX0 (n + 1) f fd ps sp := by
  obtain ⟨oc, od, kV, dc, pm, an, ct, sl, rfl, lk, hc⟩ := F.ex
  refine FnG.body lk hc S len ?_
  intro A out s H vs Q E g hr hsp
  obtain ⟨t, h, q⟩ := hb A out s H vs Q E g hr hsp
  exact ⟨t, h.nox, q⟩
end
/-- in a lambda's body a call lets out what the lambda may -/
theorem passLam {X : Cx} {A : Around} {outer : List Env} {s : Shared} {H : Hp} {E : XK} {scope : Scope} {f c' : Addr} : Passes (L2.CX X.prog X.w) (lamCx X A outer s H E scope f c') E :=
  passes_call (takes_of rfl rfl rfl rfl) (fun _ _ _ _ h => h)
end Gd
end

section
set_option Elab.async false
set_option linter.all false
set_option maxRecDepth 100000
set_option maxHeartbeats 4000000
/-! repr of data, the reading of a promise that is free of texts under way. -/
namespace Gd
open PySem PySem.Spec PyProof.Rows L2

section
variable {K : PySem.W.Frag} {H : Hp}
mutual
theorem Dp.plain : ∀ (d : PyData) {v : V}, Dp K H v d → d.hasDict = false
  | .none, _, _ => by simp only [PyData.hasDict]
  | .bool _, _, _ => by simp only [PyData.hasDict]
  | .int _, _, _ => by simp only [PyData.hasDict]
  | .str _, _, _ => by simp only [PyData.hasDict]
  | .list ds, _, h => by
    cases h with
    | lst _ k =>
      simp only [PyData.hasDict]
      exact DpAll.plain ds k
  | .tuple ds, _, h => by
    cases h with
    | tup _ k =>
      simp only [PyData.hasDict]
      exact DpAll.plain ds k
  | .dict _, _, h => by cases h
theorem DpAll.plain : ∀ (ds : List PyData) {vs : List V}, DpAll K H vs ds → PyData.hasDictAll ds = false
  | [], _, _ => by simp only [PyData.hasDictAll]
  | d :: ds, _, h => by
    cases h with
    | cons a b =>
      simp only [PyData.hasDictAll, Dp.plain d a, DpAll.plain ds b, Bool.or_self]
end
end

/-- repr(x), x data -/
def rRepr (K : PySem.W.Frag) : List V → Hp → VK → Prop := fun xs H Q =>
  ∃ (x : V) (d : PyData), xs = [x] ∧ Dp K H x d ∧ d.showable = true ∧ d.shown.length ≤ sizeLine ∧ d.depth ≤ 60 ∧ Q (.str d.shown) H

section
variable {X : Cx}
theorem call_repr (g : Free X.A) (hu : X.A.units + 64 < cLine) : CallR X (.builtin "repr") (rRepr X.K) := by
  intro pins s σ H xs us Q I r h
  obtain ⟨x, d, rfl, hd, hs, hz, hdp, q⟩ := h
  obtain ⟨u, rfl, ru⟩ := r.one
  have pl := Dp.plain d hd
  obtain ⟨as, rd⟩ := Dp.reads I d x u hd ru
  have fin : ∀ (h' : Heap) (tk tk' : Nat), (∀ b o, s.heap.get? b = some o → h'.get? b = some o) →
      EP X pins σ Q (.str d.shown tk) { s with heap := h', toks := tk' } :=
    fun h' tk tk' k => ⟨.str d.shown, H, I.kept k, ⟨tk, rfl⟩, q⟩
  have fin0 : ∀ (tk tk' : Nat), EP X pins σ Q (.str d.shown tk) { s with toks := tk' } :=
    fun tk tk' => ⟨.str d.shown, H, I.tok tk', ⟨tk, rfl⟩, q⟩
  cases rd with
  | none => exact P.repr_of_none (fin0 _ _)
  | bool b => exact P.repr_of_bool (fin0 _ _)
  | int i t => exact P.repr_of_int (by simpa [PyData.showable] using hs) (fin0 _ _)
  | str z t => exact P.repr_of_str (fin0 _ _) hz
  | list h1 h2 h3 h4 =>
    exact repr_of_reads' (.list h1 h2 h3 h4) hs (PyData.noDict_hsm pl) g (by omega) (fun _ _ e => e) (fun h' u tk k => fin h' u tk k) hz
  | tuple h1 h2 h3 h4 =>
    exact repr_of_reads' (.tuple h1 h2 h3 h4) hs (PyData.noDict_hsm pl) g (by omega) (fun _ _ e => e) (fun h' u tk k => fin h' u tk k) hz
  | dict h1 h2 h3 h4 h5 => simp [PyData.hasDict] at pl
end
end Gd
end

section
set_option Elab.async false
set_option linter.all false
set_option maxRecDepth 100000
set_option maxHeartbeats 4000000
/-! Exceptions of the program's own classes as values: made, looked at, asked for their class. -/
namespace Gd
open PySem PySem.Spec PyProof.Rows L2

/-- what the written part must say of a class of exceptions so that its objects are looked at -/
structure EvC (K : PySem.W.Frag) (C : Addr) : Prop where
  ga : PySem.W.findIn K (.ref C) "__getattribute__" = some (some (.builtin "BaseException.__getattribute__"))
  gt : PySem.W.findIn K (.ref C) "__getattr__" = some none
  sub : PySem.W.subIn K (.ref C) (.type "BaseException") = some true
  hd : PySem.W.hasDictIn K C = true
  cl : PySem.W.findIn K (.ref C) "__class__" = some (some (.builtin "object.__class__"))
  mo : PySem.W.mroIn K C (.type "object") = some true
/-- of the built-in that tells an object's class -/
structure EvB (K : PySem.W.Frag) : Prop where
  gt : PySem.W.specialIn K (.builtin "object.__class__") "__get__" = some (some (.builtin "getset_descriptor.__get__"))
  tk : PySem.W.takesIn K (.builtin "object.__class__") = some true

section
variable {X : Cx} {pins : List (Addr × Obj)} {σ : L2.St} {H : Hp} {s : Shared} {a C dx : Addr} {fs : List (Str × V)}
/-- how such an object lies: without a dict, with one -/
theorem lies0 (I : Inv X pins σ H s) (e : H a = some (exo a C none)) : ∃ ox, PySem.W.InstAt s.heap a ox C none := by
  obtain ⟨t, g⟩ := exo_at I.hok e
  exact ⟨_, g, rfl, rfl, trivial⟩
theorem lies1 (I : Inv X pins σ H s) (e : H a = some (exo a C (some dx))) (ed : H dx = some (exd dx fs)) :
    ∃ ox od, PySem.W.InstAt s.heap a ox C (some od) ∧ ∀ f v, fs.lookup f = some v → ∃ u, RelV v u ∧ PySem.W.lookIn f od = some (some u) := by
  obtain ⟨t, g⟩ := exo_at I.hok e
  obtain ⟨m, n, r⟩ := exd_at I.hok ed
  obtain ⟨od, ho, hl⟩ := lookIn_ns n
  refine ⟨_, od, ⟨g, rfl, rfl, ho⟩, ?_⟩
  intro f v hv
  obtain ⟨u, hu, ru⟩ := RelO.some_of (v := v) (o := m f) (by rw [← hv]; exact r f)
  exact ⟨u, ru, by rw [hl, hu]⟩
end

/-- isinstance(e, c), e an exception of an own class -/
def rIsE (K : PySem.W.Frag) : List V → Hp → VK → Prop := fun xs H Q =>
  ∃ (a C : Addr) (c : V) (u : Value) (b : Bool), xs = [.ref a, c] ∧ ClsV c u ∧ EvC K C ∧ EvB K ∧
    (H a = some (exo a C none) ∨ ∃ dx fs, H a = some (exo a C (some dx)) ∧ H dx = some (exd dx fs)) ∧
    PySem.W.kitOne K (.ref C) u = some b ∧ Q (.bl b) H
theorem call_isE {X : Cx} : CallR X (.builtin "isinstance") (rIsE X.K) := by
  intro pins s σ H xs us Q I r h
  obtain ⟨a, C, c, u, b, rfl, k, T, B, at_, e, q⟩ := h
  obtain ⟨u1, u2, rfl, r1, r2⟩ := vals2 r
  cases k.eq r2
  obtain rfl : u1 = Value.ref a := r1
  have hcl := (PySem.W.any_some T.hd)
  have hcl' : (PySem.W.clsIn X.K C).isSome = true := by
    obtain ⟨cd, hc, _⟩ := hcl
    rw [hc]
    rfl
  have fin : ∀ tk, EP X pins σ Q (.bool b) { s with toks := tk } := fun tk => ⟨.bl b, H, I.tok tk, rfl, q⟩
  rcases at_ with ea | ⟨dx, fs, ea, ed⟩
  · obtain ⟨ox, J⟩ := lies0 I ea
    exact PySem.W.kia_one (PySem.W.kitx_exc hcl' T.ga T.gt T.sub T.cl B.gt B.tk T.mo) I.kIn J e (fun z => nomatch z) fin
  · obtain ⟨ox, od, J, _⟩ := lies1 I ea ed
    exact PySem.W.kia_one (PySem.W.kitx_exc hcl' T.ga T.gt T.sub T.cl B.gt B.tk T.mo) I.kIn J e (fun z => nomatch z) fin

/-- e.f, e an exception with a dict -/
def tEf (K : PySem.W.Frag) (f : Str) (te : TE) : TE := fun σ H Q => te σ H fun x H1 =>
  ∃ (a C dx : Addr) (fs : List (Str × V)) (v : V), x = .ref a ∧ H1 a = some (exo a C (some dx)) ∧ H1 dx = some (exd dx fs) ∧ EvC K C ∧
    PySem.W.findIn K (.ref C) f = some none ∧ fs.lookup f = some v ∧ Q v H1
theorem pe_ef {X : Cx} {e : Expr} {f : Str} {te : TE} {pos : Pos} (he : PE X e te)
    (hb : attributeBase e f X.env (eval e X.env) = eval e X.env := by rfl) : PE X (.Attribute e f pos) (tEf X.K f te) := by
  constructor
  intro pins s σ H Q I h
  refine attr_of hb (thn (he.run pins s σ H _ I h) ?_)
  rintro u s1 ⟨x, H1, J, rx, a, C, dx, fs, v, rfl, ea, ed, T, hno, l, q⟩
  obtain rfl : u = Value.ref a := rx
  obtain ⟨ox, od, at_, look⟩ := lies1 J ea ed
  obtain ⟨u, ru, hu⟩ := look f v l
  exact HandSPX.exc_get J.kIn at_ T.ga T.gt T.sub (PySem.W.findObj_own T.hd hno rfl hu) (handed_of ru) ⟨v, H1, J.tok _, ru, q⟩
end Gd
end

section
set_option Elab.async false
set_option linter.all false
set_option maxRecDepth 100000
set_option maxHeartbeats 4000000
/-! try: body / except x as n: suite, where the body raises on every way and the suite keeps the exception: what follows knows of the object (it is pinned there). -/
namespace Gd
open PySem PySem.Spec PyProof.Rows L2
section
variable {X : Cx} {pins : List (Addr × Obj)} {σ : L2.St} {H : Hp} {s : Shared}
/-- the suite is left, its exception stays pinned -/
theorem leftBy {a : Addr} {q : Addr × Obj} (I : Inv (X.suite a (q :: (X.pn ++ pins))) [] σ H s) (ok : X.Ok) : Inv X (q :: pins) σ H s :=
  ⟨ok, I.os, I.bare, I.base, I.loc, I.cell, I.free, I.freeC, fun p hp => I.pin p (by
    rcases List.mem_append.mp hp with h | h
    · exact List.mem_append_left _ (List.mem_cons_of_mem _ (List.mem_append_left _ h))
    · rcases List.mem_cons.mp h with h | h
      · rw [h]; exact List.mem_append_left _ List.mem_cons_self
      · exact List.mem_append_left _ (List.mem_cons_of_mem _ (List.mem_append_right _ h))), I.hok, I.len⟩
theorem pinIn {q : Addr × Obj} (I : Inv X (q :: pins) σ H s) : Inv (X.tr (q :: (X.pn ++ pins)) X.xe) [] σ H s :=
  ⟨I.ok.toTry _ _, I.os, I.bare, I.base, I.loc, I.cell, I.free, I.freeC, fun p hp => I.pin p (by
    have hp : p ∈ q :: (X.pn ++ pins) := by rw [List.append_nil] at hp; exact hp
    rcases List.mem_cons.mp hp with h | h
    · rw [h]; exact List.mem_append_right _ List.mem_cons_self
    · rcases List.mem_append.mp h with h | h
      · exact List.mem_append_left _ h
      · exact List.mem_append_right _ (List.mem_cons_of_mem _ h)), I.hok, I.len⟩
theorem pinOut {q : Addr × Obj} {xe : Value → Shared → Prop} (I : Inv (X.tr (q :: (X.pn ++ pins)) xe) [] σ H s) (ok : X.Ok) : Inv X pins σ H s :=
  ⟨ok, I.os, I.bare, I.base, I.loc, I.cell, I.free, I.freeC, fun p hp => I.pin p (List.mem_append_left _ (List.mem_cons_of_mem _ hp)), I.hok, I.len⟩
end
/-- what is wished of the body's exception -/
def wKeep (K : PySem.W.Frag) (c : Value) (l i : Nat) (ts tr : Addr → Value → Option Addr → TS) (D : Ends) : WX := fun cls d σ H =>
  PySem.W.exmOne K cls c = some true ∧ (σ.length = l → ∀ a, H a = none → ts a cls d { nx := fun σ' H' => tr a cls d D (σ'.set i none) H', rt := fun _ _ => False } (σ.set i (some (.ref a))) H)
def tKeepP (K : PySem.W.Frag) (c : Value) (l i : Nat) (tb : WX → TS) (ts tr : Addr → Value → Option Addr → TS) : TS := fun D σ H =>
  tb (wKeep K c l i ts tr D) { nx := fun _ _ => False, rt := fun _ _ => False } σ H
section
variable {X : Cx} {x n : Str} {c : Value} {i : Nat} {body suite rest : List Stmt} {b₀ : Stmt} {np pos pos' : Pos} {tb : WX → TS} {ts tr : Addr → Value → Option Addr → TS}
theorem pss_keep (hs : X.stack = X.env :: X.outer) (hf : X.env.frame = some X.env.locals) (hN : X.N.Nodup) (hi : X.N[i]? = some n) (hln : X.env.kindOf n = some .local) (hc : Names X x c)
    (hb : ∀ (W : WX) (pn : List (Addr × Obj)) (xe : Value → Shared → Prop), Takes (X.tr pn xe) W → PassesOwn (model X.prog X.w) X.A X.env xe → PSs (X.tr pn xe) body (tb W))
    (hsu : ∀ (a : Addr) (oe : Obj) (cls : Value) (d : Option Addr) (pn : List (Addr × Obj)), Zc cls d oe → (∃ vs, oe.data = .fields vs) → PSs (X.suite a ((a, oe) :: pn)) (b₀ :: suite) (ts a cls d))
    (hre : ∀ (a : Addr) (oe : Obj) (cls : Value) (d : Option Addr) (pn : List (Addr × Obj)), Zc cls d oe → (∃ vs, oe.data = .fields vs) → PSs (X.tr ((a, oe) :: pn) X.xe) rest (tr a cls d)) :
    PSs X (.Try body [.ExceptHandler (some (.Name x np)) (some n) (b₀ :: suite) pos'] [] [] pos :: rest) (tKeepP X.K c X.N.length i tb ts tr) := by
  constructor
  intro pins s σ H D I h
  have ok := I.ok
  have frames : X.A.frames = some (X.env :: X.outer) := ok.frames.trans (congrArg some hs)
  have local_ : Loc X.env.scope n := .inl hln
  refine wpAny_execs_cons (wpAny_Try_except ?_)
  -- what runs behind the statement
  let Nxt : Flow → Shared → Prop := fun f s1 => match f with
    | .next => wpAny (model X.prog X.w) X.A (execs rest X.env) (SP X pins D) X.xe s1
    | f => SP X pins D f s1
  have none_ : ∀ f s1, SP (X.tr (X.pn ++ pins) (fun e s₁ => wpAny (model X.prog X.w) X.A (noteFrame e X.env) (fun _ s₂ => wpAny (model X.prog X.w) X.A (setFlight e none) (fun _ s₃ =>
      wpAny (model X.prog X.w) X.A (handleBy e X.env [.ExceptHandler (some (.Name x np)) (some n) (b₀ :: suite) pos']) Nxt X.xe s₃) X.xe s₂) X.xe s₁)) [] { nx := fun _ _ => False, rt := fun _ _ => False } f s1 → False := by
    intro f s1 z
    cases f with
    | next => obtain ⟨_, _, _, q⟩ := z; exact q
    | brk => obtain ⟨_, _, _, q⟩ := z; exact q
    | cont => obtain ⟨_, _, _, q⟩ := z; exact q
    | ret u => obtain ⟨_, _, _, _, _, q⟩ := z; exact q
  refine wpAny_mono ((hb (wKeep X.K c X.N.length i ts tr D) (X.pn ++ pins) _ (fun u s' caught => ?_) PassesOwn.looking).run [] s σ H _ (I.toTry _) h) (fun f s1 z => (none_ f s1 z).elim) (fun e s1 z => z)
  obtain ⟨a, B, sI, pins', σ1, H1, cls, d, rfl, J', nb, up, sky, na, os, ag, hexm, go⟩ := caught
  have J : Inv X pins σ1 H1 sI := J'.ofTry ok
  rw [hs] at sky
  show wpAny _ X.A (noteFrame (.ref a) X.env) _ _ _
  refine Sky.land Zc.steady frames hf sky fun hA flA upA => ?_
  have JA : Inv X pins σ1 H1 { s' with heap := hA } := J.landed nb flA.1 (up.trans upA) os ag
  obtain ⟨oA, vsA, eA, zA, dA⟩ := flA.there
  have apart : a ∉ frs (X.env :: X.outer) := by
    intro m
    obtain ⟨_, o', e', no⟩ := flA.2.2.1.mem m
    rw [eA] at e'
    cases e'
    exact no _ dA
  have nL : a ≠ X.env.locals := fun z => apart (List.mem_filterMap.mpr ⟨X.env, by simp, by rw [hf, z]⟩)
  have nF : a ∉ X.fs := by
    intro m
    obtain ⟨e, he, q⟩ := List.mem_filterMap.mp m
    exact apart (List.mem_filterMap.mpr ⟨e, by simp [he], q⟩)
  have SA := JA.suite eA dA na nL nF
  refine wpAny_handleBy_cons (codeAny_handlers_test ?_) (by intro q; cases q)
  have type_ : PySem.W.Looks (model X.prog X.w) hA (typeOf (.ref a)) cls := fun A Q E s k q => wpAny_typeOf_ref (k _ _ eA) (by rw [zA.1]; exact q)
  have meets := PySem.W.exm_one (M := model X.prog X.w) JA.kIn type_ hexm
  have clause : ∀ {Q : Value → Shared → Prop} {E : Value → Shared → Prop}, Q c { s' with heap := hA } → wpAny (model X.prog X.w) (X.A.mark (some (.ref a))) (eval (.Name x np) X.env) Q E { s' with heap := hA } := by
    intro Q E q
    obtain ⟨hg, hdbg, hm | ⟨hm, hv, hnn⟩⟩ := hc
    · exact ld_glob (X := X.suite a ((a, oA) :: (X.pn ++ pins))) SA hg hm q hdbg
    · exact ld_blt (X := X.suite a ((a, oA) :: (X.pn ++ pins))) SA hg hm hv q hnn hdbg
  refine clause (meets.here (codeAny_handlers_suite_as (HandSPX.lands_againZ flA fun hB flB upB => ?_)))
  obtain ⟨oB, vsB, eB, zB, dB⟩ := flB.there
  have SB := (J.landed nb flB.1 ((up.trans upA).trans upB) os ag : Inv X pins σ1 H1 { s' with heap := hB }).suite eB dB na nL nF
  refine store_ok (X := X.suite a ((a, oB) :: (X.pn ++ pins))) (v := .ref a) SB hN hi local_ rfl (fun s5 S5 => ?_) (.inr hln)
  refine wpAny_mono ((hsu a oB cls d (X.pn ++ pins) zB ⟨_, dB⟩).run [] s5 _ H1 _ S5 (go J.len a na)) (fun f s6 z => ?_) (fun _ _ z => False.elim z)
  cases f with
  | next =>
    obtain ⟨σ6, H6, S6, q6⟩ := z
    refine gone_ok (leftBy S6 ok) hN hi hln fun s7 J7 => ?_
    refine wpAny_mono ((hre a oB cls d (X.pn ++ pins) zB ⟨_, dB⟩).run [] s7 _ _ D (pinIn J7) q6) (fun f s8 z => ?_) (fun _ _ z => z)
    cases f with
    | next => obtain ⟨σ8, H8, S8, q⟩ := z; exact ⟨σ8, H8, pinOut S8 ok, q⟩
    | brk => obtain ⟨σ8, H8, S8, q⟩ := z; exact ⟨σ8, H8, pinOut S8 ok, q⟩
    | cont => obtain ⟨σ8, H8, S8, q⟩ := z; exact ⟨σ8, H8, pinOut S8 ok, q⟩
    | ret u => obtain ⟨v8, σ8, H8, S8, r8, q⟩ := z; exact ⟨v8, σ8, H8, pinOut S8 ok, r8, q⟩
  | brk => obtain ⟨_, _, _, q⟩ := z; exact q.elim
  | cont => obtain ⟨_, _, _, q⟩ := z; exact q.elim
  | ret u => obtain ⟨_, _, _, _, _, q⟩ := z; exact q.elim
end
end Gd
end

section
set_option Elab.async false
set_option linter.all false
set_option maxRecDepth 100000
set_option maxHeartbeats 4000000
/-! try: body / except (x1, x2) as n: suite, the exception kept (as Ky); and where the body does not raise. -/
namespace Gd
open PySem PySem.Spec PyProof.Rows L2
theorem Flying.push {B : Heap} {l : List Env} {a : Addr} {Z : Obj → Prop} {h : Heap} (f : HandSPX.FlyingZ B l a Z h) (o : Obj) : HandSPX.FlyingZ B l a Z (h.push o) := by
  obtain ⟨f1, f2, f3, oe, vs, T, oT, ts, e1, e2, e3, e4, e5, e6, e7, e8, e9⟩ := f
  exact ⟨fun b u e => Heap.get?_push_of_some _ (f1 b u e), f2, Heap.FunFrames.of_keeps (fun b u e _ => ⟨u, Heap.get?_push_of_some _ e, rfl⟩) f3, oe, vs, T, oT, ts, Heap.get?_push_of_some _ e1, e2, e3, e4, e5, e6, Heap.get?_push_of_some _ e7, e8, e9⟩
theorem upToSlots_push (h : Heap) (o : Obj) : h.UpToSlots (h.push o) := fun b u e _ => ⟨u.slots, Heap.get?_push_of_some _ e⟩
/-- what is wished of the body's exception -/
def wKeep2 (K : PySem.W.Frag) (c1 c2 : Value) (l i : Nat) (ts tr : Addr → Value → Option Addr → TS) (D : Ends) : WX := fun cls d σ H =>
  PySem.W.exmAny K cls [c1, c2] = some true ∧ (σ.length = l → ∀ a, H a = none → ts a cls d { nx := fun σ' H' => tr a cls d D (σ'.set i none) H', rt := fun _ _ => False } (σ.set i (some (.ref a))) H)
def tKeep2 (K : PySem.W.Frag) (c1 c2 : Value) (l i : Nat) (tb : WX → TS) (ts tr : Addr → Value → Option Addr → TS) : TS := fun D σ H =>
  tb (wKeep2 K c1 c2 l i ts tr D) { nx := fun _ _ => False, rt := fun _ _ => False } σ H
section
variable {X : Cx} {x1 x2 n : Str} {c1 c2 : Value} {i kk : Nat} {body suite rest : List Stmt} {b₀ : Stmt} {np1 np2 tpos pos pos' : Pos} {tb : WX → TS} {ts tr : Addr → Value → Option Addr → TS}
theorem pss_keep2 (hs : X.stack = X.env :: X.outer) (hf : X.env.frame = some X.env.locals) (hN : X.N.Nodup) (hi : X.N[i]? = some n) (hln : X.env.kindOf n = some .local) (hc1 : Names X x1 c1) (hc2 : Names X x2 c2)
    (hb : ∀ (W : WX) (pn : List (Addr × Obj)) (xe : Value → Shared → Prop), Takes (X.tr pn xe) W → PassesOwn (model X.prog X.w) X.A X.env xe → PSs (X.tr pn xe) body (tb W))
    (hsu : ∀ (a : Addr) (oe : Obj) (cls : Value) (d : Option Addr) (pn : List (Addr × Obj)), Zc cls d oe → (∃ vs, oe.data = .fields vs) → PSs (X.suite a ((a, oe) :: pn)) (b₀ :: suite) (ts a cls d))
    (hre : ∀ (a : Addr) (oe : Obj) (cls : Value) (d : Option Addr) (pn : List (Addr × Obj)), Zc cls d oe → (∃ vs, oe.data = .fields vs) → PSs (X.tr ((a, oe) :: pn) X.xe) rest (tr a cls d)) :
    PSs X (.Try body [.ExceptHandler (some (.Tuple [.Name x1 np1, .Name x2 np2] kk tpos)) (some n) (b₀ :: suite) pos'] [] [] pos :: rest) (tKeep2 X.K c1 c2 X.N.length i tb ts tr) := by
  constructor
  intro pins s σ H D I h
  have ok := I.ok
  have frames : X.A.frames = some (X.env :: X.outer) := ok.frames.trans (congrArg some hs)
  have local_ : Loc X.env.scope n := .inl hln
  refine wpAny_execs_cons (wpAny_Try_except ?_)
  -- what runs behind the statement
  let Nxt : Flow → Shared → Prop := fun f s1 => match f with
    | .next => wpAny (model X.prog X.w) X.A (execs rest X.env) (SP X pins D) X.xe s1
    | f => SP X pins D f s1
  have none_ : ∀ f s1, SP (X.tr (X.pn ++ pins) (fun e s₁ => wpAny (model X.prog X.w) X.A (noteFrame e X.env) (fun _ s₂ => wpAny (model X.prog X.w) X.A (setFlight e none) (fun _ s₃ =>
      wpAny (model X.prog X.w) X.A (handleBy e X.env [.ExceptHandler (some (.Tuple [.Name x1 np1, .Name x2 np2] kk tpos)) (some n) (b₀ :: suite) pos']) Nxt X.xe s₃) X.xe s₂) X.xe s₁)) [] { nx := fun _ _ => False, rt := fun _ _ => False } f s1 → False := by
    intro f s1 z
    cases f with
    | next => obtain ⟨_, _, _, q⟩ := z; exact q
    | brk => obtain ⟨_, _, _, q⟩ := z; exact q
    | cont => obtain ⟨_, _, _, q⟩ := z; exact q
    | ret u => obtain ⟨_, _, _, _, _, q⟩ := z; exact q
  refine wpAny_mono ((hb (wKeep2 X.K c1 c2 X.N.length i ts tr D) (X.pn ++ pins) _ (fun u s' caught => ?_) PassesOwn.looking).run [] s σ H _ (I.toTry _) h) (fun f s1 z => (none_ f s1 z).elim) (fun e s1 z => z)
  obtain ⟨a, B, sI, pins', σ1, H1, cls, d, rfl, J', nb, up, sky, na, os, ag, hexm, go⟩ := caught
  have J : Inv X pins σ1 H1 sI := J'.ofTry ok
  rw [hs] at sky
  show wpAny _ X.A (noteFrame (.ref a) X.env) _ _ _
  refine Sky.land Zc.steady frames hf sky fun hA flA upA => ?_
  have JA : Inv X pins σ1 H1 { s' with heap := hA } := J.landed nb flA.1 (up.trans upA) os ag
  obtain ⟨oA, vsA, eA, zA, dA⟩ := flA.there
  have apart : a ∉ frs (X.env :: X.outer) := by
    intro m
    obtain ⟨_, o', e', no⟩ := flA.2.2.1.mem m
    rw [eA] at e'
    cases e'
    exact no _ dA
  have nL : a ≠ X.env.locals := fun z => apart (List.mem_filterMap.mpr ⟨X.env, by simp, by rw [hf, z]⟩)
  have nF : a ∉ X.fs := by
    intro m
    obtain ⟨e, he, q⟩ := List.mem_filterMap.mp m
    exact apart (List.mem_filterMap.mpr ⟨e, by simp [he], q⟩)
  have SA := JA.suite eA dA na nL nF
  refine wpAny_handleBy_cons (codeAny_handlers_test ?_) (by intro q; cases q)
  have clause : ∀ {x : Str} {c : Value} {p : Pos} (hc : Names X x c) {Q : Value → Shared → Prop} {E : Value → Shared → Prop}, Q c { s' with heap := hA } → wpAny (model X.prog X.w) (X.A.mark (some (.ref a))) (eval (.Name x p) X.env) Q E { s' with heap := hA } := by
    intro x c p hc Q E q
    obtain ⟨hg, hdbg, hm | ⟨hm, hv, hnn⟩⟩ := hc
    · exact ld_glob (X := X.suite a ((a, oA) :: (X.pn ++ pins))) SA hg hm q hdbg
    · exact ld_blt (X := X.suite a ((a, oA) :: (X.pn ++ pins))) SA hg hm hv q hnn hdbg
  refine Tuple_ (spliced_more (clause hc1 (spliced_more (clause hc2 (spliced_none ?_)))))
  refine wpAny_newObj_type ?_
  have flP := Flying.push flA { cls := .type "tuple", dict := none, data := .seq [c1, c2].toArray }
  have upP := upToSlots_push hA { cls := .type "tuple", dict := none, data := .seq [c1, c2].toArray }
  have hp : (hA.push { cls := .type "tuple", dict := none, data := .seq [c1, c2].toArray }).get? hA.objs.size = some { cls := .type "tuple", dict := none, data := .seq [c1, c2].toArray } := Heap.get?_push_size _ rfl
  have eP := Heap.get?_push_of_some { cls := .type "tuple", dict := none, data := .seq [c1, c2].toArray } eA
  show wpAny (model X.prog X.w) (X.A.mark (some (.ref a))) (excMatches (.ref a) (.ref hA.objs.size)) _ _ { s' with heap := hA.push { cls := .type "tuple", dict := none, data := .seq [c1, c2].toArray } }
  have kIn : X.K.In (hA.push { cls := .type "tuple", dict := none, data := .seq [c1, c2].toArray }) := (J.landed nb flP.1 ((up.trans upA).trans upP) os ag : Inv X pins σ1 H1 { s' with heap := hA.push { cls := .type "tuple", dict := none, data := .seq [c1, c2].toArray } }).kIn
  generalize hA.push { cls := .type "tuple", dict := none, data := .seq [c1, c2].toArray } = hQ at flP upP hp eP kIn ⊢
  have type_ : PySem.W.Looks (model X.prog X.w) hQ (typeOf (.ref a)) cls := fun A Q E s k q => wpAny_typeOf_ref (k _ _ eP) (by rw [zA.1]; exact q)
  have meets := PySem.W.exm_tup2 (M := model X.prog X.w) kIn type_ hp hexm
  refine meets.here (codeAny_handlers_suite_as (HandSPX.lands_againZ flP fun hB flB upB => ?_))
  obtain ⟨oB, vsB, eB, zB, dB⟩ := flB.there
  have SB := (J.landed nb flB.1 (((up.trans upA).trans upP).trans upB) os ag : Inv X pins σ1 H1 { s' with heap := hB }).suite eB dB na nL nF
  refine store_ok (X := X.suite a ((a, oB) :: (X.pn ++ pins))) (v := .ref a) SB hN hi local_ rfl (fun s5 S5 => ?_) (.inr hln)
  refine wpAny_mono ((hsu a oB cls d (X.pn ++ pins) zB ⟨_, dB⟩).run [] s5 _ H1 _ S5 (go J.len a na)) (fun f s6 z => ?_) (fun _ _ z => False.elim z)
  cases f with
  | next =>
    obtain ⟨σ6, H6, S6, q6⟩ := z
    refine gone_ok (leftBy S6 ok) hN hi hln fun s7 J7 => ?_
    refine wpAny_mono ((hre a oB cls d (X.pn ++ pins) zB ⟨_, dB⟩).run [] s7 _ _ D (pinIn J7) q6) (fun f s8 z => ?_) (fun _ _ z => z)
    cases f with
    | next => obtain ⟨σ8, H8, S8, q⟩ := z; exact ⟨σ8, H8, pinOut S8 ok, q⟩
    | brk => obtain ⟨σ8, H8, S8, q⟩ := z; exact ⟨σ8, H8, pinOut S8 ok, q⟩
    | cont => obtain ⟨σ8, H8, S8, q⟩ := z; exact ⟨σ8, H8, pinOut S8 ok, q⟩
    | ret u => obtain ⟨v8, σ8, H8, S8, r8, q⟩ := z; exact ⟨v8, σ8, H8, pinOut S8 ok, r8, q⟩
  | brk => obtain ⟨_, _, _, q⟩ := z; exact q.elim
  | cont => obtain ⟨_, _, _, q⟩ := z; exact q.elim
  | ret u => obtain ⟨_, _, _, _, _, q⟩ := z; exact q.elim
/-- the body does not raise: whatever the clauses are -/
theorem ps_try_calm {hds : List ExceptHandler} {h₀ : ExceptHandler} (hs : X.stack = X.env :: X.outer)
    (hb : ∀ (W : WX) (pn : List (Addr × Obj)) (xe : Value → Shared → Prop), Takes (X.tr pn xe) W → PassesOwn (model X.prog X.w) X.A X.env xe → PSs (X.tr pn xe) body (tb W)) :
    PS X (.Try body (h₀ :: hds) [] [] pos) (tb fun _ _ _ _ => False) := by
  refine ⟨fun pins s σ H D I h => ?_⟩
  have ok := I.ok
  refine wpAny_Try_except ?_
  refine wpAny_mono ((hb (fun _ _ _ _ => False) (X.pn ++ pins) (fun e s₁ => wpAny (model X.prog X.w) X.A (noteFrame e X.env) (fun _ s₂ => wpAny (model X.prog X.w) X.A (setFlight e none) (fun _ s₃ =>
    wpAny (model X.prog X.w) X.A (handleBy e X.env (h₀ :: hds)) (SP X pins D) X.xe s₃) X.xe s₂) X.xe s₁) (fun u s' xx => ?_) PassesOwn.looking).run [] s σ H D (I.toTry _) h) (fun f s1 hsp => ?_) (fun e s1 he => he)
  · obtain ⟨a, B, sI, pins', σ', H', cls, d, rfl, J', nb, up, sky, na, os, ag, z⟩ := xx
    exact z.elim
  · cases f with
    | next => obtain ⟨σ8, H8, S8, q⟩ := hsp; exact wpAny_execs_nil ⟨σ8, H8, S8.ofTry ok, q⟩
    | brk => obtain ⟨σ8, H8, S8, q⟩ := hsp; exact ⟨σ8, H8, S8.ofTry ok, q⟩
    | cont => obtain ⟨σ8, H8, S8, q⟩ := hsp; exact ⟨σ8, H8, S8.ofTry ok, q⟩
    | ret u => obtain ⟨v8, σ8, H8, S8, r8, q⟩ := hsp; exact ⟨v8, σ8, H8, S8.ofTry ok, r8, q⟩
end
end Gd
end

section
set_option Elab.async false
set_option linter.all false
set_option maxRecDepth 100000
set_option maxHeartbeats 4000000
/-! isinstance of an exception that is pinned, with a dict of its own or without; its fields. -/
namespace Gd
open PySem PySem.Spec PyProof.Rows L2
def rIsPD (K : PySem.W.Frag) (a : Addr) (cls : Value) (d : Option Addr) : List V → Hp → VK → Prop := fun xs H Q => ∃ (C : Addr) (b : Bool), cls = .ref C ∧ (d = none ∨ ∃ dd fs, d = some dd ∧ H dd = some (.xd fs)) ∧ EvC K C ∧ EvB K ∧
  ((∃ (c : V) (u : Value), xs = [.ref a, c] ∧ ClsV c u ∧ PySem.W.kitOne K (.ref C) u = some b) ∨
    ∃ (tp : Addr) (cs : List V) (us : List Value), xs = [.ref a, .ref tp] ∧ H tp = some (.tup cs) ∧ Paired ClsV cs us ∧ PySem.W.kitAny K (.ref C) us = some b) ∧ Q (.bl b) H
theorem call_isPD {X : Cx} {a : Addr} {oe : Obj} {cls : Value} {d : Option Addr} (mem : (a, oe) ∈ X.pn) (hz : Zc cls d oe) (hd : ∃ vs, oe.data = .fields vs) : CallR X (.builtin "isinstance") (rIsPD X.K a cls d) := by
  intro pins s σ H xs us Q I r h
  obtain ⟨C, b, rfl, hdd, T, B, way, q⟩ := h
  have at_ := (I.pin (a, oe) (List.mem_append_left _ mem)).1
  obtain ⟨od, J⟩ : ∃ od, PySem.W.InstAt s.heap a oe C od := by
    rcases hdd with rfl | ⟨dd, fs, rfl, ed⟩
    · exact ⟨none, at_, hz.1, by obtain ⟨vs, e⟩ := hd; unfold PySem.W.notCls; rw [e], by rw [hz.2]; trivial⟩
    · have hx : ObjOk X.prog X.w H s.heap dd (.xd fs) := I.hok dd _ ed
      obtain ⟨mA, hns, hr⟩ := hx
      obtain ⟨od, ho, hl⟩ := lookIn_ns hns
      exact ⟨some od, at_, hz.1, by obtain ⟨vs, e⟩ := hd; unfold PySem.W.notCls; rw [e], by rw [hz.2]; exact ho⟩
  obtain ⟨cd, hc, _⟩ := PySem.W.any_some T.hd
  have hcl : (PySem.W.clsIn X.K C).isSome = true := by
    rw [hc]
    rfl
  have Z := PySem.W.kitx_exc (x := a) (ox := oe) (od := od) hcl T.ga T.gt T.sub T.cl B.gt B.tk T.mo
  have fin : ∀ tk, EP X pins σ Q (.bool b) { s with toks := tk } := fun tk => ⟨.bl b, H, I.tok tk, rfl, q⟩
  rcases way with ⟨c, u, rfl, k, e⟩ | ⟨tp, cs, ws, rfl, hT, k, e⟩
  · obtain ⟨u1, u2, rfl, r1, r2⟩ := vals2 r
    cases k.eq r2
    obtain rfl : u1 = Value.ref a := r1
    exact PySem.W.kia_one Z I.kIn J e (fun z => nomatch z) fin
  · obtain ⟨u1, u2, rfl, r1, r2⟩ := vals2 r
    obtain rfl : u1 = Value.ref a := r1
    obtain rfl : u2 = Value.ref tp := r2
    obtain ⟨_, its, rv, o, h1, h2, n, h3⟩ := (show ObjOk X.prog X.w H s.heap tp (.tup cs) from I.hok tp _ hT)
    cases ClsV.all k rv
    obtain ⟨oc, od', dt, sl⟩ := o
    simp only at h2 h3
    subst h2 h3
    exact PySem.W.kia_tup Z I.kIn J h1 e (fun z => nomatch z) fin
/-- e.f of a pinned exception -/
def tXfP (K : PySem.W.Frag) (a : Addr) (cls : Value) (d : Option Addr) (f : Str) (te : TE) : TE := fun σ H Q => te σ H fun x H1 => x = .ref a ∧ ∃ (C dd : Addr) (fs : List (Str × V)) (v : V), cls = .ref C ∧ d = some dd ∧ H1 dd = some (.xd fs) ∧ EvC K C ∧ PySem.W.findIn K (.ref C) f = some none ∧ fs.lookup f = some v ∧ Q v H1
theorem pe_xfP {X : Cx} {a : Addr} {oe : Obj} {cls : Value} {d : Option Addr} {e : Expr} {te : TE} {pos : Pos} {n : Str} (mem : (a, oe) ∈ X.pn) (hz : Zc cls d oe) (hf : ∃ vs, oe.data = .fields vs) (he : PE X e te)
    (hb : attributeBase e n X.env (eval e X.env) = eval e X.env := by rfl) : PE X (.Attribute e n pos) (tXfP X.K a cls d n te) := by
  refine ⟨fun pins s σ H Q I h => ?_⟩
  refine attr_of hb (thn (he.run pins s σ H _ I h) fun u s1 hh => ?_)
  obtain ⟨x, H1, I1, rx, ex, C, dd, fs, v, ec, ed, ea, T, hno, l, q⟩ := hh
  subst ex
  obtain rfl : u = Value.ref a := rx
  subst ec
  subst ed
  obtain ⟨ha, _⟩ := I1.pin (a, oe) (List.mem_append_left _ mem)
  obtain ⟨vs, hd⟩ := hf
  have hx : ObjOk X.prog X.w H1 s1.heap dd (.xd fs) := I1.hok dd _ ea
  obtain ⟨mA, hns, hr⟩ := hx
  obtain ⟨od, ho, hl⟩ := lookIn_ns hns
  obtain ⟨u, hu, ru⟩ := RelO.some_of (v := v) (o := mA n) (by rw [← l]; exact hr n)
  have J : PySem.W.InstAt s1.heap a oe C (some od) := ⟨ha, hz.1, by unfold PySem.W.notCls; rw [hd] <;> rfl, by rw [hz.2]; exact ho⟩
  exact HandSPX.exc_get I1.kIn J T.ga T.gt T.sub (PySem.W.findObj_own T.hd hno rfl (by rw [hl, hu])) (handed_of ru) ⟨v, H1, I1.tok _, ru, q⟩
end Gd
end

section
set_option Elab.async false
set_option linter.all false
set_option maxRecDepth 100000
set_option maxHeartbeats 4000000
/-! xs.count(b), xs a list of truths. -/
namespace Gd
open PySem PySem.Spec PyProof.Rows L2
def isB (b : Bool) (v : Value) : Bool := match v with
  | .bool c => c == b
  | _ => false
theorem isB_at {A : Around} {s : Shared} {b : Bool} : ∀ {us : List Value} {bs : List Bool}, Vals (bs.map V.bl) us → ∀ y ∈ us, SeqAt.EqAt A s y (.bool b) (isB b y)
  | [], _, _ => fun y hy => nomatch hy
  | _ :: _, [], r => nomatch r
  | u :: us, c :: bs, r => fun y hy => by
    cases r with
    | cons h t =>
      obtain rfl : u = Value.bool c := h
      rcases List.mem_cons.mp hy with e | e
      · subst e
        exact SeqAt.EqAt.bool_bool c b
      · exact isB_at t y e
theorem isB_count {b : Bool} : ∀ {us : List Value} {bs : List Bool}, Vals (bs.map V.bl) us → us.countP (isB b) = bs.count b
  | [], [], _ => rfl
  | [], _ :: _, r => nomatch r
  | _ :: _, [], r => nomatch r
  | u :: us, c :: bs, r => by
    cases r with
    | cons h t =>
      obtain rfl : u = Value.bool c := h
      have ih := isB_count (b := b) t
      rw [List.countP_cons, List.count_cons, ih]
      rfl
def rCntB (K : PySem.W.Frag) : V → List V → Hp → VK → Prop := fun x xs H Q => ∃ (p : Addr) (bs : List Bool) (b : Bool), x = .ref p ∧ xs = [.bl b] ∧
  SqL K H p (bs.map V.bl) ∧ Q (.int (bs.count b : Nat)) H
theorem mt_countB {X : Cx} : MtR X "list.count" (rCntB X.K) := by
  intro pins s σ H x xs v us Q I rx rxs h
  obtain ⟨p, bs, b, rfl, rfl, hs, q⟩ := h
  obtain rfl : v = Value.ref p := rx
  obtain ⟨u, rfl, ru⟩ := rxs.one
  obtain rfl : u = Value.bool b := ru
  obtain ⟨its, rv, ⟨⟨cls, dd, data, sl⟩, n, ho, hc, hdn, hd⟩, hlen⟩ := I.list hs
  simp only at hc hd
  subst hc hd
  have ty : s.TypeIs (.ref p) "list" := ⟨_, ho, rfl⟩
  have ar := PySem.F.args_list_count_2 (.ref p) (.bool b)
  refine call_meets PySem.F.slot_list_count ty PySem.F.entry_list_count ar
    (SeqAt.list_countAt p its.toArray n dd sl (.bool b) (isB b)) ⟨ho, fun y hy => isB_at rv y (by simpa using hy), ?_⟩
  have ec : its.toArray.toList.countP (isB b) = bs.count b := isB_count rv
  refine ⟨.int (bs.count b : Nat), H, I.tok _, ⟨s.toks, ?_⟩, q⟩
  show Value.int ((its.toArray.toList.countP (isB b) : Nat) : Int) s.toks = _
  rw [ec]
end Gd
end

section
set_option Elab.async false
set_option linter.all false
set_option maxRecDepth 100000
set_option maxHeartbeats 4000000
/-! Exceptions of own classes over ValueError, made as values. -/
namespace Gd
open PySem PySem.Spec PyProof.Rows L2

/-- C(..), C without an __init__ of its own -/
def tExB (C : Addr) (ta : TA) : TE := fun σ H Q => ta σ H fun vs H1 =>
  vs.length ≤ 1000 ∧ ∀ a, H1 a = none → Q (.ref a) (upd H1 a (exo a C none))
/-- C(..) with its own __init__, which keeps sp -/
def tExI (C : Addr) (sp : Sp) (ta : TA) : TE := fun σ H Q => ta σ H fun vs H1 =>
  vs.length ≤ 1000 ∧ ∀ a, H1 a = none →
    sp (.ref a :: vs) (upd H1 a (exo a C none)) (fun v H2 => v = .non ∧ Q (.ref a) H2) (fun _ _ _ => False)

section
variable {X : Cx} {pins : List (Addr × Obj)} {σ : L2.St} {H : Hp} {s : Shared} {C : Addr} {Q : VK}
theorem exB_run {us : List Value} {vs : List V} (T : OexC X.K C)
    (iB : PySem.W.findIn X.K (.ref C) "__init__" = some (some (.builtin "ValueError.__init__")))
    (I : Inv X pins σ H s) (r : Vals vs us) (hz : vs.length ≤ 1000)
    (q : ∀ a, H a = none → Q (.ref a) (upd H a (exo a C none))) :
    wpAny (model X.prog X.w) X.A (call (.ref C) us) (EP X pins σ Q) X.xe s := by
  obtain ⟨nm, qn, N, bs, bm, sn, sub, ab, col, dd, k0, k1, k2, k3, k5, hC, hbm⟩ := T.cls
  obtain ⟨hp, g, d, t, os⟩ := s
  have hu : us.length ≤ sizeLine := by
    rw [← Paired.length r, sizeLine_eq]
    omega
  have tails := fun Y : String => PySem.HandSPX.refsVE_contains Y bm hbm
  refine PySem.W.call_B F.excBase_ValueError tails (I.kIn _ _ hC) (PySem.W.looks_findIn I.kIn iB) hu ?_
  intro h' k e1 e2
  have up : hp.objs.size ≤ hp.objs.size + 1 := Nat.le_succ _
  have J := I.laid (t' := t) (a := hp.objs.size + 1) (o := exo (hp.objs.size + 1) C none) k up (exo_ok e1)
  exact ⟨.ref (hp.objs.size + 1), _, J, rfl, q _ (I.hok.fresh up)⟩
end

section
variable {X : Cx} {C : Addr} {x : Str} {p pos : Pos} {e : Expr} {es : List Expr} {ta : TA}
theorem pe_exB0 (T : OexC X.K C)
    (iB : PySem.W.findIn X.K (.ref C) "__init__" = some (some (.builtin "ValueError.__init__")))
    (hg : Gl X x) (hm : X.mg x = some (.ref C)) (hdb : (x == ("__debug__" : Str)) = false := by decide) :
    PE X (.Call (.Name x p) [] [] pos) (tExB C tNil) := by
  constructor
  intro pins s σ H Q I h
  refine wpAny_Call_Name_kw (ld_glob I hg hm ?_ hdb)
  exact PySem.W.callWith_K0 I.kIn T.kC (exB_run (us := []) T iB I .nil h.1 h.2)
theorem pe_exB (T : OexC X.K C)
    (iB : PySem.W.findIn X.K (.ref C) "__init__" = some (some (.builtin "ValueError.__init__")))
    (hg : Gl X x) (hm : X.mg x = some (.ref C)) (ha : PA X (e :: es) ta)
    (hdb : (x == ("__debug__" : Str)) = false := by decide)
    (he : starEach (e :: es) X.env = (false, eval e X.env) :: starEach es X.env := by rfl)
    (hpl : (backTo pos (starEach es X.env)).any (·.1) = false := by rfl) :
    PE X (.Call (.Name x p) (e :: es) [] pos) (tExB C ta) := by
  constructor
  intro pins s σ H Q I h
  refine wpAny_Call_Name_kw (ld_glob I hg hm ?_ hdb)
  refine PySem.W.callWith_K (h₀ := X.base) I.ok.mod.kin T.kC (thn (ha.run pos pins s σ H _ I h) ?_) he hpl
  rintro us s1 ⟨vs, H1, J, r, hz, q⟩
  exact ⟨J.kIn, exB_run T iB J r hz q⟩
end

section
variable {X : Cx} {pins : List (Addr × Obj)} {σ : L2.St} {H : Hp} {s : Shared} {C fI : Addr} {Q : VK}
  {cx : CXT} {n : Nat} {fd : FuncData} {ps : List Str} {sp : Sp}
/-- what is left where the object is laid and its __init__ is called -/
theorem exI_end {us : List Value} {vs : List V} {hp : Heap} {g : Array GenState} {d : Drawn} {t : Nat} {os : OsState} {A : Around}
    (F1 : FnOk X.prog X.w X.K X.mg X.base cx n fI fd ps sp) (hr : Room (n + 1) X.A)
    (eA : A = X.A.under (.builtin "type.__call__" ⟨.ref C :: us, []⟩))
    (hb : Binds X.K fd ps []) (hx : Passes cx X (fun _ _ _ => False)) (I : Inv X pins σ H ⟨hp, g, d, t, os⟩) (r : Vals vs us)
    (q : ∀ a, H a = none → sp (.ref a :: vs) (upd H a (exo a C none)) (fun v H2 => v = .non ∧ Q (.ref a) H2) (fun _ _ _ => False)) :
    codeAny (model X.prog X.w) A (.call (.ref fI) ⟨.ref (hp.objs.size + 1) :: us, []⟩)
      (PySem.W.InitBack (hp.objs.size + 1) fun o s' => match o with | .ok (.ret u) => EP X pins σ Q u s' | .ok _ => False | .error er => X.xe er s')
      ⟨(hp.push (PySem.W.kdv_tup us)).push (PySem.HandSPX.excO C hp.objs.size), g, d, t, os⟩ := by
  subst eA
  have up : hp.objs.size ≤ hp.objs.size + 1 := Nat.le_succ _
  have new := I.hok.fresh up
  have hq := q _ new
  have kk : ∀ b o, hp.get? b = some o →
      ((hp.push (PySem.W.kdv_tup us)).push (PySem.HandSPX.excO C hp.objs.size)).get? b = some o :=
    fun b o z => Heap.get?_push_of_some _ (Heap.get?_push_of_some _ z)
  have here : ((hp.push (PySem.W.kdv_tup us)).push (PySem.HandSPX.excO C hp.objs.size)).get? (hp.objs.size + 1)
      = some (PySem.HandSPX.excO C hp.objs.size) := by heap_get
  have J := I.laid (t' := t) (a := hp.objs.size + 1) (o := exo (hp.objs.size + 1) C none) kk up (exo_ok here)
  have r2 : Vals (V.ref (hp.objs.size + 1) :: vs) (Value.ref (hp.objs.size + 1) :: us) := .cons rfl r
  have hl : ((Value.ref (hp.objs.size + 1) :: us) ++ []).length = ps.length := by
    rw [List.append_nil, ← F1.len _ _ _ _ hq]
    exact (Paired.length r2).symm
  have bd := hb _ (Value.ref (hp.objs.size + 1) :: us) J.kIn hl
  rw [List.append_nil] at bd
  have all := F1.run _ X.stack _ _ ⟨Value.ref (hp.objs.size + 1) :: us, []⟩ _ _ _ _ (hr.make C us []) (J.env0.make C us []) bd r2 hq
  refine codeAny_mono all ?_
  intro o s' z
  cases o with
  | error er => exact hx pins σ _ _ er s' J z
  | ok fl =>
    cases fl with
    | ret u =>
      obtain ⟨v, H2, J2, rv, ev, q2⟩ := J.after z
      subst ev
      exact ⟨rv, .ref (hp.objs.size + 1), H2, J2, rfl, q2⟩
    | _ => exact False.elim z
/-- how the class at C is called, its __init__ being the def at fI -/
def Makes (P : Program) (w : World) (K : PySem.W.Frag) (C fI : Addr) : Prop :=
  ∀ (A : Around) (R : Result → Shared → Prop) (hp : Heap) (g : Array GenState) (d : Drawn) (t : Nat) (os : OsState) (us : List Value),
    K.In hp → us.length ≤ sizeLine →
    codeAny (model P w) (A.under (.builtin "type.__call__" ⟨.ref C :: us, []⟩)) (.call (.ref fI) ⟨.ref (hp.objs.size + 1) :: us, []⟩)
      (PySem.W.InitBack (hp.objs.size + 1) R) ⟨(hp.push (PySem.W.kdv_tup us)).push (PySem.HandSPX.excO C hp.objs.size), g, d, t, os⟩ →
    codeAny (model P w) A (.call (.ref C) ⟨us, []⟩) R ⟨hp, g, d, t, os⟩
theorem makesVE {P : Program} {w : World} {K : PySem.W.Frag} (T : OexC K C)
    (iC : PySem.W.findIn K (.ref C) "__init__" = some (some (.ref fI))) (tI : PySem.W.typeIn K (.ref fI) = some (.type "function")) :
    Makes P w K C fI := by
  obtain ⟨nm, qn, N, bs, bm, sn, sub, ab, col, dd, k0, k1, k2, k3, k5, hC, hbm⟩ := T.cls
  intro A R hp g d t os us X hu hq
  have tails := fun Y : String => PySem.HandSPX.refsVE_contains Y bm hbm
  have init := PySem.W.looks_findIn (M := model P w) X iC
  have bound := fun self => PySem.W.bind_fn (M := model P w) X self tI
  exact PySem.HandSPX.call_own F.excBase_ValueError tails (X _ _ hC) init bound hu hq
theorem exI_run {us : List Value} {vs : List V} (mk : Makes X.prog X.w X.K C fI)
    (F1 : FnOk X.prog X.w X.K X.mg X.base cx n fI fd ps sp) (hr : Room (n + 1) X.A)
    (hb : Binds X.K fd ps []) (hx : Passes cx X (fun _ _ _ => False)) (I : Inv X pins σ H s) (r : Vals vs us) (hz : vs.length ≤ 1000)
    (q : ∀ a, H a = none → sp (.ref a :: vs) (upd H a (exo a C none)) (fun v H2 => v = .non ∧ Q (.ref a) H2) (fun _ _ _ => False)) :
    wpAny (model X.prog X.w) X.A (call (.ref C) us) (EP X pins σ Q) X.xe s := by
  obtain ⟨hp, g, d, t, os⟩ := s
  have hu : us.length ≤ sizeLine := by
    rw [← Paired.length r, sizeLine_eq]
    omega
  have all := mk X.A _ hp g d t os us I.kIn hu
    (exI_end (A := X.A.under (.builtin "type.__call__" ⟨.ref C :: us, []⟩)) F1 hr rfl hb hx I r q)
  refine wpAny_call (codeAny_mono all ?_)
  intro o s' z
  exact z
end
section
variable {X : Cx} {C fI : Addr} {x : Str} {p pos : Pos} {e : Expr} {es : List Expr} {ta : TA}
  {cx : CXT} {n : Nat} {fd : FuncData} {ps : List Str} {sp : Sp}
theorem pe_exI (mk : Makes X.prog X.w X.K C fI) (kC : PySem.W.keepIn X.K (.ref C) = true)
    (F1 : FnOk X.prog X.w X.K X.mg X.base cx n fI fd ps sp) (hr : Room (n + 1) X.A)
    (hb : Binds X.K fd ps []) (hx : Passes cx X (fun _ _ _ => False))
    (hg : Gl X x) (hm : X.mg x = some (.ref C)) (ha : PA X (e :: es) ta)
    (hdb : (x == ("__debug__" : Str)) = false := by decide)
    (he : starEach (e :: es) X.env = (false, eval e X.env) :: starEach es X.env := by rfl)
    (hpl : (backTo pos (starEach es X.env)).any (·.1) = false := by rfl) :
    PE X (.Call (.Name x p) (e :: es) [] pos) (tExI C sp ta) := by
  constructor
  intro pins s σ H Q I h
  refine wpAny_Call_Name_kw (ld_glob I hg hm ?_ hdb)
  refine PySem.W.callWith_K (h₀ := X.base) I.ok.mod.kin kC (thn (ha.run pos pins s σ H _ I h) ?_) he hpl
  rintro us s1 ⟨vs, H1, J, r, hz, q⟩
  exact ⟨J.kIn, exI_run mk F1 hr hb hx J r hz q⟩
end
end Gd
end

section
set_option Elab.async false
set_option linter.all false
set_option maxRecDepth 100000
set_option maxHeartbeats 4000000
/-! An own class of exceptions straight over KeyError, whose __init__ is its own. -/
namespace PySem
namespace Gk
open PySem.Calls PyProof.Rows PySem.HandSPX
abbrev tail : List Value := [.type "KeyError", .type "LookupError", .type "Exception", .type "BaseException", .type "object"]
abbrev F := PySem.F.excBase_LookupError
section
variable {M : Model} {A : Around} {E : Value → Shared → Prop} {h : Heap} {g : Array GenState} {d : Drawn} {t : Nat} {os : OsState}
  {nm q : Str} {C N : Addr} {bs : List Value} {hdct : Bool} {sn : List Str} {sub : List Value} {ab : Bool} {col : Option Bool}
  {dd : Option Addr} {k0 k1 k2 k3 k5 : Option Value}
theorem inB (C : Addr) : (Value.ref C :: tail).contains (.type "LookupError") = true := by
  rw [List.contains_cons]
  exact Bool.or_eq_true_iff.mpr (.inr (by decide +kernel))
theorem notA (C : Addr) : (Value.ref C :: tail).contains (.type "AttributeError") = false := by
  rw [List.contains_cons]
  exact Bool.or_eq_false_iff.mpr ⟨rfl, by decide +kernel⟩
theorem notN (C : Addr) : (Value.ref C :: tail).contains (.type "NameError") = false := by
  rw [List.contains_cons]
  exact Bool.or_eq_false_iff.mpr ⟨rfl, by decide +kernel⟩
theorem check_newK {rest : List Value} {Q : Unit → Shared → Prop}
    (hC : h.get? C = some (excClassObj nm q C N bs tail hdct sn sub ab col dd k0 k1 k2 k3 k5 "LookupError.__new__"))
    (hq : Q () ⟨h, g, d, t, os⟩) : wpAny M A (checkBuiltinCall "LookupError.__new__" ⟨.ref C :: rest, []⟩) Q E ⟨h, g, d, t, os⟩ := by
  have b := inB C
  have z := F.noStar
  simp only [checkBuiltinCall, F.newKind, F.newSplit, F.newRow]
  repeat (first
    | refine wpAny_loadPart_at hC ?_
    | (refine wpAny_isSubtype_exc hC ?_
       rw [b])
    | refine wpAny_staticBase_exc hC ?_
    | refine wpAny_madeBy_exc hC ?_
    | simp only [bne_self_eq_false, Bool.false_eq_true, if_false]
    | wp_step)
  exact hq
end
section
variable {prog : Program} {w : World} {A : Around} {E : Value → Shared → Prop} {R : Result → Shared → Prop} {h : Heap} {g : Array GenState}
  {d : Drawn} {t : Nat} {os : OsState} {nm q : Str} {C N : Addr} {bs : List Value} {hdct : Bool} {sn : List Str} {sub : List Value}
  {ab : Bool} {col : Option Bool} {dd : Option Addr} {k0 k1 k2 k3 k5 : Option Value}
theorem newK {rest : List Value}
    (hC : h.get? C = some (excClassObj nm q C N bs tail hdct sn sub ab col dd k0 k1 k2 k3 k5 "LookupError.__new__"))
    (hq : R (.ok (.ret (.ref (h.objs.size + 1)))) ⟨(h.push (W.kdv_tup rest)).push (excO C h.objs.size), g, d, t, os⟩)
    (hrest : rest.length ≤ sizeLine) :
    codeAny (model prog w) A (.builtin "LookupError.__new__" ⟨.ref C :: rest, []⟩) R ⟨h, g, d, t, os⟩ := by
  have ends := F.ends
  have b := inB C
  have a := notA C
  have n := notN C
  have en := F.entry
  refine codeAny_builtinAt en ?_
  unfold Builtin.«BaseException.__new__»
  refine wpAt_bind ?_
  show wpAt _ _ _ (stack >>= _) _ _ _
  refine wpAt_bind (wpAt_stack ?_)
  intro p below
  refine wpAt_of_wpAny ?_
  wp_walk
  refine wpAt_of_wpAny ?_
  have ow := F.owner
  rw [ow]
  repeat (first
    | with_reducible refine wpAny_madeHere_exc F.canon hC ?_
    | with_reducible refine wpAny_loadPart_at hC ?_
    | (with_reducible refine wpAny_isSubtype_exc hC ?_
       first
         | rw [b]
         | rw [a]
         | rw [n])
    | wp_step)
  show R _ _
  rw [Heap.size_push]
  exact hq
theorem typeCallK {rest : List Value} {fI : Addr} {Q : Fin → Shared → Prop}
    (hC : h.get? C = some (excClassObj nm q C N bs tail hdct sn sub ab col dd k0 k1 k2 k3 k5 "LookupError.__new__"))
    (hi : W.Looks (model prog w) h (typeLookup (.ref C) "__init__") (some (.ref fI)))
    (hb : ∀ self, W.Looks (model prog w) h (bindSpecial (.ref fI) self) (.ref fI, [self])) (hrest : rest.length ≤ sizeLine)
    (hq : codeAny (model prog w) A (.call (.ref fI) ⟨.ref (h.objs.size + 1) :: rest, []⟩)
      (fun r s' => match r with
        | .ok (.ret v) => v = .none ∧ Q (.done (.ret (.ref (h.objs.size + 1)))) s'
        | .ok _ => False
        | .error e => E e s')
      ⟨(h.push (W.kdv_tup rest)).push (excO C h.objs.size), g, d, t, os⟩) :
    wpAny (model prog w) A (Builtin.«type.__call__» ⟨.ref C :: rest, []⟩) Q E ⟨h, g, d, t, os⟩ := by
  repeat (first
    | with_reducible refine wpAny_loadPart_at hC ?_
    | with_reducible refine wpAny_madeBy_exc hC ?_
    | wp_step)
  have qn := Code.quiet_builtin (⟨.ref C :: rest, []⟩ : Args) F.quiet
  refine codeAny_call_builtin_code qn (check_newK hC ?_)
  refine newK hC ?_ hrest
  show wpAny _ _ _ _ _ _
  have k : ∀ b o, h.get? b = some o → ((h.push (W.kdv_tup rest)).push (excO C h.objs.size)).get? b = some o := by
    intro b o e
    exact Heap.get?_push_of_some _ (Heap.get?_push_of_some _ e)
  have hC1 := k _ _ hC
  have here : ((h.push (W.kdv_tup rest)).push (excO C h.objs.size)).get? (h.objs.size + 1) = some (excO C h.objs.size) := by
    heap_get
  have self : (Value.ref C :: tail).contains (.ref C) = true := by simp
  have i1 := hi.keeps k
  have b1 := (hb (.ref (h.objs.size + 1))).keeps k
  unfold isInstance
  repeat (first
    | with_reducible refine wpAny_loadPart_at here ?_
    | (with_reducible refine wpAny_isSubtype_exc hC1 ?_
       rw [self])
    | wp_step)
  show wpAny _ _ (typeLookup (.ref C) _) _ _ _
  refine i1.at ?_
  refine wpAny_holding (wpAny_bind (b1.at ?_))
  refine wpAny_bind (wpAny_call (codeAny_mono hq ?_))
  intro r s' z
  rcases r with e | (v | _ | _ | _)
  all_goals first | exact z | exact z.elim | skip
  obtain ⟨rfl, z⟩ := z
  first
    | exact wpAny_pure (wpAny_pure z)
    | (wp_walk
       exact z)
theorem callK {rest : List Value} {fI : Addr}
    (hC : h.get? C = some (excClassObj nm q C N bs tail hdct sn sub ab col dd k0 k1 k2 k3 k5 "LookupError.__new__"))
    (hi : W.Looks (model prog w) h (typeLookup (.ref C) "__init__") (some (.ref fI)))
    (hb : ∀ self, W.Looks (model prog w) h (bindSpecial (.ref fI) self) (.ref fI, [self])) (hrest : rest.length ≤ sizeLine)
    (hq : codeAny (model prog w) (A.under (.builtin "type.__call__" ⟨.ref C :: rest, []⟩)) (.call (.ref fI) ⟨.ref (h.objs.size + 1) :: rest, []⟩)
      (W.InitBack (h.objs.size + 1) R) ⟨(h.push (W.kdv_tup rest)).push (excO C h.objs.size), g, d, t, os⟩) :
    codeAny (model prog w) A (.call (.ref C) ⟨rest, []⟩) R ⟨h, g, d, t, os⟩ := by
  have f1 := tc_lookup
  have f2 := tc_bind (.ref C)
  have ty : (⟨h, g, d, t, os⟩ : Shared).TypeIs (.ref C) "type" := ⟨_, hC, rfl⟩
  refine codeAny_of_tree ?_
  show wpAny _ _ (callAny (.ref C) _) _ _ _
  repeat (any_goals (first
    | with_reducible exact ty
    | with_reducible exact f1
    | with_reducible exact f2
    | with_reducible refine wpAny_loadPart_at hC ?_
    | wp_step))
  refine ⟨rfl, ?_⟩
  have qt := Code.quiet_builtin (id := "type.__call__") (⟨.ref C :: rest, []⟩ : Args) (by decide +kernel)
  refine codeAny_call_builtin_at qt entry_typeCall (wpAny_check_type_call_sub hC (typeCallK hC hi hb hrest ?_))
  refine codeAny_mono hq ?_
  intro r s' z
  rcases r with e | (v | _ | _ | _)
  all_goals exact z
end
end Gk
end PySem
end

section
set_option Elab.async false
set_option linter.all false
set_option maxRecDepth 100000
set_option maxHeartbeats 4000000
namespace PySem
namespace Gk
open PySem.Calls PyProof.Rows PySem.HandSPX
theorem passK (self : Value) (C : Addr) : refuseLoop self "__setattr__" (.ref C :: tail) = pure () := by
  rw [refuseLoop_ref]
  kernel_rfl
theorem objK (C : Addr) : (Value.ref C :: tail).contains (.type "object") = true := by
  rw [List.contains_cons]
  exact Bool.or_eq_true_iff.mpr (.inr (by decide +kernel))
section
open Builtin Builtin.ObjectAttr
variable {prog : Program} {w : World} {A : Around} {R : Result → Shared → Prop} {hp : Heap} {g : Array GenState} {d : Drawn}
  {t : Nat} {os : OsState}
/-- the first self.name = v of such an object -/
theorem storeK {K : W.Frag} {name : Str} {tk : Tok} {v : Value} {x C : Addr} {fv : Array Value} {cd : ClassData}
    (X : K.In hp) (hx : hp.get? x = some { cls := .ref C, data := .fields fv }) (hcd : W.clsIn K C = some cd)
    (hm : cd.mro = .ref C :: tail) (hh : cd.hasDict = true) (ha : W.findIn K (.ref C) name = some none)
    (hq : ∀ h' tk' dx, (∀ b o, b ≠ x → hp.get? b = some o → h'.get? b = some o) → hp.objs.size ≤ dx → dx ≠ x →
      h'.get? x = some { cls := .ref C, dict := some dx, data := .fields fv } →
      h'.Ns1 dx (fun y => if y = name then some v else none) → R (.ok (.ret .none)) ⟨h', g, d, tk', os⟩) :
    codeAny (model prog w) A (.call (.builtin "object.__setattr__") ⟨[.ref x, .str name tk, v], []⟩) R ⟨hp, g, d, t, os⟩ := by
  have at_ : W.InstAt hp x { cls := .ref C, data := .fields fv } C none := ⟨hx, rfl, rfl, trivial⟩
  have S := PySem.F.store_object
  have ne : cd.mro.isEmpty = false := by rw [hm]; rfl
  have ob : cd.mro.contains (.type "object") = true := by rw [hm]; exact objK C
  have pas : refuseLoop (.ref x) "__setattr__" cd.mro = pure () := by rw [hm]; exact passK _ C
  have apart : x ≠ hp.objs.size := Nat.ne_of_lt (Heap.lt_size hx)
  have mro : W.mroIn K C (.type "object") = some true := by
    unfold W.mroIn
    rw [hcd, Option.bind_some, if_neg (by rw [ne]; decide), ob]
  have sub : W.Looks (model prog w) hp (isInstance (.ref x) (.type "object")) true := at_.type.andThen (W.looks_mroIn X mro)
  have l1 : W.Looks (model prog w) hp (mroOf (.ref C)) cd.mro := (W.looks_clsIn X hcd).andThen .now
  have l2 : W.Looks (model prog w) hp (storeTaker? none) none := .now
  have l3 : W.Looks (model prog w) hp (classData C) cd := W.looks_clsIn X hcd
  have l4 := W.looks_findIn (M := model prog w) X ha
  refine codeAny_call_builtin S.slot.plain S.entry ?_
  refine @W.check_slot (model prog w) _ _ ⟨hp, g, d, t, os⟩ "object.__setattr__" "object" "__setattr__" (.ref x) [.str name tk, v] []
    _ S.kind S.split sub (S.args (.ref x) (.str name tk) v) ?_
  rw [W.osa_eq, refuse_eq]
  refine wpAny_bind (wpAny_bind (at_.type.at (wpAny_bind (l1.at ?_))))
  rw [pas]
  refine wpAny_pure (wpAny_bind (at_.type.at ?_))
  refine wpAny_bind (l4.at (wpAny_bind (l2.at ?_)))
  show wpAny _ _ (storeInOwnDict (.ref x) (.ref C) (.str name tk) name v false) _ _ _
  obtain ⟨nm, bs, mro, ns, qn, hd, sn, sb, ab, col, del⟩ := cd
  dsimp only at hh
  subst hh
  unfold storeInOwnDict ownDictForStores
  repeat (first
    | with_reducible refine store_in_new ?_ ?_
    | with_reducible refine wpAny_loadPart_at hx ?_
    | with_reducible refine l3.at ?_
    | wp_step)
  · refine ⟨_, #[], _, (Heap.get?_update_ne _ _ _ _ apart.symm).trans (Heap.get?_push_at rfl rfl), rfl, ?_, fun _ => rfl⟩
    intro e he
    exact absurd he (by simp)
  · intro h' tk' hn hs
    have hx1 : (hp.push { cls := .type "dict", data := .dict #[] }).get? x = some { cls := .ref C, data := .fields fv } :=
      Heap.get?_push_of_some _ hx
    refine hq h' tk' hp.objs.size ?_ (Nat.le_refl _) apart.symm ?_ hn
    · intro b o hb ho
      have q := hs.2 b (Nat.ne_of_lt (Heap.lt_size ho))
      rw [q, Heap.get?_update_ne _ _ _ _ hb]
      exact Heap.get?_push_of_some _ ho
    · rw [hs.2 x apart]
      exact Heap.get?_update_self _ hx1 rfl
end
end Gk
end PySem
end

section
set_option Elab.async false
set_option linter.all false
set_option maxRecDepth 100000
set_option maxHeartbeats 4000000
/-! The same of an own class over KeyError; an exception raised that is made by its own __init__; the field that it keeps. -/
namespace Gd
open PySem PySem.Spec PyProof.Rows L2

/-- what the written part says of an own class over KeyError -/
structure OexK (K : PySem.W.Frag) (C : Addr) : Prop where
  cls : ∃ nm q N bs sn sub ab col dd k0 k1 k2 k3 k5, K.lookup C =
    some (excClassObj nm q C N bs Gk.tail true sn sub ab col dd k0 k1 k2 k3 k5 "LookupError.__new__")
  sa : PySem.W.findIn K (.ref C) "__setattr__" = some (some (.builtin "object.__setattr__"))
theorem makesKE {P : Program} {w : World} {K : PySem.W.Frag} {C fI : Addr} (T : OexK K C)
    (iC : PySem.W.findIn K (.ref C) "__init__" = some (some (.ref fI))) (tI : PySem.W.typeIn K (.ref fI) = some (.type "function")) :
    Makes P w K C fI := by
  obtain ⟨nm, qn, N, bs, sn, sub, ab, col, dd, k0, k1, k2, k3, k5, hC⟩ := T.cls
  intro A R hp g d t os us X hu hq
  have init := PySem.W.looks_findIn (M := model P w) X iC
  have bound := fun self => PySem.W.bind_fn (M := model P w) X self tI
  exact Gk.callK (X _ _ hC) init bound hu hq

/-- how self.f = .. is stored for the first time -/
def Keeps (X : Cx) (C : Addr) (f : Str) : Prop :=
  ∀ (pins : List (Addr × Obj)) (σ : L2.St) (H : Hp) (s : Shared) (a : Addr) (y : V) (u : Value) (Q : Unit → Shared → Prop)
    (E : Value → Shared → Prop), Inv X pins σ H s → H a = some (exo a C none) → RelV y u →
    (∀ dx s', H dx = none → dx ≠ a → Inv X pins σ (upd (upd H dx (exd dx [(f, y)])) a (exo a C (some dx))) s' → Q () s') →
    wpAny (model X.prog X.w) X.A (setAttr (.ref a) f u) Q E s
theorem keepsVE {X : Cx} {C : Addr} {f : Str} (T : OexC X.K C) (hno : PySem.W.findIn X.K (.ref C) f = some none) : Keeps X C f :=
  fun pins σ H s a y u Q E I e r h => ost_new T I e hno r h
theorem keepsKE {X : Cx} {C : Addr} {f : Str} (T : OexK X.K C) (hno : PySem.W.findIn X.K (.ref C) f = some none) : Keeps X C f := by
  intro pins σ H s a y u Q E I e ry h
  obtain ⟨nm, q, N, bs, sn, sub, ab, col, dd, k0, k1, k2, k3, k5, hC⟩ := T.cls
  obtain ⟨t1, ho⟩ := exo_at I.hok e
  obtain ⟨hp, g, d, t, os⟩ := s
  have hcl := (show PySem.W.clsIn X.K C = some _ by
    unfold PySem.W.clsIn
    rw [hC])
  refine PySem.W.set_plain I.kIn (od := none) ⟨ho, rfl, rfl, trivial⟩ T.sa ?_
  refine Gk.storeK I.kIn ho hcl rfl rfl hno ?_
  intro h' tk' dx k dn dne hx hn
  have hnd : H dx = none := I.hok.fresh dn
  have old : ∀ {b : Addr} {o : Obj}, hp.get? b = some o → b ≠ dx :=
    fun z => Nat.ne_of_lt (Nat.lt_of_lt_of_le (Heap.lt_size z) dn)
  have na : ∀ {b : Addr}, H b = none → b ≠ a := by
    intro b n z
    rw [z, e] at n
    cases n
  refine h dx _ hnd dne (I.un (t' := tk') ?_ ?_)
  · constructor
    · exact fun b o q n _ _ => k b o (na n) q
    · exact fun b o q n _ _ => ⟨o.slots, k b o (na n) q⟩
    · intro b o q n _
      rw [upd_ne (na n), upd_ne (old q)]
      exact n
    · intro b o q _
      by_cases hb : b = a
      · subst hb
        exact ⟨_, hx⟩
      · exact ⟨o, k b o hb q⟩
    · intro b xs q
      rw [upd_ne (at_ne e q exo_tup), upd_ne (ne_of_none q hnd)]
      exact q
    · intro b o v q
      rw [upd_ne (at_ne e q exo_frz), upd_ne (ne_of_none q hnd)]
      exact q
    · intro b ps q
      refine ⟨#[], ?_⟩
      rw [upd_ne (at_ne e q exo_tbl), upd_ne (ne_of_none q hnd), q]
      simp
  · intro b o q
    by_cases hb : b = a
    · subst hb
      rw [upd_same] at q
      cases q
      exact exo_ok hx
    · rw [upd_ne hb] at q
      by_cases hd : b = dx
      · subst hd
        rw [upd_same] at q
        cases q
        exact exd_ok hn (relO_put (fs := []) ry fun g => True.intro)
      · rw [upd_ne hd] at q
        refine (I.hok b o q).stay ?_ ?_ ?_
        · intro c v hc z
          refine k c v ?_ z
          rcases hc with hc | hc
          · exact hc ▸ hb
          · exact at_ne e hc exo_own
        · intro c hc
          rw [upd_ne (at_ne e hc exo_own), upd_ne (ne_of_none hc hnd)]
          exact hc
        · intro c xs hc
          rw [upd_ne (at_ne e hc exo_tup), upd_ne (ne_of_none hc hnd)]
          exact hc

/-- self.f = e, the first one -/
def tKeep (C : Addr) (f : Str) (to te : TE) : TS := fun D σ H => te σ H fun y H1 => to σ H1 fun x H2 => ∃ a : Addr, x = .ref a ∧
  H2 a = some (exo a C none) ∧ ∀ dx, H2 dx = none → dx ≠ a → D.nx σ (upd (upd H2 dx (exd dx [(f, y)])) a (exo a C (some dx)))
theorem ps_keep {X : Cx} {C : Addr} {o e : Expr} {to te : TE} {f : Str} {p' pos : Pos} (k : Keeps X C f) (ho : PE X o to) (he : PE X e te)
    (hs : swapsWith e (some (.Attribute o f p')) pos.line X.env = pure false := by rfl) :
    PS X (.Assign [.Attribute o f p'] e pos) (tKeep C f to te) := by
  constructor
  intro pins s σ H D I h
  refine plainObj_wpAny_Assign_Attribute (thn (he.run pins s σ H _ I h) ?_) hs
  rintro v s1 ⟨y, H1, I1, r1, q1⟩
  refine thn (ho.run pins s1 σ H1 _ I1 q1) ?_
  rintro u s2 ⟨x, H2, I2, r2, a, ex, ea, q⟩
  subst ex
  obtain rfl : u = Value.ref a := r2
  exact k _ _ _ _ _ _ _ _ _ I2 ea r1 fun dx s' n ne J => ⟨σ, _, J, q dx n ne⟩

section
variable {X : Cx} {e : Expr} {es : List Expr} {ta : TA} {p pos : Pos}
/-- raise C(e, ..): what is made -/
theorem pmkM {cx : CXT} {x : Str} {C fI : Addr} {n : Nat} {fd : FuncData} {ps : List Str} {sp : Sp} (mk : Makes X.prog X.w X.K C fI)
    (kC : PySem.W.keepIn X.K (.ref C) = true) (exC : PySem.W.subIn X.K (.ref C) (.type "BaseException") = some true)
    (tyC : PySem.W.typeIn X.K (.ref C) = some (.type "type")) (F1 : FnOk X.prog X.w X.K X.mg X.base cx n fI fd ps sp)
    (hr : Room (n + 1) X.A) (hb : Binds X.K fd ps []) (hx : Passes cx X (fun _ _ _ => False))
    (hg : Gl X x) (hm : X.mg x = some (.ref C)) (ha : PA X (e :: es) ta) (hdb : (x == ("__debug__" : Str)) = false := by decide)
    (he : starEach (e :: es) X.env = (false, eval e X.env) :: starEach es X.env := by rfl)
    (hpl : (backTo pos (starEach es X.env)).any (·.1) = false := by rfl) :
    PMk X (.Call (.Name x p) (e :: es) [] pos) (tMkO C sp [] ta) := by
  intro pins s σ H Q I h
  refine wpAny_Call_Name_kw (ld_glob I hg hm ?_ hdb)
  refine PySem.W.callWith_K (h₀ := X.base) I.ok.mod.kin kC (thn (ha.run pos pins s σ H _ I h) ?_) he hpl
  rintro us s1 ⟨vs, H1, I1, r1, hz, q1⟩
  refine ⟨I1.kIn, ?_⟩
  show wpAny _ _ (call (.ref C) us) _ _ _
  obtain ⟨hp, g, d, t, os⟩ := s1
  have up : hp.objs.size ≤ hp.objs.size + 1 := Nat.le_succ _
  have new := I1.hok.fresh up
  have hq := q1 _ new
  rw [List.append_nil] at hq
  have kk : ∀ b o, hp.get? b = some o →
      ((hp.push (PySem.W.kdv_tup us)).push (PySem.HandSPX.excO C hp.objs.size)).get? b = some o :=
    fun b o z => Heap.get?_push_of_some _ (Heap.get?_push_of_some _ z)
  have here : ((hp.push (PySem.W.kdv_tup us)).push (PySem.HandSPX.excO C hp.objs.size)).get? (hp.objs.size + 1)
      = some (PySem.HandSPX.excO C hp.objs.size) := by heap_get
  have J := I1.laid (t' := t) (a := hp.objs.size + 1) (o := exo (hp.objs.size + 1) C none) kk up (exo_ok here)
  have r2 : Vals (V.ref (hp.objs.size + 1) :: vs) (Value.ref (hp.objs.size + 1) :: us) := .cons rfl r1
  have hl : ((Value.ref (hp.objs.size + 1) :: us) ++ []).length = ps.length := by
    rw [List.append_nil, ← F1.len _ _ _ _ hq]
    exact (Paired.length r2).symm
  have bd := hb _ (Value.ref (hp.objs.size + 1) :: us) J.kIn hl
  rw [List.append_nil] at bd
  have hu : us.length ≤ sizeLine := by
    rw [← Paired.length r1, sizeLine_eq]
    omega
  have all := F1.run _ X.stack _ _ ⟨Value.ref (hp.objs.size + 1) :: us, []⟩ _ _ _ _ (hr.make C us []) (J.env0.make C us []) bd r2 hq
  refine wpAny_call (mk X.A _ hp g d t os us I1.kIn hu (codeAny_mono all ?_))
  intro o s' z
  cases o with
  | error er => exact hx pins σ _ _ er s' J z
  | ok fl =>
    cases fl with
    | ret u =>
      obtain ⟨v, H2, os2, bare2, un2, hok2, rv, ev, dd, fs, ea, ed, hd1, q2⟩ := z
      subst ev
      obtain ⟨h2, g2, d2, t2, os'⟩ := s'
      exact ⟨rv, mk_end (raises_own exC tyC) I1 up kk un2 hok2 os2 bare2 ea ed hd1 q2⟩
    | _ => exact False.elim z
end
end Gd
end

section
set_option Elab.async false
set_option linter.all false
set_option maxRecDepth 100000
set_option maxHeartbeats 4000000
/-! Data with lists, and with two small dicts; what is not in it: the addresses of N. -/
namespace Gd
open PySem PySem.Spec PyProof.Rows L2

mutual
inductive Dd (K : PySem.W.Frag) (H : Hp) (N : Addr → Prop) : V → PyData → Prop
  | non : Dd K H N .non .none
  | bl (b : Bool) : Dd K H N (.bl b) (.bool b)
  | int (i : Int) : Dd K H N (.int i) (.int i)
  | str (x : Str) : Dd K H N (.str x) (.str x)
  | lst {a : Addr} {xs : List V} {ds : List PyData} : H a = some (.lst xs) → ¬ N a → a ≠ sysModules → DdAll K H N xs ds → Dd K H N (.ref a) (.list ds)
  | tup {a : Addr} {xs : List V} {ds : List PyData} : SqT K H a xs → DdAll K H N xs ds → Dd K H N (.ref a) (.tuple ds)
  | dct0 {a : Addr} : H a = some (.dK []) → ¬ N a → Dd K H N (.ref a) (.dict [])
  | dct1 {a : Addr} {x : Str} {i : Int} : H a = some (.dK [(Sum.inr x, .int i)]) → ¬ N a → Dd K H N (.ref a) (.dict [(.str x, .int i)])
inductive DdAll (K : PySem.W.Frag) (H : Hp) (N : Addr → Prop) : List V → List PyData → Prop
  | nil : DdAll K H N [] []
  | cons {v : V} {vs : List V} {d : PyData} {ds : List PyData} : Dd K H N v d → DdAll K H N vs ds → DdAll K H N (v :: vs) (d :: ds)
end

section
variable {K : PySem.W.Frag} {H H' : Hp} {N N' : Addr → Prop}
mutual
theorem Dd.stay (t : Tups K H H') (x : ∀ a o, ¬ N a → H a = some o → H' a = some o) (m : ∀ a, N' a → N a) : ∀ (d : PyData) {v : V}, Dd K H N v d → Dd K H' N' v d
  | .none, _, h => by cases h; exact .non
  | .bool _, _, h => by cases h; exact .bl _
  | .int _, _, h => by cases h; exact .int _
  | .str _, _, h => by cases h; exact .str _
  | .tuple ds, _, h => by
    cases h with
    | tup a b => exact .tup (t _ _ a) (DdAll.stay t x m ds b)
  | .list ds, _, h => by
    cases h with
    | lst a n g b => exact .lst (x _ _ n a) (fun z => n (m _ z)) g (DdAll.stay t x m ds b)
  | .dict ds, _, h => by
    cases h with
    | dct0 a n => exact .dct0 (x _ _ n a) (fun z => n (m _ z))
    | dct1 a n => exact .dct1 (x _ _ n a) (fun z => n (m _ z))
theorem DdAll.stay (t : Tups K H H') (x : ∀ a o, ¬ N a → H a = some o → H' a = some o) (m : ∀ a, N' a → N a) : ∀ (ds : List PyData) {vs : List V}, DdAll K H N vs ds → DdAll K H' N' vs ds
  | [], _, h => by cases h; exact .nil
  | d :: ds, _, h => by
    cases h with
    | cons a b => exact .cons (Dd.stay t x m d a) (DdAll.stay t x m ds b)
end
theorem Dd.same {v : V} {d : PyData} (s : Same H H') (h : Dd K H N v d) : Dd K H' N v d := Dd.stay (Tups.of_same s) (fun a o _ e => s a o e) (fun _ z => z) d h
theorem DdAll.same {vs : List V} {ds : List PyData} (s : Same H H') (h : DdAll K H N vs ds) : DdAll K H' N vs ds := DdAll.stay (Tups.of_same s) (fun a o _ e => s a o e) (fun _ z => z) ds h
theorem Dd.free {v : V} {d : PyData} (h : Dd K H N v d) : Dd K H (fun _ => False) v d := Dd.stay .refl (fun a o _ e => e) (fun _ z => z.elim) d h
theorem DdAll.free {vs : List V} {ds : List PyData} (h : DdAll K H N vs ds) : DdAll K H (fun _ => False) vs ds := DdAll.stay .refl (fun a o _ e => e) (fun _ z => z.elim) ds h
/-- behind a draw -/
theorem Dd.drawn {p : Addr} {ys : List V} {v : V} {d : PyData} (e : H p = some (.lst ys)) (x : Ex1 p H H') (h : Dd K H (· = p) v d) : Dd K H' (· = p) v d :=
  Dd.stay (x.tups e) (fun a o n q => x a o n q) (fun _ z => z) d h
theorem DdAll.drawn {p : Addr} {ys : List V} {vs : List V} {ds : List PyData} (e : H p = some (.lst ys)) (x : Ex1 p H H') (h : DdAll K H (· = p) vs ds) : DdAll K H' (· = p) vs ds :=
  DdAll.stay (x.tups e) (fun a o n q => x a o n q) (fun _ z => z) ds h
mutual
/-- what is new is not in it -/
theorem Dd.shun {q : Addr} (n : H q = none) : ∀ (d : PyData) {v : V}, Dd K H N v d → Dd K H (fun a => N a ∨ a = q) v d
  | .none, _, h => by cases h; exact .non
  | .bool _, _, h => by cases h; exact .bl _
  | .int _, _, h => by cases h; exact .int _
  | .str _, _, h => by cases h; exact .str _
  | .tuple ds, _, h => by
    cases h with
    | tup a b => exact .tup a (DdAll.shun n ds b)
  | .list ds, _, h => by
    cases h with
    | lst a m g b => exact .lst a (fun z => z.elim m (fun z => by rw [z, n] at a; cases a)) g (DdAll.shun n ds b)
  | .dict ds, _, h => by
    cases h with
    | dct0 a m => exact .dct0 a (fun z => z.elim m (fun z => by rw [z, n] at a; cases a))
    | dct1 a m => exact .dct1 a (fun z => z.elim m (fun z => by rw [z, n] at a; cases a))
theorem DdAll.shun {q : Addr} (n : H q = none) : ∀ (ds : List PyData) {vs : List V}, DdAll K H N vs ds → DdAll K H (fun a => N a ∨ a = q) vs ds
  | [], _, h => by cases h; exact .nil
  | d :: ds, _, h => by
    cases h with
    | cons a b => exact .cons (Dd.shun n d a) (DdAll.shun n ds b)
end
theorem DdAll.len : ∀ {vs : List V} {ds : List PyData}, DdAll K H N vs ds → vs.length = ds.length
  | _, _, .nil => rfl
  | _, _, .cons _ b => congrArg (· + 1) (DdAll.len b)
theorem DdAll.at_ : ∀ {vs : List V} {ds : List PyData} {i : Nat} {v : V}, DdAll K H N vs ds → vs[i]? = some v → ∃ d, ds[i]? = some d ∧ Dd K H N v d
  | _, _, _, _, .nil, e => by simp at e
  | _, _, 0, _, .cons a _, e => by
    cases Option.some.inj e
    exact ⟨_, rfl, a⟩
  | _, _, i + 1, _, .cons _ b, e => DdAll.at_ (i := i) b e
theorem DdAll.app : ∀ {vs us : List V} {ds es : List PyData}, DdAll K H N vs ds → DdAll K H N us es → DdAll K H N (vs ++ us) (ds ++ es)
  | _, _, _, _, .nil, h => h
  | _, _, _, _, .cons a b, h => .cons a (DdAll.app b h)
theorem DdAll.take : ∀ {vs : List V} {ds : List PyData}, DdAll K H N vs ds → ∀ i : Nat, DdAll K H N (vs.take i) (ds.take i)
  | _, _, .nil, i => by rw [List.take_nil, List.take_nil]; exact .nil
  | _, _, .cons _ _, 0 => .nil
  | _, _, .cons a b, i + 1 => .cons a (DdAll.take b i)
theorem DdAll.drop : ∀ {vs : List V} {ds : List PyData}, DdAll K H N vs ds → ∀ i : Nat, DdAll K H N (vs.drop i) (ds.drop i)
  | _, _, .nil, i => by rw [List.drop_nil, List.drop_nil]; exact .nil
  | _, _, .cons a b, 0 => .cons a b
  | _, _, .cons a b, i + 1 => DdAll.drop b i
theorem DdAll.rev : ∀ {vs : List V} {ds : List PyData}, DdAll K H N vs ds → DdAll K H N vs.reverse ds.reverse
  | _, _, .nil => .nil
  | _, _, .cons a b => by
    rw [List.reverse_cons, List.reverse_cons]
    exact DdAll.app (DdAll.rev b) (.cons a .nil)
mutual
theorem Dd.ofDp : ∀ (d : PyData) {v : V}, tupOnly d = true → Dp K H v d → Dd K H N v d
  | .none, _, _, h => by cases h; exact .non
  | .bool _, _, _, h => by cases h; exact .bl _
  | .int _, _, _, h => by cases h; exact .int _
  | .str _, _, _, h => by cases h; exact .str _
  | .tuple ds, _, o, h => by
    cases h with
    | tup a b =>
      simp only [tupOnly, Bool.and_eq_true] at o
      exact .tup a (DdAll.ofDp ds o.2 b)
  | .list _, _, o, _ => by simp [tupOnly] at o
  | .dict _, _, o, _ => by simp [tupOnly] at o
theorem DdAll.ofDp : ∀ (ds : List PyData) {vs : List V}, tupOnlyAll ds = true → DpAll K H vs ds → DdAll K H N vs ds
  | [], _, _, h => by cases h; exact .nil
  | d :: ds, _, o, h => by
    simp only [tupOnlyAll, Bool.and_eq_true] at o
    cases h with
    | cons a b => exact .cons (Dd.ofDp d o.1 a) (DdAll.ofDp ds o.2 b)
end
theorem Dd.kind {v : V} {d : PyData} (h : Dd K H N v d) : TyX K H v (.type (kindN d)) := by
  cases h with
  | non => exact .base .non
  | bl b => exact .base (.bl b)
  | int i => exact .base (.int i)
  | str x => exact .base (.str x)
  | lst e _ _ _ => exact .base (.lst e)
  | dct0 e _ => exact .base (.dK e)
  | dct1 e _ => exact .base (.dK e)
  | tup a _ =>
    rcases a with (a | ⟨z, a⟩) | ⟨z, its, n, a, c, _⟩
    · exact .base (.tup a)
    · exact .fTuple a
    · exact .kTuple a c
end
section
variable {X : Cx} {pins : List (Addr × Obj)} {σ : L2.St} {H : Hp} {s : Shared} {N : Addr → Prop}
theorem dk_reads (I : Inv X pins σ H s) {a : Addr} {kvs : List (Key × V)} (e : H a = some (.dK kvs)) :
    (a == sysModules) = false ∧ ∃ vs, KV kvs vs ∧ s.heap.DictOf (mixKind X.prog X.w) a vs := (I.hok a _ e).2
mutual
theorem Dd.reads (I : Inv X pins σ H s) : ∀ (d : PyData) (v : V) (u : Value), Dd X.K H N v d → RelV v u → ∃ as, Reads s.heap u d as ∧ sysModules ∉ as
  | .none, _, _, h, r => by
    cases h
    cases r
    exact ⟨[], .none, nofun⟩
  | .bool b, _, _, h, r => by
    cases h
    cases r
    exact ⟨[], .bool b, nofun⟩
  | .int i, _, _, h, r => by
    cases h
    obtain ⟨t, rfl⟩ := r
    exact ⟨[], .int i t, nofun⟩
  | .str x, _, _, h, r => by
    cases h
    obtain ⟨t, rfl⟩ := r
    exact ⟨[], .str x t, nofun⟩
  | .list ds, _, _, h, r => by
    cases h with
    | lst hs _ g ha =>
      cases r
      obtain ⟨its, rv, pl, _⟩ := I.list (SqL.of hs)
      obtain ⟨o, n, ho, hc, _, hd⟩ := pl
      obtain ⟨as, hr, hn⟩ := Dd.readsAll I ds _ its ha rv
      refine ⟨_, .list ho hc hd hr, fun m => ?_⟩
      rcases List.mem_cons.mp m with m | m
      · exact g m.symm
      · exact hn m
  | .tuple ds, _, _, h, r => by
    cases h with
    | tup hs ha =>
      cases r
      obtain ⟨its, rv, pl, _⟩ := I.tuple hs
      obtain ⟨o, ho, hc, n, hd⟩ := pl
      obtain ⟨as, hr, hn⟩ := Dd.readsAll I ds _ its ha rv
      exact ⟨as, .tuple ho hc hd hr, hn⟩
  | .dict ds, _, _, h, r => by
    cases h with
    | dct0 e _ =>
      cases r
      obtain ⟨g, vs, kv, o, es, ep, ho, ex, hd, ks, ps, _⟩ := dk_reads I e
      cases kv
      cases hes : es.toList with
      | nil =>
        refine ⟨_, .dict (as := []) (bs := []) ho ex.1 hd ?_ ?_, fun m => ?_⟩
        · rw [hes]; exact .nil
        · rw [hes]; exact .nil
        · rcases List.mem_cons.mp m with m | m
          · rw [← m] at g
            simp at g
          · cases m
      | cons z zs =>
        rw [hes] at ps
        cases ps
    | @dct1 a x i e _ =>
      cases r
      obtain ⟨g, vs, kv, o, es, ep, ho, ex, hd, ks, ps, _⟩ := dk_reads I e
      cases kv with
      | @cons _ q _ _ r0 rest =>
      cases rest
      obtain ⟨qk, qv⟩ := q
      obtain ⟨rk, t, rv⟩ := r0
      dsimp only at rk rv
      subst rk rv
      cases hes : es.toList with
      | nil =>
        rw [hes] at ps
        cases ps
      | cons z zs =>
        rw [hes] at ps
        cases ps with
        | cons p1 p2 p3 =>
        cases p3
        obtain ⟨tk, ek⟩ : ∃ tk, z.key = .str x tk := by
          have p1 : keyIs (Sum.inr x) z.key = true := p1
          rcases keyIs_shape p1 with ⟨i, t, h1, h2⟩ | ⟨y, t, h1, h2⟩
          · cases h1
          · cases h1
            exact ⟨t, h2⟩
        refine ⟨_, .dict (as := [] ++ []) (bs := [] ++ []) ho ex.1 hd ?_ ?_, fun m => ?_⟩
        · rw [hes]
          show ReadsAll s.heap [z.key] [.str x] _
          rw [ek]
          exact .cons (.str x tk) .nil
        · rw [hes]
          show ReadsAll s.heap [z.val] [.int i] _
          rw [p2]
          exact .cons (.int i t) .nil
        · rcases List.mem_cons.mp m with m | m
          · rw [← m] at g
            simp at g
          · cases m
theorem Dd.readsAll (I : Inv X pins σ H s) : ∀ (ds : List PyData) (vs : List V) (us : List Value), DdAll X.K H N vs ds → Vals vs us → ∃ as, ReadsAll s.heap us ds as ∧ sysModules ∉ as
  | [], _, _, h, r => by
    cases h
    cases r
    exact ⟨[], .nil, nofun⟩
  | d :: ds, _, _, h, r => by
    cases h with
    | cons h1 h2 =>
      cases r with
      | cons r1 r2 =>
        obtain ⟨as, q1, n1⟩ := Dd.reads I d _ _ h1 r1
        obtain ⟨bs, q2, n2⟩ := Dd.readsAll I ds _ _ h2 r2
        exact ⟨as ++ bs, .cons q1 q2, fun m => (List.mem_append.mp m).elim n1 n2⟩
end
/-- repr(x), x such data -/
def rReprD (K : PySem.W.Frag) : List V → Hp → VK → Prop := fun xs H Q =>
  ∃ (x : V) (d : PyData) (N : Addr → Prop), xs = [x] ∧ Dd K H N x d ∧ d.showable = true ∧ d.shown.length ≤ sizeLine ∧ d.depth ≤ 60 ∧ Q (.str d.shown) H
theorem call_reprD (g : Free X.A) (hu : X.A.units + 64 < cLine) : CallR X (.builtin "repr") (rReprD X.K) := by
  intro pins s σ H xs us Q I r h
  obtain ⟨x, d, N, rfl, hd, hs, hz, hdp, q⟩ := h
  obtain ⟨u, rfl, ru⟩ := r.one
  obtain ⟨as, rd, hn⟩ := Dd.reads I d x u hd ru
  have fin : ∀ (h' : Heap) (tk tk' : Nat), (∀ b o, s.heap.get? b = some o → h'.get? b = some o) →
      EP X pins σ Q (.str d.shown tk) { s with heap := h', toks := tk' } :=
    fun h' tk tk' k => ⟨.str d.shown, H, I.kept k, ⟨tk, rfl⟩, q⟩
  have fin0 : ∀ (tk tk' : Nat), EP X pins σ Q (.str d.shown tk) { s with toks := tk' } :=
    fun tk tk' => ⟨.str d.shown, H, I.tok tk', ⟨tk, rfl⟩, q⟩
  cases rd with
  | none => exact P.repr_of_none (fin0 _ _)
  | bool b => exact P.repr_of_bool (fin0 _ _)
  | int i t => exact P.repr_of_int (by simpa [PyData.showable] using hs) (fin0 _ _)
  | str z t => exact P.repr_of_str (fin0 _ _) hz
  | list h1 h2 h3 h4 =>
    exact repr_of_reads' (.list h1 h2 h3 h4) hs (fun _ => hn) g (by omega) (fun _ _ e => e) (fun h' u tk k => fin h' u tk k) hz
  | tuple h1 h2 h3 h4 =>
    exact repr_of_reads' (.tuple h1 h2 h3 h4) hs (fun _ => hn) g (by omega) (fun _ _ e => e) (fun h' u tk k => fin h' u tk k) hz
  | dict h1 h2 h3 h4 h5 =>
    exact repr_of_reads' (.dict h1 h2 h3 h4 h5) hs (fun _ => hn) g (by omega) (fun _ _ e => e) (fun h' u tk k => fin h' u tk k) hz
end
end Gd
end

section
set_option Elab.async false
set_option linter.all false
set_option maxRecDepth 100000
set_option maxHeartbeats 4000000
namespace Gd
open PySem PySem.Spec PyProof.Rows L2

section
variable {X : Cx}
/-- the address of a new object is none of the interpreter's own -/
theorem new_no {pins : List (Addr × Obj)} {σ : L2.St} {H : Hp} {s : Shared} (I : Inv X pins σ H s) : s.heap.objs.size ≠ sysModules := Nat.ne_of_gt I.big
def tLstS (t : TA) : TE := fun σ H Q => t σ H fun xs H1 => xs.length ≤ sizeLine ∧ ∀ p, H1 p = none → p ≠ sysModules → Q (.ref p) (upd H1 p (.lst xs))
theorem pe_lstS {es : List Expr} {pos : Pos} {t : TA} (h : PA X es t) : PE X (.List es pos) (tLstS t) := by
  constructor
  intro pins s σ H Q I hq
  refine wpAny_List_spliced (thn (h.run pos pins s σ H _ I hq) ?_)
  rintro us s1 ⟨xs, H1, J, r, z, q⟩
  have hn : H1 s1.heap.objs.size = none := J.hok.fresh (Nat.le_refl _)
  have J2 := J.laid (a := s1.heap.objs.size) (o := .lst xs) (h' := s1.heap.push { cls := .type "list", data := .seq us.toArray }) (t' := s1.toks)
    (fun b u e => Heap.get?_push_of_some _ e) (Nat.le_refl _) ⟨z, us, 0, r, Heap.get?_push_size _ rfl⟩
  exact ⟨by rw [← r.length]; exact z, .ref s1.heap.objs.size, _, J2, rfl, q _ hn (new_no J)⟩
theorem call_listS : CallR X (.type "list") (fun xs H Q => ∃ p ys, xs = [.ref p] ∧ SqT X.K H p ys ∧ ∀ l, H l = none → l ≠ sysModules → Q (.ref l) (upd H l (.lst ys))) := by
  intro pins s σ H xs us Q I r h
  obtain ⟨p, ys, rfl, hq, q⟩ := h
  obtain ⟨u, rfl, rx⟩ := r.one
  cases rx
  obtain ⟨its, r', pl, hz⟩ := I.tuple hq
  have hlen := r'.length
  obtain ⟨o, ho, hc, n, hd⟩ := pl
  refine call_list_seq p (.inr rfl) ho hc hd ?_ (by simp only [List.size_toArray] <;> omega)
  intro h' c' kp e
  have J := I.laid (a := s.heap.objs.size) (o := .lst ys) (t' := s.toks) kp (Nat.le_refl _) ⟨hz, its, c', r', e⟩
  exact ⟨.ref s.heap.objs.size, _, J, rfl, q _ (I.hok.fresh (Nat.le_refl _)) (new_no I)⟩

/-! truths as numbers -/
theorem op_add_bi : OpR X (binaryOp .Add) (fun x y H Q => ∃ k i, x = .bl k ∧ y = .int i ∧ Q (.int ((if k = true then 1 else 0) + i)) H) := by
  intro pins s σ H x y v u Q I rx ry h
  obtain ⟨k, i, rfl, rfl, q⟩ := h
  obtain ⟨t, rfl⟩ := ry
  cases rx
  exact IntBool.add_bool_int ⟨.int ((if k = true then 1 else 0) + i), H, I.tok _, ⟨_, rfl⟩, q⟩
theorem op_sub_ib : OpR X (binaryOp .Sub) (fun x y H Q => ∃ i k, x = .int i ∧ y = .bl k ∧ Q (.int (i - (if k = true then 1 else 0))) H) := by
  intro pins s σ H x y v u Q I rx ry h
  obtain ⟨i, k, rfl, rfl, q⟩ := h
  obtain ⟨t, rfl⟩ := rx
  cases ry
  exact IntBool.sub_int_bool ⟨.int (i - (if k = true then 1 else 0)), H, I.tok _, ⟨_, rfl⟩, q⟩
theorem call_str_bool : CallR X (.type "str") (fun xs H Q => ∃ b, xs = [.bl b] ∧ Q (.str (if b then "True" else "False")) H) := by
  intro pins s σ H xs us Q I r h
  obtain ⟨b, rfl, q⟩ := h
  obtain ⟨u, rfl, rx⟩ := r.one
  cases rx
  exact PySem.P.str_of_bool ⟨.str (if b then "True" else "False"), H, I.tok _, ⟨_, rfl⟩, q⟩
end

/-! a dict is no text -/
section
variable {A : Around} {s : Shared} {P : Program} {w : World}
theorem dict_declines (d : Addr) (b : Str) (u : Tok) :
    Meets (Builtin.«dict.__eq__» ⟨[.ref d, .str b u], []⟩) (fun _ R s => s.TypeIs (.ref d) "dict" ∧ R (.ok (.ret .notImplemented)) s) :=
  .of_wp fun prog w A R s h => by
    obtain ⟨hd, h⟩ := h
    show wpAny _ _ (Builtin.Dict.dictSlotArgs "__eq__" ⟨[.ref d, .str b u], []⟩ >>= _) _ _ s
    refine wpAny_bind ?_
    unfold Builtin.Dict.dictSlotArgs
    refine wpAny_bind (wpAny_notOrdered_dict hd ?_)
    refine wpAny_pure ?_
    refine wpAny_bind (wpAny_isInstance (T := "str") (typeIs_str s b u) PySem.F.sub_str_dict ?_)
    simp only [Bool.not_false, if_true]
    exact wpAny_bind (wpAny_rule (wpAny_pure ⟨_, rfl, h⟩))
theorem str_declines (d : Addr) (es : Array DictEntry) (ep : Nat) (b : Str) (u : Tok) :
    Meets (Builtin.«str.__eq__» ⟨[.str b u, .ref d], []⟩)
      (fun _ R s => s.heap.get? d = some { cls := .type "dict", dict := none, data := .dict es ep, slots := #[] } ∧ R (.ok (.ret .notImplemented)) s) :=
  .of_wp fun prog w A R s h => by
    obtain ⟨hp, g, d, tk, os⟩ := s
    obtain ⟨hd, h⟩ := h
    wp_walk using wpAny_load hd
    exact ⟨_, rfl, h⟩
variable {d : Addr} {es : Array DictEntry} {ep : Nat}
theorem rc_dict_str (b : Str) (u : Tok) (ho : s.heap.get? d = some { cls := .type "dict", dict := none, data := .dict es ep, slots := #[] }) (hu : A.units < cLine) :
    SeqAt.RcAt A s (.ref d) (.str b u) false := fun prog w E Q h =>
  SeqAt.rc_eq_decline_or (k := false) ⟨_, ho, rfl⟩ (typeIs_str s b u) (by decide) PySem.F.sub_str_dict PySem.F.slot_dict_eq PySem.F.slot_str_eq_refl
    (fun _ hq => call_meets PySem.F.slot_dict_eq ⟨_, ho, rfl⟩ PySem.F.entry_dict_eq (PySem.F.args_dict_eq_2 _ _) (dict_declines d b u) ⟨⟨_, ho, rfl⟩, hq⟩)
    (fun _ hq => call_meets PySem.F.slot_str_eq_refl (typeIs_str s b u) PySem.F.entry_str_eq (PySem.F.args_str_eq_2 _ _) (str_declines d es ep b u) ⟨ho, hq⟩)
    (fun _ hq => wpAny_of_eq (rfl : isSame (.ref d) (.str b u) = pure false) hq) (.inr hu) h
theorem rc_str_dict (b : Str) (u : Tok) (ho : s.heap.get? d = some { cls := .type "dict", dict := none, data := .dict es ep, slots := #[] }) (hu : A.units < cLine) :
    SeqAt.RcAt A s (.str b u) (.ref d) false := fun prog w E Q h =>
  SeqAt.rc_eq_decline_or (k := false) (typeIs_str s b u) ⟨_, ho, rfl⟩ (by decide) PySem.F.sub_dict_str PySem.F.slot_str_eq PySem.F.slot_dict_eq_refl
    (fun _ hq => call_meets PySem.F.slot_str_eq (typeIs_str s b u) PySem.F.entry_str_eq (PySem.F.args_str_eq_2 _ _) (str_declines d es ep b u) ⟨ho, hq⟩)
    (fun _ hq => call_meets PySem.F.slot_dict_eq_refl ⟨_, ho, rfl⟩ PySem.F.entry_dict_eq (PySem.F.args_dict_eq_2 _ _) (dict_declines d b u) ⟨⟨_, ho, rfl⟩, hq⟩)
    (fun _ hq => wpAny_of_eq (rfl : isSame (.str b u) (.ref d) = pure false) hq) (.inr hu) h
theorem eq_str_dict (b : Str) (u : Tok) (ho : s.heap.get? d = some { cls := .type "dict", dict := none, data := .dict es ep, slots := #[] }) (hu : A.units < cLine) :
    SeqAt.EqAt A s (.str b u) (.ref d) false := fun prog w E Q h => by
  unfold eqBool
  refine wpAny_holding (wpAny_ite_split (fun q => absurd (eq_of_beq q) nofun) (fun _ => ?_))
  exact wpAny_bind (rc_str_dict b u ho hu prog w E _ (wpAny_truthy_bool h))
end

/-! data beside a text -/
def isStr (d : PyData) (b : Str) : Bool := match d with
  | .str x => x == b
  | _ => false
section
variable {X : Cx} {pins : List (Addr × Obj)} {σ : L2.St} {H : Hp} {s : Shared} {N : Addr → Prop} {A : Around}
theorem Dd.dictAt (I : Inv X pins σ H s) {v : V} {u : Value} {ks : List (PyData × PyData)} (h : Dd X.K H N v (.dict ks)) (r : RelV v u) :
    ∃ d es ep, u = .ref d ∧ s.heap.get? d = some { cls := .type "dict", dict := none, data := .dict es ep, slots := #[] } := by
  have key : ∀ {a : Addr} {kvs : List (Key × V)}, H a = some (.dK kvs) → ∃ es ep, s.heap.get? a = some { cls := .type "dict", dict := none, data := .dict es ep, slots := #[] } := by
    intro a kvs e
    obtain ⟨_, vs, _, o, es, ep, ho, ⟨e1, e2, e3⟩, hd, _⟩ := dk_reads I e
    obtain ⟨oc, od, dt, sl⟩ := o
    dsimp only at e1 e2 e3 hd
    subst e1 e2 e3 hd
    exact ⟨es, ep, ho⟩
  cases h with
  | dct0 e _ =>
    cases r
    obtain ⟨es, ep, ho⟩ := key e
    exact ⟨_, es, ep, rfl, ho⟩
  | dct1 e _ =>
    cases r
    obtain ⟨es, ep, ho⟩ := key e
    exact ⟨_, es, ep, rfl, ho⟩
theorem Dd.strEq (I : Inv X pins σ H s) (hu : A.units < cLine) {d : PyData} {v : V} {u : Value} (h : Dd X.K H N v d) (r : RelV v u) (b : Str) (t : Tok) :
    SeqAt.EqAt A s (.str b t) u (isStr d b) := by
  cases d with
  | none =>
    cases h
    cases r
    exact .str_none b t
  | bool k =>
    cases h
    cases r
    exact .str_bool b t k
  | int i =>
    cases h
    obtain ⟨t2, rfl⟩ := r
    exact .str_int b t i t2
  | str x =>
    cases h
    obtain ⟨t2, rfl⟩ := r
    have e := SeqAt.EqAt.str_str (A := A) (s := s) b t x t2
    have e2 : isStr (.str x) b = (b == x) := by
      show (x == b) = (b == x)
      exact Bool.eq_iff_iff.mpr ⟨fun z => by rw [eq_of_beq z] <;> exact beq_self_eq_true _, fun z => by rw [eq_of_beq z] <;> exact beq_self_eq_true _⟩
    rw [e2]
    exact e
  | list ds =>
    cases h with
    | lst e n g k =>
    cases r
    obtain ⟨its, _, pl, _⟩ := I.list (SqL.of e)
    exact .str_list b t pl.isList hu
  | tuple ds =>
    cases h with
    | tup e k =>
    cases r
    obtain ⟨its, _, pl, _⟩ := I.tuple e
    exact .str_tuple b t pl hu
  | dict ks =>
    obtain ⟨a, es, ep, rfl, ho⟩ := Dd.dictAt I h r
    exact eq_str_dict b t ho hu
end
end Gd
end

section
set_option Elab.async false
set_option linter.all false
set_option maxRecDepth 100000
set_option maxHeartbeats 4000000
namespace Gd
open PySem PySem.Spec PyProof.Rows L2

section
variable {X : Cx}
/-- data == a text -/
def rEqS (K : PySem.W.Frag) : R2 := fun x y H Q => ∃ (N : Addr → Prop) (d : PyData) (b : Str), Dd K H N x d ∧ y = .str b ∧ Q (.bl (isStr d b)) H
theorem op_eqS (hu : X.A.units < cLine) : OpR X (compareOp .Eq) (rEqS X.K) := by
  intro pins s σ H x y v u Q I rx ry h
  obtain ⟨N, d, b, h, rfl, q⟩ := h
  obtain ⟨t, rfl⟩ := ry
  have fin : EP X pins σ Q (.bool (isStr d b)) s := ⟨.bl _, H, I, rfl, q⟩
  cases d with
  | none =>
    cases h
    cases rx
    exact SeqAt.RcAt.none_str b t _ _ _ _ fin
  | bool k =>
    cases h
    cases rx
    exact SeqAt.RcAt.bool_str k b t _ _ _ _ fin
  | int i =>
    cases h
    obtain ⟨t2, rfl⟩ := rx
    exact SeqAt.RcAt.int_str i t2 b t _ _ _ _ fin
  | str z =>
    cases h
    obtain ⟨t2, rfl⟩ := rx
    exact SeqAt.RcAt.str_str z t2 b t _ _ _ _ fin
  | list ds =>
    cases h with
    | lst e n g k =>
    cases rx
    obtain ⟨its, _, pl, _⟩ := I.list (SqL.of e)
    exact SeqAt.RcAt.list_str b t pl.isList hu _ _ _ _ fin
  | tuple ds =>
    cases h with
    | tup e k =>
    cases rx
    obtain ⟨its, _, pl, _⟩ := I.tuple e
    exact SeqAt.RcAt.tuple_str b t pl hu _ _ _ _ fin
  | dict ks =>
    obtain ⟨a, es, ep, rfl, ho⟩ := Dd.dictAt I h rx
    exact rc_dict_str b t ho hu _ _ _ _ fin

/-- data not in a tuple of texts -/
def rNiS (K : PySem.W.Frag) : R2 := fun x y H Q => ∃ (N : Addr → Prop) (d : PyData) (p : Addr) (bs : List Str), Dd K H N x d ∧ y = .ref p ∧ SqT K H p (bs.map V.str) ∧ Q (.bl (!bs.any (isStr d))) H
def hitS (d : PyData) : Value → Bool
  | .str b _ => isStr d b
  | _ => false
theorem hits {d : PyData} : ∀ {bs : List Str} {us : List Value}, Vals (bs.map V.str) us → us.any (hitS d) = bs.any (isStr d) ∧ ∀ u ∈ us, ∃ b t, u = .str b t
  | [], _, h => by
    cases h
    exact ⟨rfl, nofun⟩
  | b :: bs, _, h => by
    cases h with
    | cons r rs =>
    obtain ⟨t, rfl⟩ := r
    obtain ⟨e, f⟩ := hits rs
    refine ⟨?_, fun u m => ?_⟩
    · rw [List.any_cons, List.any_cons, e]
      rfl
    · rcases List.mem_cons.mp m with rfl | m
      · exact ⟨b, t, rfl⟩
      · exact f u m
theorem op_notInS (hu : X.A.units + 1 < cLine) : OpR X (compareOp .NotIn) (rNiS X.K) := by
  intro pins s σ H x y v u Q I rx ry h
  obtain ⟨N, d, p, bs, hd, rfl, hp, q⟩ := h
  cases ry
  obtain ⟨its, r, pl, _⟩ := I.tuple hp
  obtain ⟨e, f⟩ := hits (d := d) r
  refine SeqAt.notIn_tupleAt (hitS d) pl (fun w hw => ?_) ⟨.bl _, H, I, rfl, ?_⟩
  · obtain ⟨b, t, rfl⟩ := f w (by simpa using hw)
    exact Dd.strEq I (by show X.A.units + 1 < cLine; exact hu) hd rx b t
  · rw [show its.toArray.any (hitS d) = its.any (hitS d) by simp, e]
    exact q
/-- a tuple == () -/
def rEqT0 (K : PySem.W.Frag) : R2 := fun x y H Q => ∃ a b xs, x = .ref a ∧ y = .ref b ∧ SqT K H a xs ∧ SqT K H b [] ∧ Q (.bl xs.isEmpty) H
theorem op_eqT0 (hu : X.A.units < cLine) : OpR X (compareOp .Eq) (rEqT0 X.K) := by
  intro pins s σ H x y v u Q I rx ry h
  obtain ⟨a, b, xs, rfl, rfl, ha, hb, q⟩ := h
  cases rx
  cases ry
  obtain ⟨its, r, pl, _⟩ := I.tuple ha
  obtain ⟨its2, r2, pl2, _⟩ := I.tuple hb
  cases r2
  have e : ((List.range (min its.toArray.size (#[] : Array Value).size)).all (fun _ => true) && its.toArray.size == (#[] : Array Value).size) = xs.isEmpty := by
    cases r with
    | nil => rfl
    | cons _ _ => simp
  refine SeqAt.RcAt.tuples (e := fun _ => true) pl pl2 hu (fun j _ h2 => absurd h2 (by simp)) _ _ _ _ ⟨.bl _, H, I, rfl, ?_⟩
  rw [e]
  exact q
end

/-! t[::-1] -/
section
variable {prog : Program} {w : World} {A : Around} {E : Value → Shared → Prop} {s : Shared}
theorem places_rev (n : Nat) : Builtin.Slice.slicePlaces ((n : Int) - 1) (-1) (-1) = n := by
  unfold Builtin.Slice.slicePlaces
  rw [if_neg (by decide)]
  split
  · rw [show (-(-1) : Int) = 1 by decide, Int.ediv_one]
    omega
  · omega
theorem pick_rev (xs : Array Value) : ((List.range xs.size).filterMap fun (k : Nat) => xs[(((xs.size : Int) - 1) + (k : Int) * (-1)).toNat]?).toArray = xs.toList.reverse.toArray := by
  have e : (List.range xs.size).filterMap (fun (k : Nat) => xs[(((xs.size : Int) - 1) + (k : Int) * (-1)).toNat]?) =
      ((List.range xs.size).map fun k => xs.size - 1 - k).filterMap (xs[·]?) := by
    rw [List.filterMap_map]
    refine congrArg (fun f => List.filterMap f (List.range xs.size)) (funext fun k => ?_)
    show xs[(((xs.size : Int) - 1) + (k : Int) * (-1)).toNat]? = xs[xs.size - 1 - k]?
    rw [show (((xs.size : Int) - 1) + (k : Int) * (-1)).toNat = xs.size - 1 - k by omega]
  rw [e, PySem.W.krv_range, List.filterMap_reverse, PySem.W.krv_all]
theorem applied_rev {sl : Addr} {vs : Value} {n : Nat} {Q : Int × Int × Nat → Shared → Prop} (hs : s.heap.IsSliceOf sl .none .none vs) (ps : IsPart vs (some (-1)))
    (h : Q ((n : Int) - 1, -1, n) s) : wpAny (model prog w) A (Builtin.Slice.sliceApplied (.ref sl) (pure (n : Int))) Q E s := by
  obtain ⟨os, hos, hcs, hds⟩ := id hs
  unfold Builtin.Slice.sliceApplied Builtin.Slice.sliceFields
  refine wpAny_bind (wpAny_bind (wpAny_field hos hds (x := .none) rfl ?_))
  refine wpAny_bind (wpAny_field hos hds (x := .none) rfl (wpAny_bind (wpAny_field hos hds (x := vs) rfl (wpAny_pure ?_))))
  refine wpAny_bind (HT.slicePart_ ps ?_)
  show wpAny _ _ (if ((-1 : Int) == 0) = true then _ else _) _ _ s
  rw [if_neg (by decide)]
  refine wpAny_bind (slicePart_none (wpAny_bind (slicePart_none (wpAny_bind (wpAny_pure ?_)))))
  show wpAny _ _ (pure ((n : Int) - 1, (-1 : Int), Builtin.Slice.slicePlaces ((n : Int) - 1) (-1) (-1))) _ _ s
  rw [places_rev]
  exact wpAny_pure h
theorem get_rev {t sl : Addr} {items : Array Value} {vs : Value} {Q : Value → Shared → Prop} (ht : IsTup s.heap t items) (hs : s.heap.IsSliceOf sl .none .none vs) (ps : IsPart vs (some (-1)))
    (h : Q (.ref s.heap.objs.size) { s with heap := s.heap.push { cls := .type "tuple", data := .seq items.toList.reverse.toArray } })
    (hz : items.size ≤ sizeLine) : wpAny (model prog w) A (getItem (.ref t) (.ref sl)) Q E s := by
  have ok : sizeOk (.seq items.toList.reverse.toArray) := by
    show items.toList.reverse.toArray.size ≤ sizeLine
    simpa using hz
  obtain ⟨os, hos, hcs, hds⟩ := id hs
  have hT : s.TypeIs (.ref sl) "slice" := ⟨os, hos, hcs⟩
  unfold getItem
  try with_reducible refine wpAny_holding ?_
  refine wpAny_bind (wpAny_sequenceKey ht.typeIs (by decide) ?_)
  refine wpAny_bind (wpAny_callSpecial?_slot (name := Str.ofString "__getitem__") ht.typeIs PyProof.Rows.slot_tuple_getitem
    (wpAny_call_entry PyProof.Rows.slot_tuple_getitem ht.typeIs entry_tuple_getitem ?_ (args_tuple_getitem _ _)))
  show wpAny _ _ (Builtin.Tuple.tupleItemsOf (.ref t) >>= _) _ _ s
  refine wpAny_bind (PyProof.Rows.tupleItemsOf_ ht (wpAny_bind (wpAny_typeOf hT ?_)))
  rw [if_pos (by decide)]
  refine wpAny_bind (applied_rev hs ps ?_)
  have no : ¬ ((((items.size : Int) - 1) == 0 && (-1 : Int) == 1 && items.size == items.size) = true) := by simp
  show wpAny _ _ (if (((items.size : Int) - 1) == 0 && (-1 : Int) == 1 && items.size == items.size) = true then _ else _) _ _ s
  rw [if_neg no, pick_rev]
  first
    | exact wpAny_bind (m := Builtin.Tuple.tupleExact _) (wpAny_newObj_type (wpAny_pure ⟨_, rfl, wpAny_pure h⟩) ok)
    | exact wpAny_bind (m := Builtin.Tuple.tupleExact _) (wpAny_newObj_type (wpAny_bind (wpAny_pure (wpAny_pure ⟨_, rfl, wpAny_pure h⟩))) ok)
    | exact wpAny_bind (wpAny_bind (m := Builtin.Tuple.tupleExact _) (wpAny_newObj_type (wpAny_pure (wpAny_pure ⟨_, rfl, wpAny_pure h⟩)) ok))
    | exact wpAny_bind (wpAny_bind (m := Builtin.Tuple.tupleExact _) (wpAny_newObj_type (wpAny_pure ⟨_, rfl, wpAny_pure h⟩) ok))
end
section
variable {X : Cx}
def tRevT (K : PySem.W.Frag) (te : TE) : TE := fun σ H Q => te σ H fun x H1 => ∃ a xs, x = .ref a ∧ SqT K H1 a xs ∧ ∀ p, H1 p = none → Q (.ref p) (upd H1 p (.tup xs.reverse))
theorem pe_revT {e : Expr} {te : TE} {k : Nat} {p1 p2 p3 pos : Pos} (he : PE X e te) :
    PE X (.Subscript e (.Slice none none (some (.UnaryOp .USub (.Constant (.int 1) k p1) p2)) p3) pos) (tRevT X.K te) := by
  constructor
  intro pins s σ H Q I h
  refine Subscript_ (thn (he.run pins s σ H _ I h) ?_)
  rintro v s1 ⟨x, H1, I1, r1, a, xs, rfl, hx, q⟩
  cases r1
  have hst : PO X (some (.UnaryOp .USub (.Constant (.int 1) k p1) p2)) (tPart (tUn (rU fun i => .int (-i)) (tC (.int 1)))) := po_some (pe_un un_neg pe_int)
  refine wpAny_Slice (thn (po_none.run pins s1 σ H1 (fun o H2 => o = none ∧ H2 = H1) I1 ⟨rfl, rfl⟩) ?_)
  rintro vl s2 ⟨l, H2, I2, pl, rfl, rfl⟩
  refine thn (po_none.run pins s2 σ H2 (fun o H3 => o = none ∧ H3 = H2) I2 ⟨rfl, rfl⟩) ?_
  rintro vu s3 ⟨u, H3, I3, pu, rfl, rfl⟩
  refine thn (hst.run pins s3 σ H3 (fun o H4 => o = some (-1) ∧ H4 = H3) I3 ⟨1, rfl, -1, rfl, rfl, rfl⟩) ?_
  rintro vs s4 ⟨o, H4, I4, ps, rfl, rfl⟩
  cases pl
  cases pu
  have J : Inv X pins σ H4 { s4 with heap := s4.heap.push { cls := .type "slice", data := .fields #[.none, .none, vs] } } := I4.kept (t' := s4.toks) fun b ob z => Heap.get?_push_of_some _ z
  obtain ⟨its, r, ht, hz⟩ := J.tuple hx
  have hlen := r.length
  refine tail_any (ops := [.ref a, .ref s4.heap.objs.size]) ht.typeIs (PyProof.Rows.slot_tuple_getitem.lookup) ?_ (by with_unfolding_all rfl)
  refine get_rev ht (Heap.IsSliceOf.new _ .none .none vs) ps ?_ (by rw [List.size_toArray]; omega)
  refine ⟨.ref _, _, J.laid (t' := s4.toks) (o := .tup xs.reverse) (fun b ob z => Heap.get?_push_of_some _ z) (Nat.le_refl _) ?_, rfl, q _ (J.hok.fresh (Nat.le_refl _))⟩
  exact ⟨by rw [List.length_reverse]; exact hz, _, r.reverse, IsTup.new _ _⟩
end
end Gd
end

section
set_option Elab.async false
set_option linter.all false
set_option maxRecDepth 100000
set_option maxHeartbeats 4000000
/-! Lists of ints and slabs in the heap; what they show. -/
namespace Gd
open PySem PySem.Spec PyProof.Rows L2
theorem int_shown {i : Int} (h : i.natAbs ≤ 10 ^ 40) : (PyData.int i).shown.length ≤ 100 ∧ i.natAbs.log2 < 1920 ∧ (PyData.int i).weight ≤ 200 := by
  have h1 : i.natAbs < 10 ^ 41 := Nat.lt_of_le_of_lt h (by decide)
  have hl : i.natAbs.log2 < 190 := by
    by_cases z : i.natAbs = 0
    · rw [z]; decide
    · exact (Nat.log2_lt z).mpr (Nat.lt_of_lt_of_le h1 (by decide +kernel))
  refine ⟨?_, by omega, ?_⟩
  · have e := int_text_length_le10 (k := 41) (by decide) h1
    have e2 : (PyData.int i).shown.length = (toString i).length := by
      show (Str.ofString (toString i)).length = _
      rw [PySem.ofString_length]
    omega
  · simp only [PyData.weight]
    split <;> omega
theorem ints_leaves : ∀ {ns : List Int}, (∀ i ∈ ns, i.natAbs ≤ 10 ^ 40) → PyData.leavesShortAll 100 (ns.map .int) = true ∧ PyData.showableAll (ns.map .int) = true ∧ PyData.weightAll (ns.map .int) ≤ 201 * ns.length ∧ PyData.depthAll (ns.map .int) = 0
  | [], _ => ⟨rfl, rfl, Nat.zero_le _, rfl⟩
  | i :: ns, h => by
    obtain ⟨a, b, c, d⟩ := ints_leaves (ns := ns) fun j hj => h j (by simp [hj])
    obtain ⟨e1, e2, e3⟩ := int_shown (h i (by simp))
    refine ⟨?_, ?_, ?_, ?_⟩
    · simp only [List.map_cons, PyData.leavesShortAll, a, Bool.and_true, PyData.leavesShort, decide_eq_true_eq]
      exact e1
    · simp only [List.map_cons, PyData.showableAll, b, Bool.and_true, PyData.showable, decide_eq_true_eq]
      exact e2
    · simp only [List.map_cons, PyData.weightAll, List.length_cons]
      omega
    · simp only [List.map_cons, PyData.depthAll, d, PyData.depth]
      omega
/-- repr of a list of ints is served -/
theorem ints_shown {ns : List Int} (h : ∀ i ∈ ns, i.natAbs ≤ 10 ^ 40) (hl : ns.length ≤ 700) :
    (PyData.list (ns.map .int)).showable = true ∧ (PyData.list (ns.map .int)).shown.length ≤ sizeLine ∧ (PyData.list (ns.map .int)).depth ≤ 60 := by
  obtain ⟨a, b, c, d⟩ := ints_leaves h
  have hs := PyData.shown_le 100 (by decide) (.list (ns.map .int)) (by simpa only [PyData.leavesShort] using a)
  have hw : (PyData.list (ns.map .int)).weight ≤ 201 * ns.length + 1 := by
    simp only [PyData.weight]
    omega
  have z : sizeLine = 16777216 := rfl
  refine ⟨by simpa only [PyData.showable] using b, by omega, ?_⟩
  simp only [PyData.depth, d]
  omega
theorem one_shown {i : Int} (h : i.natAbs ≤ 10 ^ 40) : (PyData.int i).showable = true ∧ (PyData.int i).shown.length ≤ sizeLine ∧ (PyData.int i).depth ≤ 60 := by
  obtain ⟨e1, e2, e3⟩ := int_shown h
  have z : sizeLine = 16777216 := rfl
  refine ⟨by simpa [PyData.showable] using e2, by omega, by simp only [PyData.depth]; omega⟩
theorem ints_dp {K : PySem.W.Frag} {H : Hp} : ∀ ns : List Int, DpAll K H (ns.map V.int) (ns.map .int)
  | [] => .nil
  | i :: ns => .cons (.int i) (ints_dp ns)
theorem list_dp {K : PySem.W.Frag} {H : Hp} {a : Addr} {ns : List Int} (h : SqL K H a (ns.map V.int)) : Dp K H (.ref a) (.list (ns.map .int)) := .lst h (ints_dp ns)

/-! what stays -/
theorem new_same {H : Hp} {q : Addr} {o : HO} (n : H q = none) : Same H (upd H q o) := fun b u e => by
  rw [upd_ne (ne_of_none e n)]
  exact e
/-- a new object may change -/
theorem own_same {H H' : Hp} {q : Addr} {o : HO} (n : H q = none) (s : Same H H') : Same H (upd H' q o) := fun b u e => by
  rw [upd_ne (ne_of_none e n)]
  exact s b u e
theorem same_tup {K : PySem.W.Frag} {H H' : Hp} (s : Same H H') {a : Addr} {xs : List V} (h : SqT K H a xs) : SqT K H' a xs := by
  rcases h with (h | ⟨o, h⟩) | h
  · exact .inl (.inl (s _ _ h))
  · exact .inl (.inr ⟨o, s _ _ h⟩)
  · exact .inr h
/-- slabs at a: a list of pairs -/
def SlabsAt (K : PySem.W.Frag) (H : Hp) (a : Addr) (ss : List (Nat × Int)) : Prop :=
  ∃ bs : List Addr, SqL K H a (bs.map V.ref) ∧ bs.length = ss.length ∧ ∀ (i : Nat) (b : Addr) (s : Nat × Int), bs[i]? = some b → ss[i]? = some s → SqT K H b [.int (s.1 : Nat), .int s.2]
theorem SlabsAt.same {K : PySem.W.Frag} {H H' : Hp} {a : Addr} {ss : List (Nat × Int)} (h : SlabsAt K H a ss) (s : Same H H') : SlabsAt K H' a ss := by
  obtain ⟨bs, h1, h2, h3⟩ := h
  exact ⟨bs, s.seq h1, h2, fun i b t e1 e2 => same_tup s (h3 i b t e1 e2)⟩
theorem map_at {α : Type} {f : α → V} {xs : List α} {i : Nat} {v : V} (h : (xs.map f)[i]? = some v) : ∃ x, xs[i]? = some x ∧ v = f x := by
  rw [List.getElem?_map] at h
  cases e : xs[i]? with
  | none => rw [e] at h; cases h
  | some x => rw [e] at h; exact ⟨x, rfl, (Option.some.inj h).symm⟩
theorem at_of {α : Type} {xs : List α} {i n : Nat} (hl : xs.length = n) (h : i < n) : ∃ x, xs[i]? = some x := ⟨xs[i]'(by omega), List.getElem?_eq_getElem (by omega)⟩
theorem at_lt {α : Type} {xs : List α} {i : Nat} {x : α} (h : xs[i]? = some x) : i < xs.length := (List.getElem?_eq_some_iff.mp h).1
theorem getD_at {l : List Int} {i : Nat} (h : i < l.length) : l[i]? = some (l.getD i 0) := by
  rw [List.getD_eq_getElem?_getD, List.getElem?_eq_getElem h] <;> rfl
theorem ints_at {l : List Int} {i : Nat} (h : i < l.length) : (l.map V.int)[i]? = some (.int (l.getD i 0)) := by
  rw [List.getElem?_map, getD_at h] <;> rfl
theorem ints_atI {l : List Int} {i : Nat} (h : i < l.length) : atI (l.map V.int) ((i : Nat) : Int) = some (.int (l.getD i 0)) := atI_nat (ints_at h)
theorem take_at {α : Type} {xs : List α} {i : Nat} {x : α} (h : xs[i]? = some x) : xs.take (i + 1) = xs.take i ++ [x] := by
  rw [List.take_add_one, h] <;> rfl
theorem map_set {l : List Int} {i : Nat} {v : Int} : (l.map V.int).set i (.int v) = (l.set i v).map V.int := by
  rw [List.map_set]
section
variable {X : Cx}
/-- l[j], j from nought on, in l[j] op= x -/
def rGetL (K : PySem.W.Frag) : V → V → Hp → VK → Prop := fun o i H Q => ∃ (p : Addr) (xs : List V) (j : Nat) (v : V), o = .ref p ∧ i = .int (j : Nat) ∧ SqL K H p xs ∧ xs[j]? = some v ∧ Q v H
theorem get_list : PGet X (rGetL X.K) := by
  intro pins s σ H o i ov iv Q I r1 r2 h
  obtain ⟨p, xs, j, v, rfl, rfl, hq, he, q⟩ := h
  cases r1
  obtain ⟨t, rfl⟩ := r2
  obtain ⟨its, r, pl, hz⟩ := I.list hq
  obtain ⟨u, eu, ru⟩ := r.get he
  have hl := r.length
  have lt := at_lt he
  have zz : sizeLine = 16777216 := rfl
  have hi := at_lt eu
  refine wpAny_getItem_list pl.isList (by omega) (by omega) ?_ ⟨v, H, I, ru, q⟩
  simpa using eu
end
theorem ixN_nat {n j : Nat} (h : j < n) : ixN n (j : Int) = some j := by
  unfold ixN
  rw [if_pos (by omega), if_pos (by omega)] <;> simp
end Gd
end

section
set_option Elab.async false
set_option linter.all false
set_option maxRecDepth 100000
set_option maxHeartbeats 4000000
namespace Gd
open PySem PySem.Spec PyProof.Rows L2
section
variable {X : Cx}
/-- a list beside [] -/
def rL0 (K : PySem.W.Frag) (neg : Bool) : R2 := fun x y H Q => ∃ a b xs, x = .ref a ∧ y = .ref b ∧ SqL K H a xs ∧ SqL K H b [] ∧ Q (.bl (if neg then !xs.isEmpty else xs.isEmpty)) H
theorem op_eqL0 (hu : X.A.units < cLine) : OpR X (compareOp .Eq) (rL0 X.K false) := by
  intro pins s σ H x y v u Q I rx ry h
  obtain ⟨a, b, xs, rfl, rfl, ha, hb, q⟩ := h
  cases rx
  cases ry
  obtain ⟨its, r, pl, _⟩ := I.list ha
  obtain ⟨its2, r2, pl2, _⟩ := I.list hb
  cases r2
  cases r with
  | nil => exact SeqAt.RcAt.lists (e := fun _ => true) pl.isList pl2.isList rfl hu (fun j h1 _ => absurd h1 (by simp)) _ _ _ _ ⟨.bl _, H, I, rfl, q⟩
  | cons _ _ => exact SeqAt.RcAt.lists_lengths pl.isList pl2.isList (by simp) hu _ _ _ _ ⟨.bl _, H, I, rfl, q⟩
theorem op_neL0 (hu : X.A.units < cLine) : OpR X (compareOp .NotEq) (rL0 X.K true) := by
  intro pins s σ H x y v u Q I rx ry h
  obtain ⟨a, b, xs, rfl, rfl, ha, hb, q⟩ := h
  cases rx
  cases ry
  obtain ⟨its, r, pl, _⟩ := I.list ha
  obtain ⟨its2, r2, pl2, _⟩ := I.list hb
  cases r2
  cases r with
  | nil => exact SeqAt.RcNeAt.lists (e := fun _ => true) pl.isList pl2.isList rfl hu (fun j h1 _ => absurd h1 (by simp)) _ _ _ _ ⟨.bl _, H, I, rfl, q⟩
  | cons _ _ => exact SeqAt.RcNeAt.lists_lengths pl.isList pl2.isList (by simp) hu _ _ _ _ ⟨.bl _, H, I, rfl, q⟩
end
/-! what stays through draws -/
theorem ex1_of_same {p : Addr} {H H' : Hp} (s : Same H H') : Ex1 p H H' := fun b u _ e => s b u e
theorem ex1_own {p q : Addr} {H H' : Hp} {o : HO} (n : H q = none) (x : Ex1 p H H') : Ex1 p H (upd H' q o) := fun b u nb e => by
  rw [upd_ne (ne_of_none e n)]
  exact x b u nb e
theorem Feed.off {H : Hp} {p q : Addr} {S : Int} {o : HO} (F : Feed H p S) (n : q ≠ p) : Feed (upd H q o) p S := by
  obtain ⟨g, x, s, e, a, b⟩ := F
  exact ⟨g, x, s, by rw [upd_ne n.symm]; exact e, a, b⟩
theorem Feed.kept {H H' : Hp} {p : Addr} {S : Int} (F : Feed H p S) (s : Same H H') : Feed H' p S := by
  obtain ⟨g, x, z, ep, a, b⟩ := F
  exact ⟨g, x, z, s _ _ ep, a, b⟩
theorem Feed.not {H : Hp} {p q : Addr} {S : Int} (F : Feed H p S) (n : H q = none) : q ≠ p := F.ne n
theorem ex1_tup {K : PySem.W.Frag} {H H' : Hp} {p a : Addr} {S : Int} {xs : List V} (F : Feed H p S) (x : Ex1 p H H') (h : SqT K H a xs) : SqT K H' a xs := by
  obtain ⟨ys, ep⟩ := F.lst
  rcases h with (h | ⟨o, h⟩) | h
  · exact .inl (.inl (x _ _ (fun z => by rw [z, ep] at h; cases h) h))
  · exact .inl (.inr ⟨o, x _ _ (fun z => by rw [z, ep] at h; cases h) h⟩)
  · exact .inr h
theorem ex1_seq {K : PySem.W.Frag} {H H' : Hp} {p a : Addr} {xs : List V} (n : a ≠ p) (x : Ex1 p H H') (h : SqL K H a xs) : SqL K H' a xs := by
  rcases h with (h | ⟨o, h⟩) | h
  · exact .inl (.inl (x _ _ n h))
  · exact .inl (.inr ⟨o, x _ _ n h⟩)
  · exact .inr h
theorem SlabsAt.drawn {K : PySem.W.Frag} {H H' : Hp} {p a : Addr} {S : Int} {ss : List (Nat × Int)} (h : SlabsAt K H a ss) (F : Feed H p S) (n : a ≠ p) (x : Ex1 p H H') : SlabsAt K H' a ss := by
  obtain ⟨bs, h1, h2, h3⟩ := h
  exact ⟨bs, ex1_seq n x h1, h2, fun i b t e1 e2 => ex1_tup F x (h3 i b t e1 e2)⟩
/-- a new object is not p, and was not there before the draws -/
theorem ex1_free {p q : Addr} {H H' : Hp} (x : Ex1 p H H') (n : q ≠ p) (h : H' q = none) : H q = none := by
  cases e : H q with
  | none => rfl
  | some o => rw [x q o n e] at h; cases h
theorem at_list {α : Type} {f : α → V} {xs : List α} {r : Int} (h0 : 0 ≤ r) (h1 : r < xs.length) : ∃ x, x ∈ xs ∧ atI (xs.map f) r = some (f x) := by
  have h2 : r.toNat < xs.length := by omega
  refine ⟨xs[r.toNat], List.getElem_mem h2, ?_⟩
  have e : ((r.toNat : Nat) : Int) = r := by omega
  have z : atI (xs.map f) ((r.toNat : Nat) : Int) = some (f xs[r.toNat]) := atI_nat (by rw [List.getElem?_map, List.getElem?_eq_getElem h2] <;> rfl)
  rw [e] at z
  exact z
end Gd
end

section
set_option Elab.async false
set_option linter.all false
set_option maxRecDepth 100000
set_option maxHeartbeats 4000000
/-! A pen: a list of the cells' list at c, the place of the next one, what is left of a great one. -/
namespace Gd
open PySem PySem.Spec PyProof.Rows L2
def Pen (H : Hp) (l c : Addr) (S : Int) : Prop := ∃ (ns : List Int) (t ov : Int), H l = some (.lst [.ref c, .int t, .int ov]) ∧ H c = some (.lst (ns.map V.int)) ∧ ns.length ≤ 63 ∧ 0 ≤ t ∧ t ≤ S
section
variable {H H' : Hp} {l c q : Addr} {S T : Int} {o : HO}
theorem Pen.le (h : Pen H l c S) (le : S ≤ T) : Pen H l c T := by
  obtain ⟨ns, t, ov, a, b, d, e, f⟩ := h
  exact ⟨ns, t, ov, a, b, d, e, by omega⟩
theorem Pen.apart (h : Pen H l c S) : l ≠ c := by
  obtain ⟨ns, t, ov, a, b, _⟩ := h
  intro e
  rw [e, b] at a
  cases ns with
  | nil => cases a
  | cons x r => cases a
theorem Pen.not (h : Pen H l c S) (n : H q = none) : q ≠ l ∧ q ≠ c := by
  obtain ⟨ns, t, ov, a, b, _⟩ := h
  exact ⟨fun e => (by rw [e, a] at n; cases n), fun e => (by rw [e, b] at n; cases n)⟩
theorem Pen.same (h : Pen H l c S) (s : Same H H') : Pen H' l c S := by
  obtain ⟨ns, t, ov, a, b, d, e, f⟩ := h
  exact ⟨ns, t, ov, s _ _ a, s _ _ b, d, e, f⟩
theorem Pen.off (h : Pen H l c S) (n1 : q ≠ l) (n2 : q ≠ c) : Pen (upd H q o) l c S := by
  obtain ⟨ns, t, ov, a, b, d, e, f⟩ := h
  exact ⟨ns, t, ov, by rw [upd_ne n1.symm]; exact a, by rw [upd_ne n2.symm]; exact b, d, e, f⟩
end
theorem sq_le {t B : Int} (h0 : 0 ≤ t) (h : t ≤ B) : 0 ≤ t * t ∧ t * t ≤ B * B := ⟨Int.mul_nonneg h0 h0, Int.mul_le_mul h h h0 (by omega)⟩
theorem mul_le {x t A B : Int} (hx : 0 ≤ x) (hA : x ≤ A) (h0 : 0 ≤ t) (h : t ≤ B) : 0 ≤ x * t ∧ x * t ≤ A * B := ⟨Int.mul_nonneg hx h0, Int.mul_le_mul hA h h0 (by omega)⟩
def spDraw : Sp := fun vs H Q _ => ∃ (l c : Addr) (m S : Int), vs = [.ref l, .int m] ∧ Pen H l c S ∧ 0 < m ∧ m < 1073741824 ∧ S ≤ 100000 ∧
  ∀ (r : Int) (H' : Hp), 0 ≤ r → r < m → Pen H' l c (S + 1) → Ex1 l H H' → Q (.int r) H'
end Gd
end

section
set_option Elab.async false
set_option linter.all false
set_option maxRecDepth 100000
set_option maxHeartbeats 4000000
namespace K07t
open PySem PySem.Spec PyProof.Rows L2 Gd
def topS (i : Nat) : Stmt := PySem.Challenge.pw_plansamid_k07_rows_at_each_moment.main.body.getD i (.Pass ⟨0, 0, 0, 0⟩)
end K07t
end

section
set_option Elab.async false
set_option linter.all false
set_option maxRecDepth 100000
set_option maxHeartbeats 4000000
namespace K07t
open PySem PySem.Spec PyProof.Rows L2 Gd

/-! what a part is, by its data -/
def isLab (x : Str) : Bool := decide (1 ≤ x.length) && decide (x.length ≤ 8) && x.cps.toList.all (fun c => decide (c ∈ ("abcdefghijklmnopqrstuvwxyz" : Str).cps.toList))
def isLabD : PyData → Bool
  | .str x => isLab x
  | _ => false
def isNum : PyData → Bool
  | .int i => decide (-(10 ^ 30 : Int) < i) && decide (i < 10 ^ 30)
  | _ => false
def isWor : PyData → Bool
  | .none => true
  | d => isNum d
def signs : List Str := ["plus", "less", "times", "over"]
def cnt : Nat → PyData → Nat
  | 0, _ => 0
  | k + 1, .tuple ds => match ds with
    | [w, n] => if isStr w "number" && isNum n then 1 else 0
    | [w, x, y] =>
      if isStr w "cell" then (if isLabD x && isLabD y then 1 else 0)
      else if signs.any (isStr w) then (if decide (0 < cnt k x) && decide (0 < cnt k y) then 1 + cnt k x + cnt k y else 0) else 0
    | _ => 0
  | _ + 1, _ => 0
def isPart (d : PyData) : Bool := decide (1 ≤ cnt 5 d) && decide (cnt 5 d ≤ 15)

/-! sizes -/
mutual
def okD (k : Nat) : PyData → Bool
  | .none => true
  | .bool _ => true
  | .int i => decide (i.natAbs ≤ 10 ^ 64 + k)
  | .str x => decide (x.length ≤ 100 + k) && x.cps.toList.all (fun c => decide (c < 128))
  | .list ds => decide (ds.length ≤ k) && okAll k ds
  | .tuple ds => decide (ds.length ≤ k) && okAll k ds
  | .dict kvs => okKv k kvs
def okAll (k : Nat) : List PyData → Bool
  | [] => true
  | d :: ds => okD k d && okAll k ds
def okKv (k : Nat) : List (PyData × PyData) → Bool
  | [] => true
  | (a, b) :: r => okD k a && okD k b && okKv k r
end
mutual
theorem okD.mono {k m : Nat} (l : k ≤ m) : ∀ d : PyData, okD k d = true → okD m d = true
  | .none, _ => rfl
  | .bool _, _ => rfl
  | .int i, h => by
    simp only [okD, decide_eq_true_eq] at h ⊢
    exact Nat.le_trans h (Nat.add_le_add_left l _)
  | .str x, h => by
    simp only [okD, Bool.and_eq_true, decide_eq_true_eq] at h ⊢
    exact ⟨by omega, h.2⟩
  | .list ds, h => by
    simp only [okD, Bool.and_eq_true, decide_eq_true_eq] at h ⊢
    exact ⟨by omega, okAll.mono l ds h.2⟩
  | .tuple ds, h => by
    simp only [okD, Bool.and_eq_true, decide_eq_true_eq] at h ⊢
    exact ⟨by omega, okAll.mono l ds h.2⟩
  | .dict kvs, h => by
    simp only [okD] at h ⊢
    exact okKv.mono l kvs h
theorem okAll.mono {k m : Nat} (l : k ≤ m) : ∀ ds : List PyData, okAll k ds = true → okAll m ds = true
  | [], _ => rfl
  | d :: ds, h => by
    simp only [okAll, Bool.and_eq_true] at h ⊢
    exact ⟨okD.mono l d h.1, okAll.mono l ds h.2⟩
theorem okKv.mono {k m : Nat} (l : k ≤ m) : ∀ kvs : List (PyData × PyData), okKv k kvs = true → okKv m kvs = true
  | [], _ => rfl
  | (a, b) :: r, h => by
    simp only [okKv, Bool.and_eq_true] at h ⊢
    exact ⟨⟨okD.mono l a h.1.1, okD.mono l b h.1.2⟩, okKv.mono l r h.2⟩
end
theorem int_short {i : Int} {k : Nat} (hk : k ≤ 50) (h : i.natAbs ≤ 10 ^ 64 + k) : (PyData.int i).shown.length ≤ 100 ∧ i.natAbs.log2 < 1920 := by
  have h1 : i.natAbs < 10 ^ 65 := Nat.lt_of_le_of_lt h (Nat.lt_of_le_of_lt (Nat.add_le_add_left hk _) (by decide))
  have h2 : i.natAbs < 2 ^ 1920 := Nat.lt_of_lt_of_le h1 (by decide +kernel)
  refine ⟨?_, ?_⟩
  · have e := int_text_length_le10 (k := 65) (by decide) h1
    have e2 : (PyData.int i).shown.length = (toString i).length := by
      show (Str.ofString (toString i)).length = _
      rw [PySem.ofString_length]
    omega
  · by_cases z : i.natAbs = 0
    · rw [z]; decide
    · exact (Nat.log2_lt z).mpr h2
mutual
theorem okD.short {k : Nat} (hk : k ≤ 50) : ∀ d : PyData, okD k d = true → d.leavesShort 100 = true ∧ d.showable = true
  | .none, _ => ⟨rfl, rfl⟩
  | .bool _, _ => ⟨rfl, rfl⟩
  | .int i, h => by
    simp only [okD, decide_eq_true_eq] at h
    obtain ⟨a, b⟩ := int_short hk h
    refine ⟨?_, ?_⟩
    · simpa only [PyData.leavesShort, decide_eq_true_eq] using a
    · simpa [PyData.showable] using b
  | .str x, h => by
    simp only [okD, Bool.and_eq_true, List.all_eq_true, decide_eq_true_eq] at h
    refine ⟨?_, ?_⟩
    · simp only [PyData.leavesShort, List.all_eq_true, decide_eq_true_eq]
      intro c hc
      exact Nat.lt_of_lt_of_le (h.2 c hc) (by decide)
    · simp [PyData.showable]
  | .list ds, h => by
    simp only [okD, Bool.and_eq_true] at h
    obtain ⟨a, b⟩ := okAll.short hk ds h.2
    exact ⟨by simpa only [PyData.leavesShort] using a, by simpa only [PyData.showable] using b⟩
  | .tuple ds, h => by
    simp only [okD, Bool.and_eq_true] at h
    obtain ⟨a, b⟩ := okAll.short hk ds h.2
    exact ⟨by simpa only [PyData.leavesShort] using a, by simpa only [PyData.showable] using b⟩
  | .dict kvs, h => by
    simp only [okD] at h
    obtain ⟨a, b⟩ := okKv.short hk kvs h
    exact ⟨by simpa only [PyData.leavesShort] using a, by simpa only [PyData.showable] using b⟩
theorem okAll.short {k : Nat} (hk : k ≤ 50) : ∀ ds : List PyData, okAll k ds = true → PyData.leavesShortAll 100 ds = true ∧ PyData.showableAll ds = true
  | [], _ => ⟨rfl, rfl⟩
  | d :: ds, h => by
    simp only [okAll, Bool.and_eq_true] at h
    obtain ⟨a, b⟩ := okD.short hk d h.1
    obtain ⟨a2, b2⟩ := okAll.short hk ds h.2
    exact ⟨by simp only [PyData.leavesShortAll, a, a2, Bool.and_self], by simp only [PyData.showableAll, b, b2, Bool.and_self]⟩
theorem okKv.short {k : Nat} (hk : k ≤ 50) : ∀ kvs : List (PyData × PyData), okKv k kvs = true → PyData.leavesShortKv 100 kvs = true ∧ PyData.showableKv kvs = true
  | [], _ => ⟨rfl, rfl⟩
  | (x, y) :: r, h => by
    simp only [okKv, Bool.and_eq_true] at h
    obtain ⟨a, b⟩ := okD.short hk x h.1.1
    obtain ⟨a1, b1⟩ := okD.short hk y h.1.2
    obtain ⟨a2, b2⟩ := okKv.short hk r h.2
    exact ⟨by simp only [PyData.leavesShortKv, a, a1, a2, Bool.and_self], by simp only [PyData.showableKv, b, b1, b2, Bool.and_self]⟩
end
/-- data of bounded size: k longest, w heaviest, n deepest -/
structure Fit (k w n : Nat) (d : PyData) : Prop where
  ok : okD k d = true
  wt : d.weight ≤ w
  dp : d.depth ≤ n
theorem Fit.mono {k w n k' w' n' : Nat} {d : PyData} (f : Fit k w n d) (hk : k ≤ k') (hw : w ≤ w') (hn : n ≤ n') : Fit k' w' n' d :=
  ⟨okD.mono hk d f.ok, Nat.le_trans f.wt hw, Nat.le_trans f.dp hn⟩
theorem Fit.shown {k w n : Nat} {d : PyData} (f : Fit k w n d) (hk : k ≤ 50) (hw : w ≤ 100000) : d.shown.length ≤ sizeLine ∧ d.showable = true := by
  obtain ⟨a, b⟩ := okD.short hk d f.ok
  have h := PyData.shown_le 100 (by decide) d a
  have hw2 := f.wt
  have z : sizeLine = 16777216 := rfl
  exact ⟨by omega, b⟩
theorem okAll_at {k : Nat} : ∀ {ds : List PyData} {i : Nat} {d : PyData}, okAll k ds = true → ds[i]? = some d → okD k d = true
  | [], _, _, _, e => by simp at e
  | x :: r, 0, d, o, e => by
    simp only [okAll, Bool.and_eq_true] at o
    cases Option.some.inj e
    exact o.1
  | x :: r, i + 1, d, o, e => by
    simp only [okAll, Bool.and_eq_true] at o
    exact okAll_at (i := i) o.2 e
end K07t
end

section
set_option Elab.async false
set_option linter.all false
set_option maxRecDepth 100000
set_option maxHeartbeats 4000000
namespace K07t
open PySem PySem.Spec PyProof.Rows L2 Gd
abbrev sName : Stmt := topS 27
abbrev sWhole : Stmt := topS 28
abbrev sNumber : Stmt := topS 29
theorem scName : FnScope ["thing", "letter"] ["thing"] (defScope sName) :=
  ⟨rfl, rfl, rfl, by decide +kernel, rfl, by decide +kernel, by decide +kernel⟩
theorem scWhole : FnScope ["thing"] ["thing"] (defScope sWhole) :=
  ⟨rfl, rfl, rfl, by decide +kernel, rfl, by decide +kernel, by decide +kernel⟩
theorem scNumber : FnScope ["thing"] ["thing"] (defScope sNumber) :=
  ⟨rfl, rfl, rfl, by decide +kernel, rfl, by decide +kernel, by decide +kernel⟩

/-! which built-in class data is of -/
def isT : PyData → Bool
  | .tuple _ => true
  | _ => false
def isS : PyData → Bool
  | .str _ => true
  | _ => false
def isI : PyData → Bool
  | .int _ => true
  | .bool _ => true
  | _ => false
def isB : PyData → Bool
  | .bool _ => true
  | _ => false
theorem k_tup : ∀ d : PyData, kitB (kindN d) "tuple" = some (isT d)
  | .none => show kitB "NoneType" "tuple" = some false by decide +kernel
  | .bool _ => show kitB "bool" "tuple" = some false by decide +kernel
  | .int _ => show kitB "int" "tuple" = some false by decide +kernel
  | .str _ => show kitB "str" "tuple" = some false by decide +kernel
  | .list _ => show kitB "list" "tuple" = some false by decide +kernel
  | .tuple _ => show kitB "tuple" "tuple" = some true by decide +kernel
  | .dict _ => show kitB "dict" "tuple" = some false by decide +kernel
theorem k_str : ∀ d : PyData, kitB (kindN d) "str" = some (isS d)
  | .none => show kitB "NoneType" "str" = some false by decide +kernel
  | .bool _ => show kitB "bool" "str" = some false by decide +kernel
  | .int _ => show kitB "int" "str" = some false by decide +kernel
  | .str _ => show kitB "str" "str" = some true by decide +kernel
  | .list _ => show kitB "list" "str" = some false by decide +kernel
  | .tuple _ => show kitB "tuple" "str" = some false by decide +kernel
  | .dict _ => show kitB "dict" "str" = some false by decide +kernel
theorem k_int : ∀ d : PyData, kitB (kindN d) "int" = some (isI d)
  | .none => show kitB "NoneType" "int" = some false by decide +kernel
  | .bool _ => show kitB "bool" "int" = some true by decide +kernel
  | .int _ => show kitB "int" "int" = some true by decide +kernel
  | .str _ => show kitB "str" "int" = some false by decide +kernel
  | .list _ => show kitB "list" "int" = some false by decide +kernel
  | .tuple _ => show kitB "tuple" "int" = some false by decide +kernel
  | .dict _ => show kitB "dict" "int" = some false by decide +kernel
theorem k_bool : ∀ d : PyData, kitB (kindN d) "bool" = some (isB d)
  | .none => show kitB "NoneType" "bool" = some false by decide +kernel
  | .bool _ => show kitB "bool" "bool" = some true by decide +kernel
  | .int _ => show kitB "int" "bool" = some false by decide +kernel
  | .str _ => show kitB "str" "bool" = some false by decide +kernel
  | .list _ => show kitB "list" "bool" = some false by decide +kernel
  | .tuple _ => show kitB "tuple" "bool" = some false by decide +kernel
  | .dict _ => show kitB "dict" "bool" = some false by decide +kernel

/-- the program's constants -/
structure Cs (K : PySem.W.Frag) (mg : Str → Option Value) (pS : Addr) : Prop where
  letters : ∃ t, mg "_LETTERS" = some (.str "abcdefghijklmnopqrstuvwxyz" t)
  longest : ∃ t, mg "_LONGEST_NAME" = some (.int 8 t)
  great : ∃ t, mg "_TOO_GREAT" = some (.int (10 ^ 30) t)
  isi : mg "isinstance" = none
  str : mg "str" = none
  int : mg "int" = none
  bool : mg "bool" = none
  len : mg "len" = none
  all : mg "all" = none

/-- a small checker: its answer by the data -/
def spChk (K : PySem.W.Frag) (f : PyData → Bool) : Sp := fun vs H Q _ => ∃ (N : Addr → Prop) (v : V) (d : PyData), vs = [v] ∧ Dd K H N v d ∧ okD 50 d = true ∧
  ∀ H', Same H H' → Q (.bl (f d)) H'
theorem spChk.len {K : PySem.W.Frag} {f : PyData → Bool} : ∀ vs H Q E, spChk K f vs H Q E → vs.length = 1 := by
  rintro vs H Q E ⟨N, v, d, rfl, _⟩
  rfl
section
variable {P : Program} {w : World} {K : PySem.W.Frag} {mg : Str → Option Value} {base : Heap} {f : Addr} {fd : FuncData} {pS : Addr}
theorem ok_whole (F : Fun K "is_whole" "is_whole" sWhole f fd) (C : Cs K mg pS) :
    FnOk P w K mg base CX0 1 f fd ["thing"] (spChk K fun d => isI d && !isB d) := by
  refine F.ok scWhole spChk.len (fun cdv A outer s H vs Q E hr h => ?_)
  obtain ⟨N, v, d, rfl, hd, ok, q⟩ := h
  have nd := scWhole.nd
  refine ⟨_, pss_one (ps_ret (pe_and (pe_callB call_isi (by rfl) C.isi (by decide +kernel) (pa_cons (pv 0) (pa_cons (pe_bltn (v := .ty "int") (by rfl) C.int (by decide +kernel) rfl) pa_nil)))
    (pe_one (pe_not (pe_callB call_isi (by rfl) C.isi (by decide +kernel) (pa_cons (pv 0) (pa_cons (pe_bltn (v := .ty "bool") (by rfl) C.bool (by decide +kernel) rfl) pa_nil))))))), ?_⟩
  refine ⟨_, rfl, _, _, _, _, isI d, rfl, .ty _, hd.kind, kit_ty (k_int d), _, rfl, ite2 (fun e => ?_) (fun e => ?_)⟩
  · refine ⟨_, rfl, _, _, _, _, isB d, rfl, .ty _, hd.kind, kit_ty (k_bool d), _, rfl, ?_⟩
    have z : Q (.bl (isI d && !isB d)) H := q H (fun _ _ e => e)
    rw [e, Bool.true_and] at z
    exact z
  · have z : Q (.bl (isI d && !isB d)) H := q H (fun _ _ e => e)
    rw [Bool.eq_false_iff.mpr e, Bool.false_and] at z
    exact z
/-- a number near nought -/
def nearB (m : Int) (d : PyData) : Bool := match d with
  | .int i => decide (-m < i) && decide (i < m)
  | _ => false
theorem isI_num {K : PySem.W.Frag} {H : Hp} {N : Addr → Prop} {v : V} {d : PyData} (hd : Dd K H N v d) (e : (isI d && !isB d) = true) : ∃ i, d = .int i ∧ v = .int i := by
  cases hd with
  | int i => exact ⟨i, rfl, rfl⟩
  | bl b => exact absurd e Bool.false_ne_true
  | non => exact absurd e Bool.false_ne_true
  | str _ => exact absurd e Bool.false_ne_true
  | lst _ _ _ _ => exact absurd e Bool.false_ne_true
  | tup _ _ => exact absurd e Bool.false_ne_true
  | dct0 _ _ => exact absurd e Bool.false_ne_true
  | dct1 _ _ => exact absurd e Bool.false_ne_true
theorem isNum_no {d : PyData} (e : ¬ (isI d && !isB d) = true) : isNum d = false := by
  cases d with
  | int i => exact absurd rfl e
  | _ => rfl
variable {fW : Addr} {fdW : FuncData}
theorem ok_number (F : Fun K "is_number" "is_number" sNumber f fd) (C : Cs K mg pS) (FW : Fun K "is_whole" "is_whole" sWhole fW fdW)
    (bW : Binds K fdW ["thing"] []) (gW : mg "is_whole" = some (.ref fW)) :
    FnOk P w K mg base CX0 2 f fd ["thing"] (spChk K isNum) := by
  have G : FnOk P w K mg base CX0 1 fW fdW ["thing"] (spChk K fun d => isI d && !isB d) := ok_whole FW C
  refine F.ok scNumber spChk.len (fun cdv A outer s H vs Q E hr h => ?_)
  obtain ⟨N, v, d, rfl, hd, ok, q⟩ := h
  have nd := scNumber.nd
  obtain ⟨tg, gg⟩ := C.great
  refine ⟨_, pss_one (ps_ret (pe_and (pe_call G hr (by rfl) gW FW.kp bW .nil pass0 (pa_cons (pv 0) pa_nil))
    (pe_one (pe_chain op_lt op_lt (pe_un un_neg (pe_glob (v := .int (10 ^ 30)) (by rfl) gg ⟨_, rfl⟩)) (pv 0) (pe_glob (v := .int (10 ^ 30)) (by rfl) gg ⟨_, rfl⟩))))), ?_⟩
  refine ⟨_, rfl, N, v, d, rfl, hd, ok, fun H' sm => ⟨_, rfl, ite2 (fun e => ?_) (fun e => ?_)⟩⟩
  · obtain ⟨i, rfl, rfl⟩ := isI_num hd e
    have z := q H' sm
    refine ⟨_, rfl, _, rfl, _, _, rfl, rfl, _, rfl, ite2 (fun c => ?_) (fun c => ?_)⟩
    · refine ⟨_, _, rfl, rfl, ?_⟩
      rw [show isNum (.int i) = (decide (-(10 ^ 30 : Int) < i) && decide (i < 10 ^ 30)) from rfl, c, Bool.true_and] at z
      exact z
    · rw [show isNum (.int i) = (decide (-(10 ^ 30 : Int) < i) && decide (i < 10 ^ 30)) from rfl, Bool.eq_false_iff.mpr c, Bool.false_and] at z
      exact z
  · have z := q H' sm
    rw [isNum_no e] at z
    exact z
theorem ok_name (F : Fun K "is_name" "is_name" sName f fd) (C : Cs K mg pS) :
    FnOk P w K mg base CX0 1 f fd ["thing"] (spChk K isLabD) := by
  refine F.ok scName spChk.len (fun cdv A outer s H vs Q E hr h => ?_)
  obtain ⟨N, v, d, rfl, hd, ok, q⟩ := h
  have nd := scName.nd
  obtain ⟨tl, gl⟩ := C.letters
  obtain ⟨tn, gn⟩ := C.longest
  refine ⟨_, pss_cons (ps_if (PW.pt (pw_or (pt_not (pt_val (pe_callB call_isi (by rfl) C.isi (by decide +kernel) (pa_cons (pv 0) (pa_cons (pe_bltn (v := .ty "str") (by rfl) C.str (by decide +kernel) rfl) pa_nil)))))
      (pw_or1 (pt_not (pt_chain op_le op_le pe_int (pe_callB call_len_str (by rfl) C.len PySem.boot_len (pa_cons (pv 0) pa_nil)) (pe_glob (v := .int 8) (by rfl) gn ⟨_, rfl⟩))))))
      (pss_one (ps_ret pe_bl)) pss_nil)
    (pss_one (ps_ret (pe_callB (cr_all rfl) (by rfl) C.all (by decide +kernel) (pa_cons (pe_lc (own := [("letter", 1)]) (g := gName 1) (tt := tYes) rfl nd (pi_str (pv 0))
        (blkOk_by (N := ["thing", "letter"]) (sc := defScope sName) (by decide +kernel)) (fun _ _ _ _ _ => pg_name (i := 1) nd rfl (Or.inl rfl)) (fun _ _ _ _ _ => pts_nil)
        (fun _ _ _ _ _ => pe_cmpR op_in_sign (pv 1) (pe_glob (v := .str "abcdefghijklmnopqrstuvwxyz") (by rfl) gl ⟨_, rfl⟩) (by rfl))) pa_nil)))), ?_⟩
  refine ⟨_, rfl, _, _, _, _, isS d, rfl, .ty _, hd.kind, kit_ty (k_str d), _, rfl, ?_⟩
  have no : ∀ e : isLabD d = false, Q (.bl false) H := fun e => by
    have z := q H (fun _ _ e => e)
    rw [e] at z
    exact z
  cases hs : isS d with
  | false =>
    have e : isLabD d = false := by
      cases d with
      | str x => exact Bool.noConfusion hs
      | _ => rfl
    exact iteT (no e)
  | true =>
    refine iteF ?_
    cases d with
    | str x =>
      cases hd
      obtain ⟨xl, xa⟩ : x.length ≤ 150 ∧ x.cps.toList.all (fun c => decide (c < 128)) = true := by simpa only [okD, Bool.and_eq_true, decide_eq_true_eq] using ok
      have xz : x.length ≤ sizeLine := Nat.le_trans xl (by decide)
      have lab : isLabD (.str x) = (decide (1 ≤ x.length) && decide (x.length ≤ 8) && x.cps.toList.all (fun c => decide (c ∈ ("abcdefghijklmnopqrstuvwxyz" : Str).cps.toList))) := rfl
      have cast1 : decide ((1 : Int) ≤ (x.length : Int)) = decide (1 ≤ x.length) := decide_eq_decide.mpr (by omega)
      have cast8 : decide ((x.length : Int) ≤ 8) = decide (x.length ≤ 8) := decide_eq_decide.mpr (by omega)
      refine ⟨_, rfl, x, rfl, xz, _, _, rfl, rfl, _, rfl, ite2 (fun c1 => ?_) (fun c1 => ?_)⟩
      · refine ⟨_, _, rfl, rfl, _, rfl, ?_⟩
        cases c8 : decide ((x.length : Int) ≤ 8) with
        | false =>
          rw [cast8] at c8
          refine iteT (no ?_)
          rw [lab, c8, Bool.and_false, Bool.false_and]
        | true =>
          refine iteF ?_
          rw [cast8] at c8
          rw [cast1] at c1
          rw [c1, c8, Bool.true_and, Bool.true_and] at lab
          refine ⟨_, rfl, x, rfl, fun D hD => ?_⟩
          let al : List Nat := ("abcdefghijklmnopqrstuvwxyz" : Str).cps.toList
          refine lc_it walk_str (fun i H' => Same H H' ∧ H' D = some (.lst ((x.cps.toList.take i).map fun c => V.bl (decide (c ∈ al))))) ?_ ?_ ?_ ?_
          · exact ⟨fun b u e => by rw [upd_ne (ne_of_none e hD)]; exact e, upd_same⟩
          · exact fun _ _ _ _ => trivial
          · rintro i v H1 H2 hi ⟨sm, eD⟩ ⟨rfl, c, ec, rfl⟩
            refine ⟨rfl, ?_⟩
            unfold tYes
            dsimp only
            rw [if_pos rfl]
            have hl : ((x.cps.toList.take i).map fun c => V.bl (decide (c ∈ al))).length < sizeLine := by
              rw [List.length_map, List.length_take]
              have : min i x.cps.toList.length ≤ i := Nat.min_le_left _ _
              have e3 : x.length = x.cps.size := rfl
              have z : sizeLine = 16777216 := rfl
              omega
            refine ⟨_, rfl, c, _, rfl, rfl, _, eD, hl, ?_, ?_⟩
            · intro b u e
              rw [upd_ne (ne_of_none e hD)]
              exact sm _ _ e
            · have e2 : x.cps.toList.take (i + 1) = x.cps.toList.take i ++ [c] := by
                rw [List.take_add_one, Array.getElem?_toList, ec]
                rfl
              rw [e2, List.map_append]
              exact upd_same
          · rintro H1 ⟨sm, eD⟩
            have e3 : x.cps.size = x.cps.toList.length := rfl
            rw [e3, List.take_length] at eD
            have e4 : (x.cps.toList.map fun c => V.bl (decide (c ∈ al))) = (x.cps.toList.map fun c => decide (c ∈ al)).map V.bl := by
              rw [List.map_map]
              rfl
            rw [e4] at eD
            refine ⟨D, _, rfl, SqL.of eD, ?_⟩
            have z := q H1 sm
            rw [lab] at z
            rw [List.all_map]
            exact z
      · refine ⟨_, rfl, iteT (no ?_)⟩
        rw [cast1] at c1
        rw [lab, Bool.eq_false_iff.mpr c1, Bool.false_and, Bool.false_and]
    | _ => exact Bool.noConfusion hs
end
end K07t
end

section
set_option Elab.async false
set_option linter.all false
set_option maxRecDepth 100000
set_option maxHeartbeats 4000000
/-! set(xs) of texts and whole numbers in a list or a tuple; len of it. -/
namespace Sk
open PySem PySem.Spec PyProof.Rows L2
/-- each once, in the order of the first -/
def uniq {K : Type} [DecidableEq K] (xs : List K) : List K := xs.foldl (fun acc k => if k ∈ acc then acc else acc ++ [k]) []
section
variable {P : Program} {w : World} {K : Type} [DecidableEq K] {knd : KeyKind P w K} {A : Around} {E : Value → Shared → Prop} {s : Shared}
theorem uniq_snoc (xs : List K) (k : K) : uniq (xs ++ [k]) = if k ∈ uniq xs then uniq xs else uniq xs ++ [k] := by
  unfold uniq
  rw [List.foldl_append]
  rfl
theorem uniq_go (xs : List K) : ∀ acc : List K, (xs.foldl (fun acc k => if k ∈ acc then acc else acc ++ [k]) acc).length ≤ acc.length + xs.length := by
  induction xs with
  | nil => exact fun acc => Nat.le_refl _
  | cons k xs ih =>
    intro acc
    rw [List.foldl_cons, List.length_cons]
    have h := ih (if k ∈ acc then acc else acc ++ [k])
    by_cases z : k ∈ acc
    · rw [if_pos z] at h ⊢
      omega
    · rw [if_neg z, List.length_append, List.length_singleton] at h
      rw [if_neg z]
      omega
theorem uniq_len (xs : List K) : (uniq xs).length ≤ xs.length := by
  have h := uniq_go xs []
  rw [List.length_nil, Nat.zero_add] at h
  exact h
abbrev newS (led : Bool) : Obj := { cls := .type "set", dict := none, data := .set #[] 0 (.fresh 0 0 led) }
/-- the set at a holds just these -/
def SetIs (knd : KeyKind P w K) (h : Heap) (a : Addr) (ks : List K) : Prop := h.SetOf knd a (fun k => decide (k ∈ ks)) ks.length
theorem SetIs.kept {h h' : Heap} {a : Addr} {ks : List K} (R : SetIs knd h a ks) (k : ∀ o, h.get? a = some o → h'.get? a = some o) : SetIs knd h' a ks := by
  obtain ⟨o, es, ep, t, ho, r⟩ := R
  exact ⟨o, es, ep, t, k o ho, r⟩
theorem fresh (led : Bool) {h : Heap} {a : Addr} (e : h.get? a = some (newS led)) : SetIs knd h a (uniq ([] : List K)) :=
  ⟨_, #[], 0, _, e, ⟨rfl, rfl, rfl⟩, rfl, (fun e he => by simp at he), (fun k => by simp [uniq]), (by decide), (by rfl), rfl⟩
/-- what stands in a sequence -/
structure Held (knd : KeyKind P w K) (ks : List K) (items : Array Value) : Prop where
  size : items.size = ks.length
  get : ∀ {i : Nat} {v : Value}, items[i]? = some v → ∃ k, ks[i]? = some k ∧ knd.is k v = true ∧ v.scannable = true
/-- the loop of set.update -/
theorem fill {I S : Addr} {fp wr : List Addr} {G : Array GenState → Array GenState → Prop} {n : Nat} {Pv : Nat → Value → Prop} {St : Nat → Shared → Prop} {R : Result → Shared → Prop} (W : WalksS P w A.in1 I fp wr G n Pv St) (hS : S ∉ fp)
    {ks : List K} (hn : n = ks.length) (few : ks.length + 1 < scanBound) (val : ∀ i v, Pv i v → ∃ k, ks[i]? = some k ∧ knd.is k v = true ∧ v.scannable = true) {h0 : Heap} (nS : h0.get? S = none) (nw : ∀ b ∈ wr, h0.get? b = none)
    {fin : Shared} (mv : Moved (S :: wr) G fin fin)
    (hR : ∀ s', Moved (S :: wr) G fin s' → SetIs knd s'.heap S (uniq ks) → (∀ b o, h0.get? b = some o → s'.heap.get? b = some o) → R (.ok (.ret .none)) s') :
    ∀ (m i : Nat) (s : Shared), n - i = m → i ≤ n → St i s → Moved (S :: wr) G fin s → (∀ b o, h0.get? b = some o → s.heap.get? b = some o) → SetIs knd s.heap S (uniq (ks.take i)) →
      codeAny (model P w) A (.builtin "set.update.loop" ⟨[.ref S, .ref I], []⟩) R s := by
  have Sw : S ∉ wr := fun y => hS (W.sub _ y)
  have sub : ∀ b ∈ wr, b ∈ S :: wr := fun b y => List.mem_cons_of_mem _ y
  have old : ∀ {s s' : Shared}, Moved wr G s s' → (∀ b o, h0.get? b = some o → s.heap.get? b = some o) → ∀ b o, h0.get? b = some o → s'.heap.get? b = some o := fun mo k b o e =>
    mo.heap b o (fun y => by rw [nw b y] at e; cases e) (k b o e)
  intro m
  induction m with
  | zero =>
    intro i s hm hi st mo k g
    obtain rfl : i = n := by omega
    rw [hn, List.take_length] at g
    refine codeAny_builtin F.entry_set_update_loop (by
      rw [Around.under_plainId F.plain_set_update_loop _]
      show wpAny _ A.in1 (pyNext (.ref I) >>= _) _ _ s
      exact wpAny_bind (W.done s _ _ st fun s' m' => wpAny_pure (hR s' (mo.trans W.gtrans (m'.mono sub)) (g.kept fun o e => m'.heap S o Sw e) (old m' k))))
  | succ m ih =>
    intro i s hm hi st mo k g
    refine codeAny_builtin F.entry_set_update_loop ?_
    rw [Around.under_plainId F.plain_set_update_loop _]
    show wpAny _ A.in1 (pyNext (.ref I) >>= _) _ _ s
    refine wpAny_bind (W.item i s _ _ (by omega) st fun v s' pv st' m' => ?_)
    obtain ⟨r, er, hr, hsc⟩ := val i v pv
    have k' := old m' k
    have g' : SetIs knd s'.heap S (uniq (ks.take i)) := g.kept fun o e => m'.heap S o Sw e
    show wpAny _ A.in1 (holding [v] (setAdd S v) >>= _) _ _ s'
    refine wpAny_bind (wpAny_holding ?_)
    unfold setAdd
    refine wpAny_holding (wpAny_bind (knd.pyHash hr ?_))
    have room : (uniq (ks.take i)).length + 1 < scanBound := by
      have h1 := uniq_len (ks.take i)
      rw [List.length_take] at h1
      omega
    refine wpAny_setAddHashed_of (knd := knd) (s := { s' with toks := s'.toks + 1 }) hr hsc g' room fun h' sb g2 => ?_
    have k2 : ∀ b o, h0.get? b = some o → h'.get? b = some o := fun b o e => (sb.2 b fun y => by rw [y, nS] at e; cases e).trans (k' b o e)
    have g3 : SetIs knd h' S (uniq (ks.take (i + 1))) := by
      have e : ks.take (i + 1) = ks.take i ++ [r] := by
        rw [List.take_add_one, er]
        rfl
      rw [e, uniq_snoc]
      unfold SetIs
      by_cases z : r ∈ uniq (ks.take i)
      · rw [if_pos z]
        have e1 : (fun k' => decide (k' ∈ uniq (ks.take i)) || decide (k' = r)) = fun k' => decide (k' ∈ uniq (ks.take i)) := by
          funext k'
          by_cases y : k' = r
          · rw [y]
            simp [z]
          · simp [y]
        rw [e1, if_pos (decide_eq_true z)] at g2
        exact g2
      · rw [if_neg z, List.length_append]
        have e1 : (fun k' => decide (k' ∈ uniq (ks.take i)) || decide (k' = r)) = fun k' => decide (k' ∈ uniq (ks.take i) ++ [r]) := by
          funext k'
          simp [List.mem_append]
        rw [e1, if_neg (by simpa using z)] at g2
        exact g2
    refine wpAny_pure ⟨plainId_quiet F.plain_set_update_loop _, ih (i + 1) _ (by omega) (by omega) (W.frame _ s' _ _ st' (Nat.le_succ _) fun b hb o e => (sb.2 b fun y => hS (y ▸ hb)).trans e) ?_ k2 g3⟩
    exact mo.trans W.gtrans ((m'.mono sub).then_heap (Nat.le_succ _) fun b o hb e => (sb.2 b fun y => hb (by rw [y]; simp)).trans e)
set_option maxHeartbeats 3200000 in
/-- set(xs), xs a list -/
theorem call_set_list {l : Addr} {items : Array Value} {ks : List K} {Q : Value → Shared → Prop} (hh : A.handled = none) (hl : s.heap.IsList l items) (hit : Held knd ks items) (few : ks.length + 1 < scanBound)
    (q : ∀ (h' : Heap) (tk : Nat), SetIs knd h' s.heap.objs.size (uniq ks) → (∀ b o, s.heap.get? b = some o → h'.get? b = some o) → Q (.ref s.heap.objs.size) { s with heap := h', toks := tk }) :
    wpAny (model P w) A (call (.type "set") [.ref l]) Q E s := by
  have isz := hit.size
  obtain ⟨_, _, hmro⟩ := F.called_set.mro
  have hmade := F.called_set.made
  have hsub := F.called_set.sub
  have h1 := F.called_set.notType
  have h2 := F.called_set.canCreate
  have hct := F.typeCall_set_1 (.ref l)
  refine wpAny_call (codeAny_of_tree (by
    show wpAny _ _ (callAny (.type "set") _) _ _ _
    refine wpAny_pure ⟨Code.quiet_builtin _ (by decide +kernel), codeAny_builtin F.entry_type_call ?_⟩
    rw [Around.under_plain (weight_type_call_type "set" [.ref l] []) rfl]
    repeat (any_goals (first | assumption | wp_step))
    refine codeAny_mono (code_set_new_1 (.ref l) (E := E) (Q₁ := fun obj s₁ => obj = .ref s.heap.objs.size ∧ ∃ led : Bool, s₁ = { s with heap := s.heap.push (newS led) }) fun led => ⟨rfl, led, rfl⟩) fun r s₁ hr => ?_
    rcases r with e | fl
    · exact hr
    cases fl with
    | ret obj =>
      obtain ⟨rfl, led, rfl⟩ := hr
      obtain ⟨H1, eH1⟩ : ∃ H1, H1 = s.heap.push (newS led) := ⟨_, rfl⟩
      rw [← eH1]
      have hS : H1.get? s.heap.objs.size = some (newS led) := by rw [eH1]; exact Heap.get?_push_size _ rfl
      have up : ∀ b o, s.heap.get? b = some o → H1.get? b = some o := fun b o e => by rw [eH1]; exact Heap.get?_push_of_some _ e
      have zH : H1.objs.size = s.heap.objs.size + 1 := by rw [eH1, Heap.size_push]
      have hT : Shared.TypeIs { s with heap := H1 } (.ref s.heap.objs.size) "set" := ⟨_, hS, rfl⟩
      have hli := F.called_set.init.lookup
      have hbi := F.called_set.init.bind (.ref s.heap.objs.size)
      repeat (any_goals (first | assumption | wp_step))
      refine codeAny_mono (codeAny_call_builtin (R := wants (fun r s₂ => r = .none ∧ ∃ h' tk, s₂ = { s with heap := h', toks := tk } ∧ SetIs knd h' s.heap.objs.size (uniq ks) ∧ ∀ b o, s.heap.get? b = some o → h'.get? b = some o) E)
        F.called_set.init.plain F.entry_set_init (check_set_init_1 hT ?_)) fun r₂ s₂ hr₂ => ?_
      · obtain ⟨⟨_, od, _, os⟩, hol, rfl, nl, rfl⟩ := hl
        have hol1 := up _ _ hol
        have hl1 : H1.IsList l items := ⟨_, hol1, rfl, nl, rfl⟩
        have hsls := F.sub_list_set
        have hslf := F.sub_list_frozenset
        have hne : (Value.type "list" == Value.type "dict") = false := by decide
        unfold Builtin.«set.__init__» noKeywords Builtin.Frozenset.updateFrom
        generalize ePI : pyIter = PI
        wp_walk
        subst ePI
        refine wpAny_pyIter_list hl1 (wpAny_bind (wpAny_runValue ?_))
        have ll : l < s.heap.objs.size := Heap.lt_size hol
        have h3 : A.in1.in1.in1.handled = none := by simp [hh]
        have lI : l ≠ H1.objs.size := by rw [zH]; exact Nat.ne_of_lt (Nat.lt_succ_of_lt ll)
        have nf : s.heap.objs.size ∉ [H1.objs.size, l] := by
          rw [zH, List.mem_cons, List.mem_singleton]
          exact fun y => y.elim (fun e => Nat.succ_ne_self _ e.symm) fun e => Nat.lt_irrefl _ (e ▸ ll)
        have none_at : ∀ b, s.heap.objs.size ≤ b → s.heap.get? b = none := fun b hb => by
          cases y : s.heap.get? b with
          | none => rfl
          | some o => exact absurd (Nat.lt_of_lt_of_le (Heap.lt_size y) hb) (Nat.lt_irrefl _)
        have up2 : ∀ b o, H1.get? b = some o → (H1.push { cls := .type "list_iterator", data := .fields #[.ref l, .int 0 0] }).get? b = some o := fun b o e => Heap.get?_push_of_some _ e
        refine fill (knd := knd) (h0 := s.heap) (fin := { s with heap := H1.push { cls := .type "list_iterator", data := .fields #[.ref l, .int 0 0] } }) ((Walks.list h3 _ l lI items).toS) nf isz few (fun i v hv => hit.get hv) (none_at _ (Nat.le_refl _)) (fun b hb => none_at b ?_)
          (Moved.refl (fun _ => rfl)) (fun s' mo g k => ?_) (items.size - 0) 0 _ (by omega) (Nat.zero_le _) ⟨⟨_, Heap.get?_push_size _ rfl, rfl, rfl⟩, hl1.push _⟩ (Moved.refl (fun _ => rfl)) (fun b o e => up2 b o (up b o e)) (fresh led (up2 _ _ hS))
        · rw [List.mem_singleton.mp hb, zH]
          exact Nat.le_succ _
        · obtain ⟨h', g2, d', tk', os'⟩ := s'
          obtain rfl : g2 = s.gens := mo.gens
          obtain rfl : d' = s.drawn := mo.drawn
          obtain rfl : os' = s.os := mo.os
          show wpAny _ _ _ _ _ _
          refine wpAny_pure ?_
          show wpAny _ _ (ret Value.none) _ _ _
          exact wpAny_pure ⟨rfl, h', tk', rfl, g, k⟩
      · rcases r₂ with e | fl₂
        · exact hr₂
        cases fl₂ with
        | ret r =>
          obtain ⟨rfl, h', tk, rfl, g, k⟩ := hr₂
          repeat (any_goals (first | assumption | wp_step))
          exact q _ _ g k
        | _ => exact hr₂.elim
    | _ => exact hr.elim))
set_option maxHeartbeats 3200000 in
/-- set(xs), xs a tuple -/
theorem call_set_tuple {l : Addr} {items : Array Value} {ks : List K} {Q : Value → Shared → Prop} (hh : A.handled = none) (hl : s.heap.IsTuple l items) (hit : Held knd ks items) (few : ks.length + 1 < scanBound)
    (q : ∀ (h' : Heap) (tk : Nat), SetIs knd h' s.heap.objs.size (uniq ks) → (∀ b o, s.heap.get? b = some o → h'.get? b = some o) → Q (.ref s.heap.objs.size) { s with heap := h', toks := tk }) :
    wpAny (model P w) A (call (.type "set") [.ref l]) Q E s := by
  have isz := hit.size
  obtain ⟨_, _, hmro⟩ := F.called_set.mro
  have hmade := F.called_set.made
  have hsub := F.called_set.sub
  have h1 := F.called_set.notType
  have h2 := F.called_set.canCreate
  have hct := F.typeCall_set_1 (.ref l)
  refine wpAny_call (codeAny_of_tree (by
    show wpAny _ _ (callAny (.type "set") _) _ _ _
    refine wpAny_pure ⟨Code.quiet_builtin _ (by decide +kernel), codeAny_builtin F.entry_type_call ?_⟩
    rw [Around.under_plain (weight_type_call_type "set" [.ref l] []) rfl]
    repeat (any_goals (first | assumption | wp_step))
    refine codeAny_mono (code_set_new_1 (.ref l) (E := E) (Q₁ := fun obj s₁ => obj = .ref s.heap.objs.size ∧ ∃ led : Bool, s₁ = { s with heap := s.heap.push (newS led) }) fun led => ⟨rfl, led, rfl⟩) fun r s₁ hr => ?_
    rcases r with e | fl
    · exact hr
    cases fl with
    | ret obj =>
      obtain ⟨rfl, led, rfl⟩ := hr
      obtain ⟨H1, eH1⟩ : ∃ H1, H1 = s.heap.push (newS led) := ⟨_, rfl⟩
      rw [← eH1]
      have hS : H1.get? s.heap.objs.size = some (newS led) := by rw [eH1]; exact Heap.get?_push_size _ rfl
      have up : ∀ b o, s.heap.get? b = some o → H1.get? b = some o := fun b o e => by rw [eH1]; exact Heap.get?_push_of_some _ e
      have zH : H1.objs.size = s.heap.objs.size + 1 := by rw [eH1, Heap.size_push]
      have hT : Shared.TypeIs { s with heap := H1 } (.ref s.heap.objs.size) "set" := ⟨_, hS, rfl⟩
      have hli := F.called_set.init.lookup
      have hbi := F.called_set.init.bind (.ref s.heap.objs.size)
      repeat (any_goals (first | assumption | wp_step))
      refine codeAny_mono (codeAny_call_builtin (R := wants (fun r s₂ => r = .none ∧ ∃ h' tk, s₂ = { s with heap := h', toks := tk } ∧ SetIs knd h' s.heap.objs.size (uniq ks) ∧ ∀ b o, s.heap.get? b = some o → h'.get? b = some o) E)
        F.called_set.init.plain F.entry_set_init (check_set_init_1 hT ?_)) fun r₂ s₂ hr₂ => ?_
      · obtain ⟨⟨_, od, _, os⟩, hol, rfl, nl, rfl⟩ := hl
        have hol1 := up _ _ hol
        have hl1 : H1.IsTuple l items := ⟨_, hol1, rfl, nl, rfl⟩
        have hsls := F.sub_tuple_set
        have hslf := F.sub_tuple_frozenset
        have hne : (Value.type "tuple" == Value.type "dict") = false := by decide
        unfold Builtin.«set.__init__» noKeywords Builtin.Frozenset.updateFrom
        generalize ePI : pyIter = PI
        wp_walk
        subst ePI
        refine wpAny_pyIter_tuple hl1 (wpAny_bind (wpAny_runValue ?_))
        have ll : l < s.heap.objs.size := Heap.lt_size hol
        have h3 : A.in1.in1.in1.handled = none := by simp [hh]
        have lI : l ≠ H1.objs.size := by rw [zH]; exact Nat.ne_of_lt (Nat.lt_succ_of_lt ll)
        have nf : s.heap.objs.size ∉ [H1.objs.size, l] := by
          rw [zH, List.mem_cons, List.mem_singleton]
          exact fun y => y.elim (fun e => Nat.succ_ne_self _ e.symm) fun e => Nat.lt_irrefl _ (e ▸ ll)
        have none_at : ∀ b, s.heap.objs.size ≤ b → s.heap.get? b = none := fun b hb => by
          cases y : s.heap.get? b with
          | none => rfl
          | some o => exact absurd (Nat.lt_of_lt_of_le (Heap.lt_size y) hb) (Nat.lt_irrefl _)
        have up2 : ∀ b o, H1.get? b = some o → (H1.push { cls := .type "tuple_iterator", data := .fields #[.ref l, .int 0 0] }).get? b = some o := fun b o e => Heap.get?_push_of_some _ e
        refine fill (knd := knd) (h0 := s.heap) (fin := { s with heap := H1.push { cls := .type "tuple_iterator", data := .fields #[.ref l, .int 0 0] } }) ((Walks.tuple h3 _ l lI items).toS) nf isz few (fun i v hv => hit.get hv) (none_at _ (Nat.le_refl _)) (fun b hb => none_at b ?_)
          (Moved.refl (fun _ => rfl)) (fun s' mo g k => ?_) (items.size - 0) 0 _ (by omega) (Nat.zero_le _) ⟨⟨_, Heap.get?_push_size _ rfl, rfl, rfl⟩, hl1.push _⟩ (Moved.refl (fun _ => rfl)) (fun b o e => up2 b o (up b o e)) (fresh led (up2 _ _ hS))
        · rw [List.mem_singleton.mp hb, zH]
          exact Nat.le_succ _
        · obtain ⟨h', g2, d', tk', os'⟩ := s'
          obtain rfl : g2 = s.gens := mo.gens
          obtain rfl : d' = s.drawn := mo.drawn
          obtain rfl : os' = s.os := mo.os
          show wpAny _ _ _ _ _ _
          refine wpAny_pure ?_
          show wpAny _ _ (ret Value.none) _ _ _
          exact wpAny_pure ⟨rfl, h', tk', rfl, g, k⟩
      · rcases r₂ with e | fl₂
        · exact hr₂
        cases fl₂ with
        | ret r =>
          obtain ⟨rfl, h', tk, rfl, g, k⟩ := hr₂
          repeat (any_goals (first | assumption | wp_step))
          exact q _ _ g k
        | _ => exact hr₂.elim
    | _ => exact hr.elim))
end
theorem held_of {P : Program} {w : World} : ∀ {ks : List Key} {its : List Value}, Vals (ks.map kV) its → Held (mixKind P w) ks its.toArray
  | ks, its, r => by
    refine ⟨by rw [List.size_toArray, ← r.length, List.length_map], fun {i v} h => ?_⟩
    have hl : its[i]? = some v := by simpa using h
    have lt : i < ks.length := by
      have := (List.getElem?_eq_some_iff.mp hl).1
      rw [← r.length, List.length_map] at this
      exact this
    obtain ⟨u, hu, ru⟩ := r.get (i := i) (x := kV ks[i]) (by simp [lt])
    rw [hl] at hu
    cases hu
    exact ⟨ks[i], List.getElem?_eq_getElem lt, kV_is ru, key_scan ru⟩
/-- len(set(xs)) -/
def tLenSetK (K : PySem.W.Frag) (ta : TE) : TE := fun σ H Q => ta σ H fun x H1 => ∃ (l : Addr) (ks : List Key), x = .ref l ∧ (SqL K H1 l (ks.map kV) ∨ SqT K H1 l (ks.map kV)) ∧ ks.length ≤ 4000 ∧ Q (.int (uniq ks).length) H1
theorem pe_lenSetK {X : Cx} {a : Expr} {ta : TE} {p p2 q pos : Pos} (hc : X.calm = true) (hg : Gl X "len") (hm : X.mg "len" = none) (hg2 : Gl X "set") (hm2 : X.mg "set" = none) (ha : PE X a ta)
    (na : starEach [a] X.env = (false, eval a X.env) :: starEach [] X.env := by rfl) : PE X (.Call (.Name "len" p) [.Call (.Name "set" p2) [a] [] q] [] pos) (tLenSetK X.K ta) := by
  refine ⟨fun pins s σ H Q I h => ?_⟩
  refine Call_ (ld_blt I hg hm boot_len ?_)
  refine PyProof.Rows.callWith_builtin1 (PyProof.Rows.args_cons ?_ rfl) rfl rfl
  refine Call_ (ld_blt I hg2 hm2 boot_set ?_)
  refine PyProof.Rows.callWith_type1 (PyProof.Rows.args_cons (thn (ha.run pins s σ H _ I h) fun v s1 ⟨x, H1, I1, r1, q1⟩ => PyProof.Rows.args_nil ?_) na) na rfl
  obtain ⟨l, ks, rfl, hq, few, q1⟩ := q1
  cases r1
  have few' : ks.length + 1 < scanBound := by unfold scanBound; omega
  have fin : ∀ (h' : Heap) (tk : Nat), SetIs (mixKind X.prog X.w) h' s1.heap.objs.size (uniq ks) → (∀ b o, s1.heap.get? b = some o → h'.get? b = some o) →
      wpAny (model X.prog X.w) X.A (spliced (backTo pos (starEach [] X.env))) (fun vs s₂ => wpAny (model X.prog X.w) X.A (call (.builtin "len") (Value.ref s1.heap.objs.size :: vs)) (EP X pins σ Q) X.xe s₂) X.xe { s1 with heap := h', toks := tk } := fun h' tk hS hk => by
    refine PyProof.Rows.args_nil ?_
    have ul := uniq_len ks
    obtain ⟨o, es, ep, t, ho, hex, hd, _, _, _, hf, hn⟩ := hS
    have I2 : Inv X pins σ H1 { s1 with heap := h', toks := tk } := I1.kept fun b o e => hk b o e
    refine call_len_set ho hex hd hf (by rw [hn] <;> omega) ⟨.int (uniq ks).length, H1, I2.tok _, ⟨_, by rw [hn]⟩, q1⟩
  rcases hq with hq | hq
  · obtain ⟨its, r, pl, hz⟩ := I1.list hq
    exact call_set_list (knd := mixKind X.prog X.w) (I1.ok.hd hc) pl.isList (held_of r) few' fin
  · obtain ⟨its, r, pl, hz⟩ := I1.tuple hq
    exact call_set_tuple (knd := mixKind X.prog X.w) (I1.ok.hd hc) pl (held_of r) few' fin
end Sk
end

section
set_option Elab.async false
set_option linter.all false
set_option maxRecDepth 100000
set_option maxHeartbeats 4000000
/-! the columns of a table. -/
namespace K07t
open PySem PySem.Spec PyProof.Rows L2 Gd
abbrev sCol : Stmt := topS 35
theorem scCol : FnScope ["thing", "column"] ["thing"] (defScope sCol) := ⟨rfl, rfl, rfl, by decide +kernel, rfl, by decide +kernel, by decide +kernel⟩
structure ColsOk (cs : List Str) : Prop where
  one : 1 ≤ cs.length
  four : cs.length ≤ 4
  nd : cs.Nodup
  lab : ∀ c ∈ cs, isLab c = true
def spCol (K : PySem.W.Frag) : Sp := fun vs H Q _ => ∃ (a : Addr) (cs : List Str), vs = [.ref a] ∧ SqT K H a (cs.map V.str) ∧ ColsOk cs ∧ ∀ H', Same H H' → Q (.bl true) H'
structure Ct (mg : Str → Option Value) : Prop where
  cols : ∃ t, mg "_MOST_COLUMNS" = some (.int 4 t)
  tabs : ∃ t, mg "_MOST_TABLES" = some (.int 6 t)
  rows : ∃ t, mg "_MOST_ROWS" = some (.int 60 t)
  tup : mg "tuple" = none
  set_ : mg "set" = none
theorem lab_ok {x : Str} (h : isLab x = true) : okD 50 (.str x) = true := by
  unfold isLab at h
  simp only [Bool.and_eq_true, decide_eq_true_eq, List.all_eq_true] at h
  simp only [okD, Bool.and_eq_true, decide_eq_true_eq]
  have e : (("abcdefghijklmnopqrstuvwxyz" : Str).cps.toList.all fun c => decide (c < 128)) = true := by decide +kernel
  refine ⟨by omega, List.all_eq_true.mpr fun c hc => ?_⟩
  exact List.all_eq_true.mp e c (h.2 c hc)
theorem uniq_go {κ : Type} [DecidableEq κ] : ∀ (xs acc : List κ), (acc ++ xs).Nodup → xs.foldl (fun acc k => if k ∈ acc then acc else acc ++ [k]) acc = acc ++ xs
  | [], acc, _ => by simp
  | x :: xs, acc, hn => by
    have nx : x ∉ acc := fun m => by
      rw [List.nodup_append] at hn
      exact hn.2.2 x m x (by simp) rfl
    rw [List.foldl_cons, if_neg nx, uniq_go xs (acc ++ [x]) (by simpa using hn)]
    simp
theorem uniq_nd {κ : Type} [DecidableEq κ] {cs : List κ} (h : cs.Nodup) : Sk.uniq cs = cs := uniq_go cs [] (by simpa using h)
theorem iteT' {b : Bool} {p q : Prop} (h : b = true) (y : p) : if b = true then p else q := by
  rw [if_pos h]
  exact y
section
variable {P : Program} {w : World} {K : PySem.W.Frag} {mg : Str → Option Value} {base : Heap} {f fN pS : Addr} {fd dN : FuncData}
theorem ok_col (F : Fun K "_are_columns" "_are_columns" sCol f fd) (C : Cs K mg pS) (M : Ct mg)
    (FN : Fun K "is_name" "is_name" sName fN dN) (GN : FnOk P w K mg base CX0 1 fN dN ["thing"] (spChk K isLabD)) (gN : mg "is_name" = some (.ref fN)) (bN : Binds K dN ["thing"] []) : FnOk P w K mg base CX0 2 f fd ["thing"] (spCol K) := by
  refine F.ok scCol (fun vs H Q E h => ?_) (fun cdv A outer s H vs Q E hr h => ?_)
  · obtain ⟨a, cs, rfl, _⟩ := h
    rfl
  obtain ⟨a, cs, rfl, ha, ok, q⟩ := h
  have nd := scCol.nd
  obtain ⟨tc, gc⟩ := M.cols
  refine ⟨_, pss_cons (ps_if (PW.pt (pw_or (pt_not (pt_val (pe_callB call_isi (by rfl) C.isi (by decide +kernel) (pa_cons (pv 0) (pa_cons (pe_bltn (v := .ty "tuple") (by rfl) M.tup (by decide +kernel) rfl) pa_nil)))))
      (pw_or1 (pt_not (pt_chain op_le op_le pe_int (pe_callB call_len_seq (by rfl) C.len PySem.boot_len (pa_cons (pv 0) pa_nil)) (pe_glob (v := .int 4) (by rfl) gc ⟨_, rfl⟩))))))
      (pss_one (ps_ret pe_bl)) pss_nil)
    (pss_one (ps_ret (pe_and (pe_callB (cr_all rfl) (by rfl) C.all (by decide +kernel) (pa_cons (pe_lc (own := [("column", 1)]) (g := gName 1) (tt := tYes) rfl nd (pi_tup (pv 0))
        (blkOk_by (N := ["thing", "column"]) (sc := defScope sCol) (by decide +kernel)) (fun _ _ _ _ _ => pg_name (i := 1) nd rfl (Or.inl rfl)) (fun _ _ _ _ _ => pts_nil)
        (fun _ _ _ _ _ => pe_call GN hr (by rfl) gN FN.kp bN .nil pass0 (pa_cons (pv 1) pa_nil))) pa_nil))
      (pe_one (pe_cmpR op_eq (Sk.pe_lenSetK rfl (by rfl) C.len (by rfl) M.set_ (pv 0)) (pe_callB call_len_seq (by rfl) C.len PySem.boot_len (pa_cons (pv 0) pa_nil)) (nomark _)))))), ?_⟩
  have sa : TyX K H (.ref a) (.type "tuple") := by
    rcases ha with (a1 | ⟨z, a1⟩) | ⟨z, its, n, a1, c, _⟩
    · exact .base (.tup a1)
    · exact .fTuple a1
    · exact .kTuple a1 c
  have l1 := ok.one
  have l4 := ok.four
  have hl : (cs.map V.str).length = cs.length := List.length_map _
  refine ⟨_, rfl, _, _, _, _, true, rfl, .ty _, sa, kit_ty (by decide +kernel), _, rfl, ?_⟩
  refine iteF ?_
  refine ⟨_, rfl, a, _, rfl, .inr ha, ?_⟩
  refine ⟨_, _, rfl, rfl, _, rfl, ite2 (fun c1 => ?_) (fun c1 => absurd (decide_eq_true (show (1 : Int) ≤ ((cs.map V.str).length : Int) by omega)) c1)⟩
  refine ⟨_, _, rfl, rfl, _, rfl, ?_⟩
  have e4 : decide (((cs.map V.str).length : Int) ≤ 4) = true := decide_eq_true (by omega)
  rw [e4]
  refine iteF ?_
  refine ⟨_, rfl, a, rfl, ⟨_, ha⟩, fun D nD => ?_⟩
  refine lc_tup (K := K) (a := a) (xs := cs.map V.str) (fun i H' => Same H H' ∧ H' D = some (.lst ((List.replicate i true).map V.bl))) ⟨new_same nD, upd_same⟩ (fun i H' _ y => Tups.of_same y.1 _ _ ha) ?_ ?_
  · rintro i x H' hx ⟨sm, eD⟩
    rw [List.getElem?_map, Option.map_eq_some_iff] at hx
    obtain ⟨c, hc, rfl⟩ := hx
    have hi : i < cs.length := (List.getElem?_eq_some_iff.mp hc).1
    have lc := ok.lab c (List.mem_of_getElem? hc)
    refine ⟨rfl, ?_⟩
    refine ⟨_, rfl, fun _ => False, .str c, .str c, rfl, .str _, lab_ok lc, fun H'' s'' => ?_⟩
    refine ⟨_, s'' _ _ eD, by rw [List.length_map, List.length_replicate, sizeLine_eq]; omega, fun b o e => ?_, ?_⟩
    · rw [upd_ne (ne_of_none e nD)]
      exact s'' _ _ (sm _ _ e)
    · rw [upd_same, show isLabD (.str c) = true from lc, List.replicate_succ', List.map_append]
      rfl
  rintro H' ⟨sm, eD⟩
  refine ⟨D, _, rfl, SqL.of eD, ?_⟩
  have e5 : (List.replicate (cs.map V.str).length true).all id = true := by simp
  rw [e5]
  refine ⟨_, rfl, iteT' (by rfl) ?_⟩
  have hk : (cs.map (Sum.inr : Str → Key)).map kV = cs.map V.str := by rw [List.map_map]; rfl
  have ndk : (cs.map (Sum.inr : Str → Key)).Nodup := List.Pairwise.map Sum.inr (fun x y h z => h (Sum.inr.inj z)) ok.nd
  have ha2 := Tups.of_same sm _ _ ha
  refine ⟨_, rfl, a, cs.map Sum.inr, rfl, .inr (by rw [hk]; exact ha2), by rw [List.length_map]; omega, ?_⟩
  rw [uniq_nd ndk]
  refine ⟨_, rfl, a, _, rfl, .inr ha2, rfl, ?_⟩
  rw [show decide (V.int (((cs.map (Sum.inr : Str → Key)).length : Nat) : Int) = V.int (((cs.map V.str).length : Nat) : Int)) = true from decide_eq_true (by rw [List.length_map, List.length_map])]
  exact q _ sm
end
end K07t
end

section
set_option Elab.async false
set_option linter.all false
set_option maxRecDepth 100000
set_option maxHeartbeats 4000000
/-! deeds. -/
namespace K07t
open PySem PySem.Spec PyProof.Rows L2 Gd
inductive Deed where
  | table (n : Str) (cs : List Str)
  | row (n : Str) (ws : List Int)
  | out (n : Str) (k : Nat)
def Deed.name : Deed → Str
  | .table n _ => n
  | .row n _ => n
  | .out n _ => n
def Deed.word : Deed → Str
  | .table _ _ => "table"
  | .row _ _ => "row"
  | .out _ _ => "out"
def WsOk (ws : List Int) : Prop := ∀ i ∈ ws, -(10 ^ 30 : Int) < i ∧ i < 10 ^ 30
def DeedOk : Deed → Prop
  | .table n cs => isLab n = true ∧ ColsOk cs
  | .row n ws => isLab n = true ∧ WsOk ws ∧ ws.length ≤ 1000
  | .out n k => isLab n = true ∧ k ≤ 1000
/-- what the deed is of, at v -/
def WhatAt (K : PySem.W.Frag) (H : Hp) (v : V) : Deed → Prop
  | .table _ cs => ∃ a, v = .ref a ∧ SqT K H a (cs.map V.str)
  | .row _ ws => ∃ a, v = .ref a ∧ SqT K H a (ws.map V.int)
  | .out _ k => v = .int k
def DeedAt (K : PySem.W.Frag) (H : Hp) (t : Addr) (d : Deed) : Prop := ∃ v, SqT K H t [.str d.word, .str d.name, v] ∧ WhatAt K H v d
theorem WhatAt.tups {K : PySem.W.Frag} {H H' : Hp} {v : V} {d : Deed} (t : Tups K H H') (h : WhatAt K H v d) : WhatAt K H' v d := by
  cases d with
  | table n cs =>
    obtain ⟨a, e, h⟩ := h
    exact ⟨a, e, t _ _ h⟩
  | row n ws =>
    obtain ⟨a, e, h⟩ := h
    exact ⟨a, e, t _ _ h⟩
  | out n k => exact h
theorem DeedAt.tups {K : PySem.W.Frag} {H H' : Hp} {a : Addr} {d : Deed} (t : Tups K H H') (h : DeedAt K H a d) : DeedAt K H' a d := by
  obtain ⟨v, e, h⟩ := h
  exact ⟨v, t _ _ e, h.tups t⟩
theorem DeedOk.lab {d : Deed} (h : DeedOk d) : isLab d.name = true := by
  cases d with
  | table n cs => exact h.1
  | row n ws => exact h.1
  | out n k => exact h.1
abbrev sDeed : Stmt := topS 34
theorem scDeed : FnScope ["thing", "worth"] ["thing"] (defScope sDeed) := ⟨rfl, rfl, rfl, by decide +kernel, rfl, by decide +kernel, by decide +kernel⟩
def spDeed (K : PySem.W.Frag) : Sp := fun vs H Q _ => ∃ (t : Addr) (d : Deed), vs = [.ref t] ∧ DeedAt K H t d ∧ DeedOk d ∧ ∀ H', Same H H' → Q (.bl true) H'
theorem tyT {K : PySem.W.Frag} {H : Hp} {a : Addr} {xs : List V} (ha : SqT K H a xs) : TyX K H (.ref a) (.type "tuple") := by
  rcases ha with (a1 | ⟨z, a1⟩) | ⟨z, its, n, a1, c, _⟩
  · exact .base (.tup a1)
  · exact .fTuple a1
  · exact .kTuple a1 c
theorem iteF' {b : Bool} {p q : Prop} (h : ¬ b = true) (y : q) : if b = true then p else q := by
  rw [if_neg h]
  exact y
theorem num_is {c : Int} (h : -(10 ^ 30 : Int) < c ∧ c < 10 ^ 30) : isNum (.int c) = true := by
  show (decide (-(10 ^ 30 : Int) < c) && decide (c < 10 ^ 30)) = true
  rw [decide_eq_true h.1, decide_eq_true h.2]
  rfl
theorem num_ok {c : Int} (h : -(10 ^ 30 : Int) < c ∧ c < 10 ^ 30) : okD 50 (.int c) = true := by
  have a : (10 ^ 30 : Int) ≤ 10 ^ 64 := by decide
  simp only [okD, decide_eq_true_eq]
  have b : ((10 ^ 64 : Nat) : Int) = (10 : Int) ^ 64 := by decide
  omega
section
variable {P : Program} {w : World} {K : PySem.W.Frag} {mg : Str → Option Value} {base : Heap} {f fN fW fM fC pS : Addr} {fd dN dW dM dC : FuncData}
theorem ok_deed (F : Fun K "_is_deed" "_is_deed" sDeed f fd) (C : Cs K mg pS) (M : Ct mg)
    (FN : Fun K "is_name" "is_name" sName fN dN) (GN : FnOk P w K mg base CX0 1 fN dN ["thing"] (spChk K isLabD)) (gN : mg "is_name" = some (.ref fN)) (bN : Binds K dN ["thing"] [])
    (FW : Fun K "is_whole" "is_whole" sWhole fW dW) (GW : FnOk P w K mg base CX0 1 fW dW ["thing"] (spChk K fun d => isI d && !isB d)) (gW : mg "is_whole" = some (.ref fW)) (bW : Binds K dW ["thing"] [])
    (FM : Fun K "is_number" "is_number" sNumber fM dM) (GM : FnOk P w K mg base CX0 2 fM dM ["thing"] (spChk K isNum)) (gM : mg "is_number" = some (.ref fM)) (bM : Binds K dM ["thing"] [])
    (FC : Fun K "_are_columns" "_are_columns" sCol fC dC) (GC : FnOk P w K mg base CX0 2 fC dC ["thing"] (spCol K)) (gC : mg "_are_columns" = some (.ref fC)) (bC : Binds K dC ["thing"] []) :
    FnOk P w K mg base CX0 3 f fd ["thing"] (spDeed K) := by
  refine F.ok scDeed (fun vs H Q E h => ?_) (fun cdv A outer s H vs Q E hr h => ?_)
  · obtain ⟨t, d, rfl, _⟩ := h
    rfl
  obtain ⟨t, d, rfl, ⟨v, ht, hv⟩, ok, q⟩ := h
  have nd := scDeed.nd
  have r1 : Room 1 _ := hr.mono (by decide)
  refine ⟨_, pss_cons (ps_if (PW.pt (pw_or (pt_not (pt_val (pe_callB call_isi (by rfl) C.isi (by decide +kernel) (pa_cons (pv 0) (pa_cons (pe_bltn (v := .ty "tuple") (by rfl) M.tup (by decide +kernel) rfl) pa_nil)))))
      (pw_or (pt_cmpR op_ne (pe_callB call_len_seq (by rfl) C.len PySem.boot_len (pa_cons (pv 0) pa_nil)) pe_int (nomark _))
      (pw_or1 (pt_not (pt_val (pe_call GN r1 (by rfl) gN FN.kp bN .nil pass0 (pa_cons (pe_ix ix_tup (pv 0) pe_int (fun _ _ => rfl)) pa_nil))))))))
      (pss_one (ps_ret pe_bl)) pss_nil)
    (pss_cons (ps_if (pt_cmpR op_eq (pe_ix ix_tup (pv 0) pe_int (fun _ _ => rfl)) pe_str (nomark _)) (pss_one (ps_ret (pe_call GC hr (by rfl) gC FC.kp bC .nil pass0 (pa_cons (pe_ix ix_tup (pv 0) pe_int (fun _ _ => rfl)) pa_nil)))) pss_nil)
    (pss_cons (ps_if (pt_cmpR op_eq (pe_ix ix_tup (pv 0) pe_int (fun _ _ => rfl)) pe_str (nomark _))
      (pss_one (ps_ret (pe_and (pe_callB call_isi (by rfl) C.isi (by decide +kernel) (pa_cons (pe_ix ix_tup (pv 0) pe_int (fun _ _ => rfl)) (pa_cons (pe_bltn (v := .ty "tuple") (by rfl) M.tup (by decide +kernel) rfl) pa_nil)))
        (pe_one (pe_callB (cr_all rfl) (by rfl) C.all (by decide +kernel) (pa_cons (pe_lc (own := [("worth", 1)]) (g := gName 1) (tt := tYes) rfl nd (pi_tup (pe_ix ix_tup (pv 0) pe_int (fun _ _ => rfl)))
          (blkOk_by (N := ["thing", "worth"]) (sc := defScope sDeed) (by decide +kernel)) (fun _ _ _ _ _ => pg_name (i := 1) nd rfl (Or.inl rfl)) (fun _ _ _ _ _ => pts_nil)
          (fun _ _ _ _ _ => pe_call GM hr (by rfl) gM FM.kp bM .nil pass0 (pa_cons (pv 1) pa_nil))) pa_nil)))))) pss_nil)
    (pss_one (ps_ret (pe_and (pe_cmpR op_eq (pe_ix ix_tup (pv 0) pe_int (fun _ _ => rfl)) pe_str (nomark _)) (pe_and (pe_call GW r1 (by rfl) gW FW.kp bW .nil pass0 (pa_cons (pe_ix ix_tup (pv 0) pe_int (fun _ _ => rfl)) pa_nil))
      (pe_one (pe_cmpR op_ge (pe_ix ix_tup (pv 0) pe_int (fun _ _ => rfl)) pe_int (nomark _))))))))), ?_⟩
  have at0 : atI [V.str d.word, V.str d.name, v] 0 = some (.str d.word) := atI_nat (j := 0) rfl
  have at1 : atI [V.str d.word, V.str d.name, v] 1 = some (.str d.name) := atI_nat (j := 1) rfl
  have at2 : atI [V.str d.word, V.str d.name, v] 2 = some v := atI_nat (j := 2) rfl
  refine ⟨_, rfl, _, _, _, _, true, rfl, .ty _, tyT ht, kit_ty (by decide +kernel), _, rfl, iteF ?_⟩
  refine ⟨_, rfl, t, _, rfl, .inr ht, rfl, _, rfl, iteF ?_⟩
  refine ⟨_, rfl, t, _, 1, _, rfl, rfl, ht, at1, fun _ => False, _, .str d.name, rfl, .str _, lab_ok ok.lab, fun H1 s1 => ?_⟩
  refine ⟨_, rfl, ?_⟩
  rw [show isLabD (.str d.name) = true from ok.lab]
  refine iteF ?_
  have ht1 := Tups.of_same s1 _ _ ht
  have hv1 := hv.tups (Tups.of_same s1)
  refine ⟨_, rfl, t, _, 0, _, rfl, rfl, ht1, at0, rfl, _, rfl, ?_⟩
  cases d with
  | table n cs =>
    obtain ⟨a, rfl, ha⟩ := hv1
    refine iteT' (decide_eq_true rfl) ?_
    exact ⟨_, rfl, t, _, 2, _, rfl, rfl, ht1, at2, a, cs, rfl, ha, ok.2, fun H2 s2 => q H2 (s1.trans s2)⟩
  | row n ws =>
    obtain ⟨a, rfl, ha⟩ := hv1
    refine iteF' (by rw [decide_eq_true_eq]; intro z; exact absurd (V.str.inj z) (show ¬ ("row" : Str) = "table" by decide)) ?_
    refine ⟨_, rfl, t, _, 0, _, rfl, rfl, ht1, at0, rfl, _, rfl, iteT' (decide_eq_true rfl) ?_⟩
    refine ⟨_, rfl, t, _, 2, _, rfl, rfl, ht1, at2, _, _, _, _, true, rfl, .ty _, tyT ha, kit_ty (by decide +kernel), _, rfl, iteT' (by rfl) ?_⟩
    refine ⟨_, rfl, t, _, 2, _, rfl, rfl, ht1, at2, a, rfl, ⟨_, ha⟩, fun D nD => ?_⟩
    refine lc_tup (K := K) (a := a) (xs := ws.map V.int) (fun i H' => Same H1 H' ∧ H' D = some (.lst ((List.replicate i true).map V.bl))) ⟨new_same nD, upd_same⟩ (fun i H' _ y => Tups.of_same y.1 _ _ ha) ?_ ?_
    · rintro i x H' hx ⟨sm, eD⟩
      rw [List.getElem?_map, Option.map_eq_some_iff] at hx
      obtain ⟨c, hc, rfl⟩ := hx
      have hi : i < ws.length := (List.getElem?_eq_some_iff.mp hc).1
      have lc := ok.2.1 c (List.mem_of_getElem? hc)
      have l3 := ok.2.2
      refine ⟨rfl, ?_⟩
      refine ⟨_, rfl, fun _ => False, .int c, .int c, rfl, .int _, num_ok lc, fun H'' s'' => ?_⟩
      refine ⟨_, s'' _ _ eD, by rw [List.length_map, List.length_replicate, sizeLine_eq]; omega, fun b o e => ?_, ?_⟩
      · rw [upd_ne (ne_of_none e nD)]
        exact s'' _ _ (sm _ _ e)
      · rw [upd_same, show isNum (.int c) = true from num_is lc, List.replicate_succ', List.map_append]
        rfl
    rintro H' ⟨sm, eD⟩
    refine ⟨D, _, rfl, SqL.of eD, ?_⟩
    have e5 : (List.replicate (ws.map V.int).length true).all id = true := by simp
    rw [e5]
    exact q _ (s1.trans sm)
  | out n k =>
    obtain rfl := hv1
    have oKK : okD 50 (.int (k : Int)) = true := by
      have z := ok.2
      simp only [okD, decide_eq_true_eq]
      omega
    refine iteF' (by rw [decide_eq_true_eq]; intro z; exact absurd (V.str.inj z) (show ¬ ("out" : Str) = "table" by decide)) ?_
    refine ⟨_, rfl, t, _, 0, _, rfl, rfl, ht1, at0, rfl, _, rfl, iteF' (by rw [decide_eq_true_eq]; intro z; exact absurd (V.str.inj z) (show ¬ ("out" : Str) = "row" by decide)) ?_⟩
    refine ⟨_, rfl, t, _, 0, _, rfl, rfl, ht1, at0, rfl, _, rfl, iteT' (decide_eq_true rfl) ?_⟩
    refine ⟨_, rfl, t, _, 2, _, rfl, rfl, ht1, at2, fun _ => False, _, .int k, rfl, .int _, oKK, fun H2 s2 => ?_⟩
    refine ⟨_, rfl, iteT' (by rfl) ?_⟩
    refine ⟨_, rfl, t, _, 2, _, rfl, rfl, Tups.of_same s2 _ _ ht1, at2, _, _, rfl, rfl, ?_⟩
    show Q (.bl (decide ((0 : Int) ≤ (k : Int)))) H2
    rw [show decide ((0 : Int) ≤ (k : Int)) = true from decide_eq_true (by omega)]
    exact q _ (s1.trans s2)
end
end K07t
end

section
set_option Elab.async false
set_option linter.all false
set_option maxRecDepth 100000
set_option maxHeartbeats 4000000
/-! sorted(xs) of data of one form; what holds of each and its data stays so -/
namespace Gd
open PySem PySem.Spec PyProof.Rows L2 PySem.W
def RDZ (K : PySem.W.Frag) (H : Hp) (G : V → PyData → Prop) (u : Value) (d : PyData) : Prop := ∃ x, RelV x u ∧ Dp K H x d ∧ G x d
section
variable {K : PySem.W.Frag} {H : Hp} {G : V → PyData → Prop}
theorem each_ofZ : ∀ {xs : List V} {us : List Value} {ds : List PyData}, Vals xs us → DpAll K H xs ds → EachIs G xs ds → EachIs (RDZ K H G) us ds
  | _, _, _, .nil, h, _ => by
    cases h
    exact .nil
  | _, _, _, .cons r rs, h, g => by
    cases h with
    | cons a b =>
      cases g with
      | cons g1 g2 => exact .cons ⟨_, r, a, g1⟩ (each_ofZ rs b g2)
theorem of_eachZ : ∀ {us : List Value} {ds : List PyData}, EachIs (RDZ K H G) us ds → ∃ xs, Vals xs us ∧ DpAll K H xs ds ∧ EachIs G xs ds
  | _, _, .nil => ⟨[], .nil, .nil, .nil⟩
  | _, _, .cons ⟨x, r, a, g⟩ h => by
    obtain ⟨xs, rs, b, c⟩ := of_eachZ h
    exact ⟨x :: xs, .cons r rs, .cons a b, .cons g c⟩
theorem each_snoc {α β : Type} {R : α → β → Prop} {a : α} {b : β} : ∀ {as : List α} {bs : List β}, EachIs R as bs → R a b → EachIs R (as ++ [a]) (bs ++ [b])
  | _, _, .nil, h => .cons h .nil
  | _, _, .cons x r, h => .cons x (each_snoc r h)
theorem each_at {α β : Type} {R : α → β → Prop} : ∀ {as : List α} {bs : List β} {i : Nat} {a : α}, EachIs R as bs → as[i]? = some a → ∃ b, bs[i]? = some b ∧ R a b
  | _, _, _, _, .nil, e => by simp at e
  | _, _, 0, _, .cons x _, e => by
    cases Option.some.inj e
    exact ⟨_, rfl, x⟩
  | _, _, i + 1, _, .cons _ r, e => each_at (i := i) r e
end
def rSortZ (K : PySem.W.Frag) : List V → Hp → VK → Prop := fun xs H Q => ∃ (a : Addr) (vs : List V) (ds : List PyData) (G : V → PyData → Prop), xs = [.ref a] ∧ SqL K H a vs ∧ DpAll K H vs ds ∧ EachIs G vs ds ∧ AllAlike ds ∧ Sortable ds ∧ ds.length ≤ 1000 ∧ (∀ d ∈ ds, d.depth ≤ 50) ∧
  ∀ (us : List V) (p : Addr), H p = none → DpAll K H us (told ds) → EachIs G us (told ds) → Q (.ref p) (upd H p (.lst us))
theorem call_sortedZ {X : Cx} (hu : X.A.units + 64 < cLine) : CallR X (.builtin "sorted") (rSortZ X.K) := by
  intro pins s σ H xs us Q I r h
  obtain ⟨a, vs, ds, G, rfl, hs, hA, g, al, so, hz, hd, q⟩ := h
  obtain ⟨u, rfl, ru⟩ := r.one
  cases ru
  obtain ⟨its, rv, hl, _⟩ := I.list hs
  have e := each_ofZ rv hA g
  have er : EachIs (fun v b => ∃ as, Reads s.heap v (id b) as) its ds := e.mono fun v d ⟨x, r1, r2, _⟩ => Dp.reads I d x v r2 r1
  have zl : sizeLine = 16777216 := rfl
  refine sorted_data (enc := id) hl.isList e er (by rw [List.map_id]; exact al) (by rw [List.map_id]; exact so) (by omega) (fun b hb => ?_) fun out hlen eo => ?_
  · have := hd b hb
    show X.A.units + 2 + b.depth < cLine
    omega
  · obtain ⟨ws, r2, A2, g2⟩ := of_eachZ eo
    obtain ⟨ep, he⟩ := sortedAll_at s.heap its (List.toArray out)
    have hw : ws.length ≤ sizeLine := by
      have := r2.length
      omega
    exact ⟨.ref _, upd H (s.heap.objs.size + 1) (.lst ws), I.laid (t' := s.toks) (fun _ _ => sortedAll_old) (Nat.le_succ _) ⟨hw, out, ep, r2, he⟩, rfl, q ws _ (I.hok.fresh (Nat.le_succ _)) A2 g2⟩
end Gd
end

section
set_option Elab.async false
set_option linter.all false
set_option maxRecDepth 100000
set_option maxHeartbeats 4000000
/-! Tables: what stands in the heap, by footprints. -/
namespace K07t
open PySem PySem.Spec PyProof.Rows L2 Gd
/-- a row: its worths, the deed that put it, the one that took it out -/
structure Rw where
  ws : List Int
  put : Nat
  out : Option Nat
structure Tab where
  name : Str
  cols : List Str
  made : Nat
  rows : List Rw
structure Shelf where
  deeds : List Deed
  tabs : List Tab
def onTab (n : Str) (f : Tab → Tab) (t : Tab) : Tab := if t.name = n then f t else t
def Shelf.act (x : Shelf) (d : Deed) : Shelf :=
  { deeds := x.deeds ++ [d]
    tabs := match d with
      | .table n cs => x.tabs ++ [⟨n, cs, x.deeds.length, []⟩]
      | .row n ws => x.tabs.map (onTab n fun t => { t with rows := t.rows ++ [⟨ws, x.deeds.length, none⟩] })
      | .out n k => x.tabs.map (onTab n fun t => { t with rows := t.rows.modify k fun r => { r with out := some x.deeds.length } }) }
def outV : Option Nat → V
  | none => .non
  | some i => .int i
/-- a row stands at v -/
def RowAt (K : PySem.W.Frag) (H : Hp) (v : V) (r : Rw) : Prop := ∃ a b, v = .ref a ∧ SqT K H a [.ref b, .int r.put, outV r.out] ∧ SqT K H b (r.ws.map V.int)
def RowsAt (K : PySem.W.Frag) (H : Hp) (vs : List V) (rs : List Rw) : Prop := PySem.W.EachIs (RowAt K H) vs rs
def sf (a b c d : Addr) : List (Str × V) := [("_deeds", .ref a), ("_columns", .ref b), ("_made", .ref c), ("_rows", .ref d)]
/-- the three dicts, by the places of what they hold -/
def colsK (ts : List Tab) (ca : Nat → Addr) : List (Key × V) := ts.zipIdx.map fun p => (.inr p.1.name, .ref (ca p.2))
def madeK (ts : List Tab) : List (Key × V) := ts.map fun t => (.inr t.name, .int t.made)
def rowsK (ts : List Tab) (rl : Nat → Addr) : List (Key × V) := ts.zipIdx.map fun p => (.inr p.1.name, .ref (rl p.2))
/-- tables stand at p, on the objects F -/
structure ShelfAt (K : PySem.W.Frag) (C : Addr) (H : Hp) (p : Addr) (x : Shelf) (dx a b c d : Addr) (ds : List V) (ca rl : Nat → Addr) : Prop where
  ins : H p = some (.ins C dx (sf a b c d))
  deeds : H a = some (.lst ds)
  deed : PySem.W.EachIs (fun v e => ∃ t, v = .ref t ∧ DeedAt K H t e) ds x.deeds
  cols : H b = some (.dK (colsK x.tabs ca))
  colAt : ∀ i t, x.tabs[i]? = some t → SqT K H (ca i) (t.cols.map V.str)
  made : H c = some (.dK (madeK x.tabs))
  rows : H d = some (.dK (rowsK x.tabs rl))
  rowAt : ∀ i t, x.tabs[i]? = some t → ∃ vs, H (rl i) = some (.lst vs) ∧ RowsAt K H vs t.rows
  bc : b ≠ c
  bd : b ≠ d
  cd : c ≠ d
  apart : ∀ i j, i < x.tabs.length → j < x.tabs.length → rl i = rl j → i = j
  offA : ∀ i, i < x.tabs.length → rl i ≠ a
def foot (p a b c d : Addr) (n : Nat) (rl : Nat → Addr) (q : Addr) : Prop := q = p ∨ q = a ∨ q = b ∨ q = c ∨ q = d ∨ ∃ i, i < n ∧ q = rl i
def ShelfF (K : PySem.W.Frag) (C : Addr) (H : Hp) (p : Addr) (x : Shelf) (F : Addr → Prop) : Prop :=
  ∃ dx a b c d ds ca rl, ShelfAt K C H p x dx a b c d ds ca rl ∧ ∀ q, F q ↔ foot p a b c d x.tabs.length rl q
section
variable {K : PySem.W.Frag} {C : Addr} {H H' : Hp} {p : Addr} {x : Shelf} {F : Addr → Prop}
theorem RowAt.tups {v : V} {r : Rw} (t : Tups K H H') (h : RowAt K H v r) : RowAt K H' v r := by
  obtain ⟨a, b, e, h1, h2⟩ := h
  exact ⟨a, b, e, t _ _ h1, t _ _ h2⟩
theorem RowsAt.tups {vs : List V} {rs : List Rw} (t : Tups K H H') (h : RowsAt K H vs rs) : RowsAt K H' vs rs := h.mono fun _ _ y => y.tups t
/-- what keeps the footprint and all tuples keeps the shelf -/
theorem ShelfF.keep (h : ShelfF K C H p x F) (t : Tups K H H') (k : ∀ b o, F b → H b = some o → H' b = some o) : ShelfF K C H' p x F := by
  obtain ⟨dx, a, b, c, d, ds, ca, rl, s, hF⟩ := h
  refine ⟨dx, a, b, c, d, ds, ca, rl, ⟨k _ _ ((hF _).mpr (.inl rfl)) s.ins, k _ _ ((hF _).mpr (.inr (.inl rfl))) s.deeds, ?_, k _ _ ((hF _).mpr (.inr (.inr (.inl rfl)))) s.cols, fun i t0 e => t _ _ (s.colAt i t0 e),
    k _ _ ((hF _).mpr (.inr (.inr (.inr (.inl rfl))))) s.made, k _ _ ((hF _).mpr (.inr (.inr (.inr (.inr (.inl rfl)))))) s.rows, fun i t0 e => ?_, s.bc, s.bd, s.cd, s.apart, s.offA⟩, hF⟩
  · exact s.deed.mono fun v e ⟨q, e1, e2⟩ => ⟨q, e1, e2.tups t⟩
  · obtain ⟨vs, e1, e2⟩ := s.rowAt i t0 e
    exact ⟨vs, k _ _ ((hF _).mpr (.inr (.inr (.inr (.inr (.inr ⟨i, (List.getElem?_eq_some_iff.mp e).1, rfl⟩)))))) e1, e2.tups t⟩
theorem ShelfF.same (h : ShelfF K C H p x F) (s : Same H H') : ShelfF K C H' p x F := h.keep (Tups.of_same s) fun b o _ e => s b o e
/-- all of the footprint is there, and none of it is a tuple -/
theorem ShelfF.kind (h : ShelfF K C H p x F) {q : Addr} (hq : F q) : (∃ dx fs, H q = some (.ins C dx fs)) ∨ (∃ xs, H q = some (.lst xs)) ∨ ∃ kvs, H q = some (.dK kvs) := by
  obtain ⟨dx, a, b, c, d, ds, ca, rl, s, hF⟩ := h
  rcases (hF q).mp hq with rfl | rfl | rfl | rfl | rfl | ⟨i, hi, rfl⟩
  · exact .inl ⟨_, _, s.ins⟩
  · exact .inr (.inl ⟨_, s.deeds⟩)
  · exact .inr (.inr ⟨_, s.cols⟩)
  · exact .inr (.inr ⟨_, s.made⟩)
  · exact .inr (.inr ⟨_, s.rows⟩)
  · obtain ⟨vs, e, _⟩ := s.rowAt i _ (List.getElem?_eq_getElem hi)
    exact .inr (.inl ⟨_, e⟩)
theorem ShelfF.here (h : ShelfF K C H p x F) {q : Addr} (hq : F q) : ∃ o, H q = some o := by
  rcases h.kind hq with ⟨dx, fs, e⟩ | ⟨xs, e⟩ | ⟨kvs, e⟩
  · exact ⟨_, e⟩
  · exact ⟨_, e⟩
  · exact ⟨_, e⟩
theorem ShelfF.ne (h : ShelfF K C H p x F) {q r : Addr} (hq : F q) (n : H r = none) : q ≠ r := fun e => by
  obtain ⟨o, z⟩ := h.here hq
  rw [e, n] at z
  cases z
theorem ShelfF.self (h : ShelfF K C H p x F) : F p := by
  obtain ⟨dx, a, b, c, d, ds, ca, rl, s, hF⟩ := h
  exact (hF p).mpr (.inl rfl)
end
/-! ### what the dicts give -/
theorem valV_idx {f : Nat → V} : ∀ (ts : List Tab) (k : Nat) (i : Nat) (t : Tab), (ts.map Tab.name).Nodup → ts[i]? = some t → valV ((ts.zipIdx k).map fun p => ((.inr p.1.name : Key), f p.2)) (.inr t.name) = some (f (k + i))
  | [], _, _, _, _, h => by simp at h
  | t0 :: ts, k, 0, t, _, h => by
    obtain rfl : t0 = t := by simpa using h
    rw [List.zipIdx_cons, List.map_cons]
    exact valV_pos rfl
  | t0 :: ts, k, i + 1, t, nd, h => by
    rw [List.map_cons, List.nodup_cons] at nd
    have hi : ts[i]? = some t := by simpa using h
    rw [List.zipIdx_cons, List.map_cons, valV_neg, valV_idx ts (k + 1) i t nd.2 hi]
    · congr 2
      omega
    · exact fun z => nd.1 (List.mem_map.mpr ⟨t, List.mem_of_getElem? hi, (Sum.inr.inj z).symm⟩)
theorem valV_idx_no {f : Nat → V} {n : Str} : ∀ (ts : List Tab) (k : Nat), n ∉ ts.map Tab.name → valV ((ts.zipIdx k).map fun p => ((.inr p.1.name : Key), f p.2)) (.inr n) = none
  | [], _, _ => rfl
  | t0 :: ts, k, h => by
    rw [List.map_cons, List.mem_cons, not_or] at h
    rw [List.zipIdx_cons, List.map_cons, valV_neg (fun z => h.1 (Sum.inr.inj z).symm)]
    exact valV_idx_no ts (k + 1) h.2
theorem valV_made : ∀ (ts : List Tab) (i : Nat) (t : Tab), (ts.map Tab.name).Nodup → ts[i]? = some t → valV (madeK ts) (.inr t.name) = some (.int t.made)
  | [], _, _, _, h => by simp at h
  | t0 :: ts, 0, t, _, h => by
    obtain rfl : t0 = t := by simpa using h
    exact valV_pos rfl
  | t0 :: ts, i + 1, t, nd, h => by
    rw [List.map_cons, List.nodup_cons] at nd
    have hi : ts[i]? = some t := by simpa using h
    have e : valV (madeK (t0 :: ts)) (.inr t.name) = valV (madeK ts) (.inr t.name) := valV_neg (fun z => nd.1 (List.mem_map.mpr ⟨t, List.mem_of_getElem? hi, (Sum.inr.inj z).symm⟩))
    rw [e]
    exact valV_made ts i t nd.2 hi
theorem valV_made_no {n : Str} : ∀ (ts : List Tab), n ∉ ts.map Tab.name → valV (madeK ts) (.inr n) = none
  | [], _ => rfl
  | t0 :: ts, h => by
    rw [List.map_cons, List.mem_cons, not_or] at h
    have e : valV (madeK (t0 :: ts)) (.inr n) = valV (madeK ts) (.inr n) := valV_neg (fun z => h.1 (Sum.inr.inj z).symm)
    rw [e]
    exact valV_made_no ts h.2
end K07t
end

section
set_option Elab.async false
set_option linter.all false
set_option maxRecDepth 100000
set_option maxHeartbeats 4000000
/-! Tables: the methods that read. -/
namespace K07t
open PySem PySem.Spec PyProof.Rows L2 Gd
abbrev sMom : Stmt := inClass (topS 37) 5
abbrev sMof : Stmt := inClass (topS 37) 6
abbrev sRows : Stmt := inClass (topS 37) 7
abbrev sColumns : Stmt := inClass (topS 37) 9
abbrev sNames : Stmt := inClass (topS 37) 10
theorem scMom : FnScope ["self"] ["self"] (defScope sMom) := ⟨rfl, rfl, rfl, by decide +kernel, rfl, by decide +kernel, by decide +kernel⟩
theorem scMof : FnScope ["self", "name", "moment"] ["self", "name", "moment"] (defScope sMof) := ⟨rfl, rfl, rfl, by decide +kernel, rfl, by decide +kernel, by decide +kernel⟩
abbrev nRows : List Str := ["self", "name", "moment", "then", "number", "worths", "put", "out"]
theorem scRows : FnScope nRows ["self", "name", "moment"] (defScope sRows) := ⟨rfl, rfl, rfl, by decide +kernel, rfl, by decide +kernel, by decide +kernel⟩
theorem scColumns : FnScope ["self", "name", "moment"] ["self", "name", "moment"] (defScope sColumns) := ⟨rfl, rfl, rfl, by decide +kernel, rfl, by decide +kernel, by decide +kernel⟩
abbrev nNames : List Str := ["self", "moment", "then", "name"]
theorem scNames : FnScope nNames ["self", "moment"] (defScope sNames) := ⟨rfl, rfl, rfl, by decide +kernel, rfl, by decide +kernel, by decide +kernel⟩
/-- what the class is by the heap of the top -/
structure TxtT (K : PySem.W.Frag) (mg : Str → Option Value) (C : Addr) : Prop where
  cl : Cls K C
  nD : NoAttr K C "_deeds"
  nC : NoAttr K C "_columns"
  nM : NoAttr K C "_made"
  nR : NoAttr K C "_rows"
  so : mg "sorted" = none
  en : mg "enumerate" = none
section
variable {a b c d : Addr}
theorem sf_d : (sf a b c d).lookup ("_deeds" : Str) = some (.ref a) := by rfl
theorem sf_c : (sf a b c d).lookup ("_columns" : Str) = some (.ref b) := by rfl
theorem sf_m : (sf a b c d).lookup ("_made" : Str) = some (.ref c) := by rfl
theorem sf_r : (sf a b c d).lookup ("_rows" : Str) = some (.ref d) := by rfl
theorem sf_no {n : Str} (h : (["_deeds", "_columns", "_made", "_rows"] : List Str).contains n = false) : (sf a b c d).lookup n = none := by
  simp only [List.contains_cons, Bool.or_eq_false_iff, List.contains_nil] at h
  unfold sf
  simp [List.lookup, h]
end
/-- what is held of tables that are well made -/
structure ShelfOk (x : Shelf) : Prop where
  nd : (x.tabs.map Tab.name).Nodup
  lab : ∀ t ∈ x.tabs, isLab t.name = true
  deeds : x.deeds.length ≤ 4000
  tabs : x.tabs.length ≤ 6
  rows : ∀ t ∈ x.tabs, t.rows.length ≤ 60
  ws : ∀ t ∈ x.tabs, ∀ r ∈ t.rows, r.ws.length ≤ 1000
def momV : Option Nat → V
  | none => .non
  | some i => .int i
def Shelf.mo (x : Shelf) (o : Option Nat) : Nat := o.getD x.deeds.length
def spMom (K : PySem.W.Frag) (C : Addr) : Sp := fun vs H Q _ => ∃ (p : Addr) (x : Shelf) (F : Addr → Prop), vs = [.ref p] ∧ ShelfF K C H p x F ∧ x.deeds.length ≤ 4000 ∧ Q (.int x.deeds.length) H
def spMof (K : PySem.W.Frag) (C : Addr) : Sp := fun vs H Q _ => ∃ (p : Addr) (x : Shelf) (F : Addr → Prop) (i : Nat) (t : Tab) (o : Option Nat), vs = [.ref p, .str t.name, momV o] ∧ ShelfF K C H p x F ∧ ShelfOk x ∧ x.tabs[i]? = some t ∧ x.mo o ≤ x.deeds.length ∧ t.made < x.mo o ∧
  ∀ H', Same H H' → Q (.int (x.mo o)) H'
section
variable {P : Program} {w : World} {K : PySem.W.Frag} {mg : Str → Option Value} {base : Heap} {f fN pS C : Addr} {fd dN : FuncData}
theorem ok_mom (F : Fun K "moment" "Tables.moment" sMom f fd) (T : TxtT K mg C) (N : Cs K mg pS) : FnOk P w K mg base CX0 1 f fd ["self"] (spMom K C) := by
  refine F.ok scMom (fun vs H Q E h => ?_) (fun cdv A outer s H vs Q E hr h => ?_)
  · obtain ⟨p, x, F, rfl, _⟩ := h
    rfl
  obtain ⟨p, x, FF, rfl, ⟨dx, a, b, c, d, ds, ca, rl, S, hF⟩, hl, q⟩ := h
  refine ⟨_, pss_one (ps_ret (pe_callB call_len_seq (by rfl) N.len PySem.boot_len (pa_cons (pe_fld (pv 0) rfl) pa_nil))), ?_⟩
  refine ⟨_, rfl, p, C, dx, _, _, rfl, S.ins, T.cl, T.nD, sf_d, a, _, rfl, .inl (SqL.of S.deeds), ?_⟩
  rw [show ds.length = x.deeds.length from S.deed.length]
  exact q
theorem ok_mof (F : Fun K "_moment_of" "Tables._moment_of" sMof f fd) (T : TxtT K mg C) (N : Cs K mg pS)
    (FN : Fun K "is_name" "is_name" sName fN dN) (GN : FnOk P w K mg base CX0 1 fN dN ["thing"] (spChk K isLabD)) (gN : mg "is_name" = some (.ref fN)) (bN : Binds K dN ["thing"] []) : FnOk P w K mg base CX0 2 f fd ["self", "name", "moment"] (spMof K C) := by
  refine F.ok scMof (fun vs H Q E h => ?_) (fun cdv A outer s H vs Q E hr h => ?_)
  · obtain ⟨p, x, F, i, t, o, rfl, _⟩ := h
    rfl
  obtain ⟨p, x, FF, i, t, o, rfl, hS, ok, ht, mo1, mo2, q⟩ := h
  have nd := scMof.nd
  have hu := hu_of hr
  refine ⟨_, C8.pss_cut (ps_if (pt_cmpR op_isN (pv 2) pe_non (nomark _)) (pss_one (ps_set (i := 2) nd rfl (.inl rfl) (pe_callB call_len_seq (by rfl) N.len PySem.boot_len (pa_cons (pe_fld (pv 0) rfl) pa_nil)))) pss_nil)
    (pss_cons (ps_if (PW.pt (pw_or (pt_not (pt_val (pe_call GN hr (by rfl) gN FN.kp bN .nil pass0 (pa_cons (pv 1) pa_nil)))) (pw_or1 (pt_cmp (pc_dnotin hu (pv 1) (pe_fld (pv 0) rfl)))))) pss_never pss_nil)
    (pss_cons (ps_if (PW.pt (pw_or (pt_cmpR op_gt (pv 2) (pe_callB call_len_seq (by rfl) N.len PySem.boot_len (pa_cons (pe_fld (pv 0) rfl) pa_nil)) (nomark _)) (pw_or1 (pt_cmpR op_ge (pe_dget hu (pe_fld (pv 0) rfl) (pv 1) (fun _ _ => rfl)) (pv 2) (nomark _))))) pss_never pss_nil)
    (pss_one (ps_ret (pv 2))))), ?_⟩
  obtain ⟨dx, a, b, c, d, ds, ca, rl, S, hF⟩ := hS
  have lds : ds.length = x.deeds.length := S.deed.length
  have hla : isLab t.name = true := ok.lab t (List.mem_of_getElem? ht)
  have vm : valV (madeK x.tabs) (.inr t.name) = some (.int t.made) := valV_made x.tabs i t ok.nd ht
  refine ⟨fun σ' H' => H' = H ∧ σ' = [some (.ref p), some (.str t.name), some (.int (x.mo o))], ?_, ?_⟩
  · cases o with
    | none =>
      refine ⟨_, rfl, rfl, _, rfl, iteT' (decide_eq_true rfl) ?_⟩
      refine ⟨_, rfl, p, C, dx, _, _, rfl, S.ins, T.cl, T.nD, sf_d, a, _, rfl, .inl (SqL.of S.deeds), rfl, ?_⟩
      rw [lds]
      rfl
    | some m =>
      refine ⟨_, rfl, rfl, _, rfl, iteF' (by rw [decide_eq_true_eq]; exact fun z => nomatch z) ?_⟩
      exact ⟨rfl, rfl⟩
  rintro σ' H' ⟨rfl, rfl⟩
  refine ⟨_, rfl, fun _ => False, _, .str t.name, rfl, .str _, lab_ok hla, fun H1 s1 => ⟨_, rfl, ?_⟩⟩
  rw [show isLabD (.str t.name) = true from hla]
  refine iteF ?_
  have i1 := s1 _ _ S.ins
  have m1 := s1 _ _ S.made
  have g1 : DGet H1 c (.str t.name) (some (.int t.made)) := by
    have z := DGet.k (k := .inr t.name) m1
    rw [vm] at z
    exact z
  refine ⟨_, rfl, _, rfl, p, C, dx, _, _, rfl, i1, T.cl, T.nM, sf_m, c, _, rfl, g1, _, rfl, iteF ?_⟩
  refine ⟨_, rfl, _, rfl, p, C, dx, _, _, rfl, i1, T.cl, T.nD, sf_d, a, _, rfl, .inl (SqL.of (s1 _ _ S.deeds)), _, _, rfl, rfl, _, rfl, ?_⟩
  rw [lds, show decide (((x.mo o : Nat) : Int) > ((x.deeds.length : Nat) : Int)) = false from decide_eq_false (by omega)]
  refine iteF ?_
  refine ⟨_, rfl, p, C, dx, _, _, rfl, i1, T.cl, T.nM, sf_m, _, rfl, c, _, rfl, g1, _, rfl, _, _, rfl, rfl, _, rfl, ?_⟩
  rw [show decide (((t.made : Nat) : Int) ≥ ((x.mo o : Nat) : Int)) = false from decide_eq_false (by omega)]
  refine iteF ?_
  exact ⟨_, rfl, q _ s1⟩
end
end K07t
end

section
set_option Elab.async false
set_option linter.all false
set_option maxRecDepth 100000
set_option maxHeartbeats 4000000
/-! Tables: rows, columns. -/
namespace K07t
open PySem PySem.Spec PyProof.Rows L2 Gd
structure Mt (P : Program) (w : World) (K : PySem.W.Frag) (mg : Str → Option Value) (base : Heap) (C : Addr) (m : Str) (ps : List Str) (cx : CXT) (k : Nat) (sp : Sp) : Prop where
  ex : ∃ (f : Addr) (fd : FuncData), Meth K C m f ∧ FnOk P w K mg base cx k f fd ps sp ∧ Binds K fd ps []
theorem each_at {α β : Type} {R : α → β → Prop} : ∀ {as : List α} {bs : List β} {i : Nat} {a : α}, PySem.W.EachIs R as bs → as[i]? = some a → ∃ b, bs[i]? = some b ∧ R a b
  | _, _, _, _, .nil, h => by simp at h
  | _, _, 0, _, .cons (b := b) h _, e => by
    cases (show some _ = some _ from e)
    exact ⟨b, rfl, h⟩
  | _, _, i + 1, _, .cons _ t, e => each_at t (i := i) (by simpa using e)
def stands (m : Nat) (r : Rw) : Bool := decide (r.put < m) && (match r.out with
  | none => true
  | some o => decide (m ≤ o))
/-- the rows of a moment, with their numbers -/
def Tab.at (t : Tab) (m : Nat) (k : Nat) : List (Nat × Rw) := ((t.rows.take k).zipIdx.map fun p => (p.2, p.1)).filter fun p => stands m p.2
def rowD (p : Nat × Rw) : PyData := .tuple [.int p.1, .tuple (p.2.ws.map PyData.int)]
theorem dp_ints {K : PySem.W.Frag} {H : Hp} : ∀ ws : List Int, DpAll K H (ws.map V.int) (ws.map PyData.int)
  | [] => .nil
  | w :: ws => .cons (.int w) (dp_ints ws)
theorem ints_only : ∀ ws : List Int, tupOnlyAll (ws.map PyData.int) = true
  | [] => rfl
  | w :: ws => by
    show (tupOnly (.int w) && tupOnlyAll (ws.map PyData.int)) = true
    rw [ints_only ws]
    rfl
theorem rowD_only {p : Nat × Rw} (h : p.2.ws.length ≤ 1000) : tupOnly (rowD p) = true := by
  have e : tupOnly (.tuple (p.2.ws.map PyData.int)) = true := by
    simp only [tupOnly, Bool.and_eq_true, decide_eq_true_eq]
    exact ⟨by rw [List.length_map]; omega, ints_only _⟩
  unfold rowD
  simp only [tupOnly, tupOnlyAll, Bool.and_eq_true, decide_eq_true_eq] at e ⊢
  exact ⟨by show 2 ≤ 1000; decide, trivial, e, trivial⟩
theorem rowDs_only : ∀ l : List (Nat × Rw), (∀ p ∈ l, p.2.ws.length ≤ 1000) → tupOnlyAll (l.map rowD) = true
  | [], _ => rfl
  | p :: l, h => by
    show (tupOnly (rowD p) && tupOnlyAll (l.map rowD)) = true
    rw [rowD_only (h p (by simp)), rowDs_only l fun q hq => h q (by simp [hq])]
    rfl
theorem at_mem {t : Tab} {m k : Nat} {p : Nat × Rw} (h : p ∈ t.at m k) : p.2 ∈ t.rows := by
  unfold Tab.at at h
  obtain ⟨q, hq, e⟩ := List.mem_map.mp (List.mem_filter.mp h).1
  rw [← e]
  exact List.mem_of_mem_take (List.fst_mem_of_mem_zipIdx hq)
theorem at_succ (t : Tab) (m k : Nat) (r : Rw) (h : t.rows[k]? = some r) : t.at m (k + 1) = if stands m r = true then t.at m k ++ [(k, r)] else t.at m k := by
  have hk : k < t.rows.length := (List.getElem?_eq_some_iff.mp h).1
  unfold Tab.at
  rw [List.take_add_one, h]
  show List.filter _ (List.map _ ((t.rows.take k ++ [r]).zipIdx)) = _
  rw [List.zipIdx_append, List.map_append, List.filter_append]
  have e : (t.rows.take k).length = k := by rw [List.length_take]; omega
  rw [e, Nat.zero_add]
  show _ ++ List.filter _ [(k, r)] = _
  by_cases z : stands m r = true
  · rw [if_pos z]
    simp [z]
  · rw [if_neg z]
    simp [z]
def spColumns (K : PySem.W.Frag) (C : Addr) : Sp := fun vs H Q _ => ∃ (p : Addr) (x : Shelf) (F : Addr → Prop) (i : Nat) (t : Tab) (o : Option Nat), vs = [.ref p, .str t.name, momV o] ∧ ShelfF K C H p x F ∧ ShelfOk x ∧ x.tabs[i]? = some t ∧ x.mo o ≤ x.deeds.length ∧ t.made < x.mo o ∧
  ∀ H' a, Same H H' → SqT K H' a (t.cols.map V.str) → Q (.ref a) H'
def spRows (K : PySem.W.Frag) (C : Addr) : Sp := fun vs H Q _ => ∃ (p : Addr) (x : Shelf) (F : Addr → Prop) (i : Nat) (t : Tab) (o : Option Nat), vs = [.ref p, .str t.name, momV o] ∧ ShelfF K C H p x F ∧ ShelfOk x ∧ x.tabs[i]? = some t ∧ x.mo o ≤ x.deeds.length ∧ t.made < x.mo o ∧
  ∀ H' D us, Same H H' → H D = none → H' D = some (.lst us) → DpAll K H' us ((t.at (x.mo o) t.rows.length).map rowD) → Q (.ref D) H'
section
variable {P : Program} {w : World} {K : PySem.W.Frag} {mg : Str → Option Value} {base : Heap} {f pS C : Addr} {fd : FuncData}
theorem ok_columns (F : FunD K "columns" "Tables.columns" (defArgs sColumns) (defBody sColumns) (defScope sColumns) [] [("moment", .non)] f fd) (T : TxtT K mg C) (M : Mt P w K mg base C "_moment_of" ["self", "name", "moment"] CX0 2 (spMof K C)) :
    FnOk P w K mg base CX0 3 f fd ["self", "name", "moment"] (spColumns K C) := by
  refine F.ok scColumns (fun vs H Q E h => ?_) (fun cdv A outer s H vs Q E hr h => ?_)
  · obtain ⟨p, x, F, i, t, o, rfl, _⟩ := h
    rfl
  obtain ⟨p, x, FF, i, t, o, rfl, hS, ok, ht, mo1, mo2, q⟩ := h
  obtain ⟨fM, dM, mM, GM, bM⟩ := M.ex
  have nd := scColumns.nd
  have hu := hu_of hr
  refine ⟨_, pss_cons (ps_expr (pe_meth (pv 0) T.cl mM GM hr bM .nil pass0 (pa_cons (pv 1) (pa_cons (pv 2) pa_nil)))) (pss_one (ps_ret (pe_dget hu (pe_fld (pv 0) rfl) (pv 1) (fun _ _ => rfl)))), ?_⟩
  have hS0 := hS
  obtain ⟨dx, a, b, c, d, ds, ca, rl, S, hF⟩ := hS
  refine ⟨_, rfl, p, dx, _, rfl, S.ins, sf_no (by decide), _, rfl, _, rfl, p, x, FF, i, t, o, rfl, hS0, ok, ht, mo1, mo2, fun H1 s1 => ?_⟩
  have g1 : DGet H1 b (.str t.name) (some (.ref (ca i))) := by
    have z := DGet.k (k := .inr t.name) (s1 _ _ S.cols)
    unfold colsK at z
    rw [valV_idx (f := fun j => .ref (ca j)) x.tabs 0 i t ok.nd ht, Nat.zero_add] at z
    exact z
  exact ⟨_, rfl, p, C, dx, _, _, rfl, s1 _ _ S.ins, T.cl, T.nC, sf_c, _, rfl, b, _, rfl, g1, q H1 _ s1 (Tups.of_same s1 _ _ (S.colAt i t ht))⟩
theorem ok_rows (F : FunD K "rows" "Tables.rows" (defArgs sRows) (defBody sRows) (defScope sRows) [] [("moment", .non)] f fd) (T : TxtT K mg C) (M : Mt P w K mg base C "_moment_of" ["self", "name", "moment"] CX0 2 (spMof K C)) :
    FnOk P w K mg base CX0 3 f fd ["self", "name", "moment"] (spRows K C) := by
  refine F.ok scRows (fun vs H Q E h => ?_) (fun cdv A outer s H vs Q E hr h => ?_)
  · obtain ⟨p, x, F, i, t, o, rfl, _⟩ := h
    rfl
  obtain ⟨p, x, FF, i, t, o, rfl, hS, ok, ht, mo1, mo2, q⟩ := h
  obtain ⟨fM, dM, mM, GM, bM⟩ := M.ex
  have nd := scRows.nd
  have hu := hu_of hr
  refine ⟨_, pss_cons (ps_set (i := 3) nd rfl (by first | exact .inl rfl | exact .inr rfl) (pe_meth (pv 0) T.cl mM GM hr bM .nil pass0 (pa_cons (pv 1) (pa_cons (pv 2) pa_nil))))
    (pss_one (ps_ret (pe_lc (own := [("number", 4), ("worths", 5), ("put", 6), ("out", 7)]) (g := gTup K 2 (gCons (gName 4) (gCons (gTup K 3 (gCons (gName 5) (gCons (gName 6) (gCons (gName 7) gNil)))) gNil))) rfl nd
      (pi_enum (by rfl) T.en (pa_cons (pe_dget hu (pe_fld (pv 0) rfl) (pv 1) (fun _ _ => rfl)) pa_nil)) (blkOk_by (N := nRows) (sc := defScope sRows) (by decide +kernel))
      (fun _ _ _ _ _ => pg_tup rfl (pgs_cons (pg_name (i := 4) nd rfl (Or.inl rfl)) (pgs_cons (pg_tup rfl (pgs_cons (pg_name (i := 5) nd rfl (Or.inl rfl)) (pgs_cons (pg_name (i := 6) nd rfl (Or.inl rfl)) (pgs_cons (pg_name (i := 7) nd rfl (Or.inl rfl)) pgs_nil)))) pgs_nil)))
      (fun _ _ _ _ _ => pts_one (PW.pt (pw_and (pt_cmpR op_lt (pv 6) (pv 3) (nomark _)) (pw_and1 (PW.pt (pw_or (pt_cmpR op_isN (pv 7) pe_non (nomark _)) (pw_or1 (pt_cmpR op_ge (pv 7) (pv 3) (nomark _)))))))))
      (fun _ _ _ _ _ => pe_tup (pa_cons (pv 4) (pa_cons (pv 5) pa_nil)))))), ?_⟩
  have hS0 := hS
  obtain ⟨dx, a, b, c, d, ds, ca, rl, S, hF⟩ := hS
  refine ⟨_, rfl, p, dx, _, rfl, S.ins, sf_no (by decide), _, rfl, _, rfl, p, x, FF, i, t, o, rfl, hS0, ok, ht, mo1, mo2, fun H1 s1 => ?_⟩
  have g1 : DGet H1 d (.str t.name) (some (.ref (rl i))) := by
    have z := DGet.k (k := .inr t.name) (s1 _ _ S.rows)
    unfold rowsK at z
    rw [valV_idx (f := fun j => .ref (rl j)) x.tabs 0 i t ok.nd ht, Nat.zero_add] at z
    exact z
  obtain ⟨vs, ev, hv⟩ := S.rowAt i t ht
  have lv : vs.length = t.rows.length := hv.length
  have l60 := ok.rows t (List.mem_of_getElem? ht)
  have wsl : ∀ r ∈ t.rows, r.ws.length ≤ 1000 := fun r hr0 => ok.ws t (List.mem_of_getElem? ht) r hr0
  refine ⟨_, rfl, p, C, dx, _, _, rfl, s1 _ _ S.ins, T.cl, T.nR, sf_r, _, rfl, d, _, rfl, g1, rl i, _, rfl, SqL.of (s1 _ _ ev), fun D nD => ?_⟩
  have e1 := s1 _ _ ev
  have r1 : RowsAt K H1 vs t.rows := hv.tups (Tups.of_same s1)
  generalize hm : x.mo o = m at mo1 mo2 q ⊢
  refine lc_it walk_enum (fun k H5 => Same H1 H5 ∧ ∃ us, H5 D = some (.lst us) ∧ DpAll K H5 us ((t.at m k).map rowD)) ⟨new_same nD, [], upd_same, by
      have z : t.at m 0 = [] := rfl
      rw [z]
      exact .nil⟩ (fun k H5 _ h => SqL.of (h.1 _ _ e1)) ?_ ?_
  · rintro k y H5 H6 hk ⟨s5, us, eD, dA⟩ ⟨T0, v1, v2, rfl, nT0, rfl, ei, ex⟩
    cases ei
    have hk : k < vs.length := hk
    have j6 := new_same (o := .tup [.int ((k : Nat) : Int), v2]) nT0
    have s6 := s5.trans j6
    obtain ⟨r, er, hr'⟩ := each_at r1 ex
    obtain ⟨ra, wa, rfl, hra, hwa⟩ := hr'.tups (Tups.of_same s6)
    have eD6 := j6 _ _ eD
    have dA6 := DpAll.same j6 _ dA
    have e6 : upd H5 T0 (.tup [.int ((k : Nat) : Int), .ref ra]) T0 = some (.tup [.int ((k : Nat) : Int), .ref ra]) := upd_same
    generalize upd H5 T0 (.tup [.int ((k : Nat) : Int), .ref ra]) = H6 at s6 hra hwa eD6 dA6 e6 ⊢
    have lu : us.length ≤ k := by
      have z := DpAll.len dA6
      rw [z, List.length_map]
      unfold Tab.at
      refine Nat.le_trans (List.length_filter_le _ _) ?_
      rw [List.length_map, List.length_zipIdx, List.length_take]
      omega
    have no : ∀ G, stands m r ≠ true → Same H6 G → Same H1 G ∧ ∃ us, G D = some (.lst us) ∧ DpAll K G us ((t.at m (k + 1)).map rowD) := fun G z sG => by
      rw [at_succ t m k r er, if_neg z]
      exact ⟨s6.trans sG, us, sG _ _ eD6, DpAll.same sG _ dA6⟩
    refine ⟨T0, _, rfl, SqT.of e6, rfl, _, _, rfl, _, _, rfl, ⟨ra, _, rfl, hra, rfl, _, _, rfl, _, _, rfl, _, _, rfl, rfl, ?_⟩⟩
    have yes : stands m r = true → ∀ q, H6 q = none → ∃ acc, upd H6 q (.tup [.int ((k : Nat) : Int), .ref wa]) D = some (.lst acc) ∧ acc.length < sizeLine ∧ Same H1 (upd (upd H6 q (.tup [.int ((k : Nat) : Int), .ref wa])) D (.lst (acc ++ [.ref q]))) ∧
        ∃ us, upd (upd H6 q (.tup [.int ((k : Nat) : Int), .ref wa])) D (.lst (acc ++ [.ref q])) D = some (.lst us) ∧ DpAll K (upd (upd H6 q (.tup [.int ((k : Nat) : Int), .ref wa])) D (.lst (acc ++ [.ref q]))) us ((t.at m (k + 1)).map rowD) := fun z q nq => by
      have jq := new_same (o := .tup [.int ((k : Nat) : Int), .ref wa]) nq
      have eD7 := jq _ _ eD6
      have dA7 := DpAll.same jq _ dA6
      have hwa7 := Tups.of_same jq _ _ hwa
      have eq7 : upd H6 q (.tup [.int ((k : Nat) : Int), .ref wa]) q = some (.tup [.int ((k : Nat) : Int), .ref wa]) := upd_same
      have s7 := s6.trans jq
      generalize upd H6 q (.tup [.int ((k : Nat) : Int), .ref wa]) = H7 at eD7 dA7 hwa7 eq7 s7 ⊢
      have dr : Dp K H7 (.ref q) (rowD (k, r)) := .tup (SqT.of eq7) (.cons (.int _) (.cons (.tup hwa7 (dp_ints r.ws)) .nil))
      have tp : Tups K H7 (upd H7 D (.lst (us ++ [.ref q]))) := .upd_lst eD7
      refine ⟨us, eD7, by rw [sizeLine_eq]; omega, fun b u e => ?_, us ++ [.ref q], upd_same, ?_⟩
      · rw [upd_ne (ne_of_none e nD)]
        exact s7 _ _ e
      · rw [at_succ t m k r er, if_pos z, List.map_append]
        exact DpAll.snoc (DpAll.tups tp _ (rowDs_only _ (fun p hp => wsl p.2 (at_mem hp))) dA7) (Dp.tups tp _ (rowD_only (wsl r (List.mem_of_getElem? er))) dr)
    refine ⟨rfl, rfl, ?_⟩
    refine ⟨_, rfl, _, rfl, _, _, rfl, rfl, _, rfl, ite2 (fun c1 => ?_) (fun c1 => iteF ?_)⟩
    · have c1 : ((r.put : Nat) : Int) < ((m : Nat) : Int) := by simpa using c1
      have p1 : decide (r.put < m) = true := decide_eq_true (by omega)
      cases ho : r.out with
      | none =>
        refine ⟨_, rfl, rfl, _, rfl, iteT' (decide_eq_true rfl) (iteT ?_)⟩
        exact ⟨_, rfl, _, rfl, (by show 2 ≤ sizeLine; decide), yes (by unfold stands; rw [p1, ho]; rfl)⟩
      | some o2 =>
        refine ⟨_, rfl, rfl, _, rfl, iteF' (by rw [decide_eq_true_eq]; exact fun z => nomatch z) ?_⟩
        refine ⟨_, rfl, _, rfl, _, _, rfl, rfl, _, rfl, ?_⟩
        cases hc : decide (((m : Nat) : Int) ≤ ((o2 : Nat) : Int)) with
        | true =>
          have : m ≤ o2 := by simpa using hc
          refine iteT ?_
          exact ⟨_, rfl, _, rfl, (by show 2 ≤ sizeLine; decide), yes (by unfold stands; rw [p1, ho]; simpa using this)⟩
        | false =>
          have : ¬ m ≤ o2 := by simpa using hc
          exact iteF (no H6 (by unfold stands; rw [p1, ho]; simpa using this) (Same.refl _))
    · have c1 : ¬ ((r.put : Nat) : Int) < ((m : Nat) : Int) := by simpa using c1
      have p1 : decide (r.put < m) = false := decide_eq_false (by omega)
      exact no H6 (by unfold stands; rw [p1]; simp) (Same.refl _)
  · rintro H5 ⟨s5, us, eD, dA⟩
    rw [lv] at dA
    exact q H5 D us (s1.trans s5) (s1.free nD) eD dA
end
end K07t
end

section
set_option Elab.async false
set_option linter.all false
set_option maxRecDepth 100000
set_option maxHeartbeats 4000000
/-! Tables: the methods that change. -/
namespace K07t
open PySem PySem.Spec PyProof.Rows L2 Gd
abbrev sMake : Stmt := inClass (topS 37) 2
theorem scMake : FnScope ["self", "name", "columns"] ["self", "name", "columns"] (defScope sMake) := ⟨rfl, rfl, rfl, by decide +kernel, rfl, by decide +kernel, by decide +kernel⟩
/-- what is not of the footprint stays; what is new to it was free -/
structure After (H : Hp) (F : Addr → Prop) (H' : Hp) (F' : Addr → Prop) : Prop where
  off : ∀ b o, ¬ F b → H b = some o → H' b = some o
  new : ∀ b, F' b → F b ∨ H b = none
theorem colsK_snoc (ts : List Tab) (t : Tab) (ca : Nat → Addr) : colsK (ts ++ [t]) ca = colsK ts ca ++ [(.inr t.name, .ref (ca ts.length))] := by
  unfold colsK
  rw [List.zipIdx_append, List.map_append]
  simp
theorem rowsK_snoc (ts : List Tab) (t : Tab) (rl : Nat → Addr) : rowsK (ts ++ [t]) rl = rowsK ts rl ++ [(.inr t.name, .ref (rl ts.length))] := colsK_snoc ts t rl
theorem colsK_ext {ts : List Tab} {ca cb : Nat → Addr} (h : ∀ i, i < ts.length → ca i = cb i) : colsK ts ca = colsK ts cb := by
  unfold colsK
  refine List.map_congr_left fun p hp => ?_
  have := List.snd_lt_of_mem_zipIdx hp
  rw [h p.2 (by omega)]
theorem putK_new {kvs : List (Key × V)} {k : Key} {v : V} (h : valV kvs k = none) : putK kvs k v = kvs ++ [(k, v)] := by
  unfold putK
  rw [if_neg]
  rw [valV_any, h]
  decide
theorem tups_off {K : PySem.W.Frag} {H H' : Hp} (h : ∀ q o, H q = some o → (∀ kvs, o ≠ .dK kvs) → (∀ xs, o ≠ .lst xs) → (∀ C dx fs, o ≠ .ins C dx fs) → H' q = some o) : Tups K H H' := fun b xs z => by
  rcases z with (z | ⟨o, z⟩) | z
  · exact .inl (.inl (h _ _ z (fun _ y => nomatch y) (fun _ y => nomatch y) (fun _ _ _ y => nomatch y)))
  · exact .inl (.inr ⟨o, h _ _ z (fun _ y => nomatch y) (fun _ y => nomatch y) (fun _ _ _ y => nomatch y)⟩)
  · exact .inr z
def spMake (K : PySem.W.Frag) (C : Addr) : Sp := fun vs H Q _ => ∃ (p ac : Addr) (x : Shelf) (F : Addr → Prop) (n : Str) (cs : List Str), vs = [.ref p, .str n, .ref ac] ∧ ShelfF K C H p x F ∧ ShelfOk x ∧ n ∉ x.tabs.map Tab.name ∧ x.tabs.length < 6 ∧ SqT K H ac (cs.map V.str) ∧
  ∀ H' F', ShelfF K C H' p { x with tabs := x.tabs ++ [⟨n, cs, x.deeds.length, []⟩] } F' → After H F H' F' → Q .non H'
section
variable {P : Program} {w : World} {K : PySem.W.Frag} {mg : Str → Option Value} {base : Heap} {f pS C : Addr} {fd : FuncData}
theorem ok_make (F : Fun K "_make" "Tables._make" sMake f fd) (T : TxtT K mg C) (N : Cs K mg pS) (Ct : Ct mg) : FnOk P w K mg base CX0 1 f fd ["self", "name", "columns"] (spMake K C) := by
  refine F.ok scMake (fun vs H Q E h => ?_) (fun cdv A outer s H vs Q E hr h => ?_)
  · obtain ⟨p, ac, x, F, n, cs, rfl, _⟩ := h
    rfl
  obtain ⟨p, ac, x, FF, n, cs, rfl, hS, ok, hn, h6, hc, q⟩ := h
  have nd := scMake.nd
  have hu := hu_of hr
  obtain ⟨t6, g6⟩ := Ct.tabs
  refine ⟨_, pss_cons (ps_if (pt_cmp (pc_din hu (pv 1) (pe_fld (pv 0) rfl))) pss_never pss_nil)
    (pss_cons (ps_if (pt_cmpR op_eq (pe_callB L2.call_lenD (by rfl) N.len PySem.boot_len (pa_cons (pe_fld (pv 0) rfl) pa_nil)) (pe_glob (v := .int 6) (by rfl) g6 ⟨_, rfl⟩) (nomark _)) pss_never pss_nil)
    (pss_cons (ps_dput hu (pe_fld (pv 0) rfl) (pv 1) (pv 2) rfl)
    (pss_cons (ps_dput hu (pe_fld (pv 0) rfl) (pv 1) (pe_callB call_len_seq (by rfl) N.len PySem.boot_len (pa_cons (pe_fld (pv 0) rfl) pa_nil)) rfl)
    (pss_one (ps_dput hu (pe_fld (pv 0) rfl) (pv 1) (pe_lst pa_nil) rfl))))), ?_⟩
  obtain ⟨dx, a, b, c, d, ds, ca, rl, S, hF⟩ := hS
  have lds : ds.length = x.deeds.length := S.deed.length
  have npb : p ≠ b := ne_of S.ins S.cols (fun z => nomatch z)
  have npc : p ≠ c := ne_of S.ins S.made (fun z => nomatch z)
  have npd : p ≠ d := ne_of S.ins S.rows (fun z => nomatch z)
  have nab : a ≠ b := ne_of S.deeds S.cols (fun z => nomatch z)
  have nac : a ≠ c := ne_of S.deeds S.made (fun z => nomatch z)
  have nad : a ≠ d := ne_of S.deeds S.rows (fun z => nomatch z)
  have g0 : DGet H b (.str n) none := by
    have z := DGet.k (k := .inr n) S.cols
    unfold colsK at z
    rw [valV_idx_no (f := fun j => .ref (ca j)) x.tabs 0 hn] at z
    exact z
  refine ⟨_, rfl, _, rfl, p, C, dx, _, _, rfl, S.ins, T.cl, T.nC, sf_c, b, _, rfl, g0, _, rfl, iteF ?_⟩
  have lcols : (colsK x.tabs ca).length = x.tabs.length := by unfold colsK; rw [List.length_map, List.length_zipIdx]
  have lrows : (rowsK x.tabs rl).length = x.tabs.length := by unfold rowsK; rw [List.length_map, List.length_zipIdx]
  have lmade : (madeK x.tabs).length = x.tabs.length := by unfold madeK; rw [List.length_map]
  refine ⟨_, rfl, p, C, dx, _, _, rfl, S.ins, T.cl, T.nC, sf_c, b, _, rfl, S.cols, rfl, _, rfl, iteF' (by rw [decide_eq_true_eq, lcols]; intro z; have := V.int.inj z; omega) ?_⟩
  -- columns
  refine ⟨_, rfl, _, rfl, p, C, dx, _, _, rfl, S.ins, T.cl, T.nC, sf_c, _, rfl, b, _, rfl, DPut.k (k := .inr n) S.cols (by rw [lcols, sizeLine_eq]; omega), ?_⟩
  have pc : putK (colsK x.tabs ca) (.inr n) (.ref ac) = colsK (x.tabs ++ [⟨n, cs, x.deeds.length, []⟩]) (fun i => if i = x.tabs.length then ac else ca i) := by
    rw [putK_new (kvs := colsK x.tabs ca) (valV_idx_no (f := fun j => .ref (ca j)) x.tabs 0 hn), colsK_snoc]
    show _ = _ ++ [((.inr n : Key), V.ref (if x.tabs.length = x.tabs.length then ac else ca x.tabs.length))]
    rw [if_pos rfl]
    congr 1
    exact colsK_ext fun i hi => by rw [if_neg (by omega)]
  have b1 : upd H b (.dK (putK (colsK x.tabs ca) (.inr n) (.ref ac))) b = some (.dK (colsK (x.tabs ++ [⟨n, cs, x.deeds.length, []⟩]) (fun i => if i = x.tabs.length then ac else ca i))) := by rw [upd_same, pc]
  have k1 : ∀ q, q ≠ b → upd H b (.dK (putK (colsK x.tabs ca) (.inr n) (.ref ac))) q = H q := fun q nq => upd_ne nq
  generalize upd H b (.dK (putK (colsK x.tabs ca) (.inr n) (.ref ac))) = H1 at b1 k1 ⊢
  -- made
  have i1 : H1 p = some (.ins C dx (sf a b c d)) := (k1 p npb).trans S.ins
  have c1 : H1 c = some (.dK (madeK x.tabs)) := (k1 c S.bc.symm).trans S.made
  refine ⟨_, rfl, p, C, dx, _, _, rfl, i1, T.cl, T.nD, sf_d, a, _, rfl, .inl (SqL.of ((k1 a nab).trans S.deeds)), _, rfl, p, C, dx, _, _, rfl, i1, T.cl, T.nM, sf_m, _, rfl, c, _, rfl, DPut.k (k := .inr n) c1 (by rw [lmade, sizeLine_eq]; omega), ?_⟩
  have pm : putK (madeK x.tabs) (.inr n) (.int ((ds.length : Nat) : Int)) = madeK (x.tabs ++ [⟨n, cs, x.deeds.length, []⟩]) := by
    rw [putK_new (valV_made_no x.tabs hn), lds]
    unfold madeK
    rw [List.map_append]
    rfl
  have c2 : upd H1 c (.dK (putK (madeK x.tabs) (.inr n) (.int ((ds.length : Nat) : Int)))) c = some (.dK (madeK (x.tabs ++ [⟨n, cs, x.deeds.length, []⟩]))) := by rw [upd_same, pm]
  have k2 : ∀ q, q ≠ c → upd H1 c (.dK (putK (madeK x.tabs) (.inr n) (.int ((ds.length : Nat) : Int)))) q = H1 q := fun q nq => upd_ne nq
  generalize upd H1 c (.dK (putK (madeK x.tabs) (.inr n) (.int ((ds.length : Nat) : Int)))) = H2 at c2 k2 ⊢
  -- rows
  refine ⟨Nat.zero_le _, fun l nl => ?_⟩
  have i2 : H2 p = some (.ins C dx (sf a b c d)) := (k2 p npc).trans i1
  have d2 : H2 d = some (.dK (rowsK x.tabs rl)) := (k2 d S.cd.symm).trans ((k1 d S.bd.symm).trans S.rows)
  have b2 := (k2 b S.bc).trans b1
  have npl : p ≠ l := ne_of_none i2 nl
  have ndl : d ≠ l := ne_of_none d2 nl
  have nbl : b ≠ l := ne_of_none b2 nl
  have ncl : c ≠ l := ne_of_none c2 nl
  have nl0 : H l = none := by
    rw [← k1 l nbl.symm, ← k2 l ncl.symm]
    exact nl
  have d3 : upd H2 l (.lst []) d = some (.dK (rowsK x.tabs rl)) := (upd_ne ndl).trans d2
  refine ⟨_, rfl, p, C, dx, _, _, rfl, (upd_ne npl).trans i2, T.cl, T.nR, sf_r, _, rfl, d, _, rfl, DPut.k (k := .inr n) d3 (by rw [lrows, sizeLine_eq]; omega), ?_⟩
  have pr : putK (rowsK x.tabs rl) (.inr n) (.ref l) = rowsK (x.tabs ++ [⟨n, cs, x.deeds.length, []⟩]) (fun i => if i = x.tabs.length then l else rl i) := by
    rw [putK_new (kvs := rowsK x.tabs rl) (valV_idx_no (f := fun j => .ref (rl j)) x.tabs 0 hn), rowsK_snoc]
    show _ = _ ++ [((.inr n : Key), V.ref (if x.tabs.length = x.tabs.length then l else rl x.tabs.length))]
    rw [if_pos rfl]
    congr 1
    exact colsK_ext (ca := rl) (cb := fun i => if i = x.tabs.length then l else rl i) fun i hi => by rw [if_neg (by omega)]
  rw [pr]
  obtain ⟨H4, eH4⟩ : ∃ H4, H4 = upd (upd H2 l (.lst [])) d (.dK (rowsK (x.tabs ++ [⟨n, cs, x.deeds.length, []⟩]) (fun i => if i = x.tabs.length then l else rl i))) := ⟨_, rfl⟩
  rw [← eH4]
  have k4 : ∀ q, q ≠ b → q ≠ c → q ≠ d → q ≠ l → H4 q = H q := fun q q1 q2 q3 q4 => by rw [eH4, upd_ne q3, upd_ne q4, k2 q q2, k1 q q1]
  have tp : Tups K H H4 := tups_off fun q o e n1 n2 n3 => by
    rw [k4 q (fun z => n1 _ (by rw [z, S.cols] at e; exact (Option.some.inj e).symm)) (fun z => n1 _ (by rw [z, S.made] at e; exact (Option.some.inj e).symm)) (fun z => n1 _ (by rw [z, S.rows] at e; exact (Option.some.inj e).symm)) (ne_of_none e nl0)]
    exact e
  have nal : a ≠ l := ne_of_none S.deeds nl0
  have rlk : ∀ i, i < x.tabs.length → rl i ≠ l ∧ H4 (rl i) = H (rl i) := fun i hi => by
    obtain ⟨vs, e, _⟩ := S.rowAt i _ (List.getElem?_eq_getElem hi)
    have z := ne_of_none e nl0
    exact ⟨z, k4 _ (ne_of e S.cols (fun z => nomatch z)) (ne_of e S.made (fun z => nomatch z)) (ne_of e S.rows (fun z => nomatch z)) z⟩
  have split : ∀ i t, (x.tabs ++ [⟨n, cs, x.deeds.length, []⟩])[i]? = some t → (i < x.tabs.length ∧ x.tabs[i]? = some t) ∨ (i = x.tabs.length ∧ t = ⟨n, cs, x.deeds.length, []⟩) := fun i t e => by
    by_cases hi : i < x.tabs.length
    · rw [List.getElem?_append_left hi] at e
      exact .inl ⟨hi, e⟩
    · rw [List.getElem?_append_right (by omega)] at e
      have z : i - x.tabs.length = 0 := by
        have := (List.getElem?_eq_some_iff.mp e).1
        simp at this
        omega
      rw [z] at e
      exact .inr ⟨by omega, (by simpa using e.symm)⟩
  refine q H4 (foot p a b c d (x.tabs.length + 1) (fun i => if i = x.tabs.length then l else rl i)) ⟨dx, a, b, c, d, ds, (fun i => if i = x.tabs.length then ac else ca i), (fun i => if i = x.tabs.length then l else rl i), ⟨?_, ?_, S.deed.mono fun v e ⟨t, h1, h2⟩ => ⟨t, h1, h2.tups tp⟩, ?_, fun i t e => ?_, ?_, ?_, fun i t e => ?_, S.bc, S.bd, S.cd, fun i j hi hj e => ?_, fun i hi => ?_⟩, fun r => by rw [List.length_append]; exact Iff.rfl⟩ ⟨fun r o nf e => ?_, fun r hr' => ?_⟩
  · rw [eH4, upd_ne npd, upd_ne npl]
    exact i2
  · rw [k4 a nab nac nad nal]
    exact S.deeds
  · rw [eH4, upd_ne S.bd, upd_ne nbl]
    exact b2
  · rcases split i t e with ⟨hi, e⟩ | ⟨rfl, rfl⟩
    · rw [if_neg (by omega)]
      exact tp _ _ (S.colAt i t e)
    · rw [if_pos rfl]
      exact tp _ _ hc
  · rw [eH4, upd_ne S.cd, upd_ne ncl]
    exact c2
  · rw [eH4, upd_same]
  · rcases split i t e with ⟨hi, e⟩ | ⟨rfl, rfl⟩
    · rw [if_neg (by omega)]
      obtain ⟨vs, e1, e2⟩ := S.rowAt i t e
      exact ⟨vs, (rlk i hi).2.trans e1, e2.tups tp⟩
    · rw [if_pos rfl]
      exact ⟨[], by rw [eH4, upd_ne ndl.symm, upd_same], .nil⟩
  · have hi : i < x.tabs.length + 1 := by simpa using hi
    have hj : j < x.tabs.length + 1 := by simpa using hj
    by_cases zi : i = x.tabs.length
    · by_cases zj : j = x.tabs.length
      · omega
      · rw [if_pos zi, if_neg zj] at e
        exact absurd e.symm (rlk j (by omega)).1
    · by_cases zj : j = x.tabs.length
      · rw [if_neg zi, if_pos zj] at e
        exact absurd e (rlk i (by omega)).1
      · rw [if_neg zi, if_neg zj] at e
        exact S.apart i j (by omega) (by omega) e
  · have hi : i < x.tabs.length + 1 := by simpa using hi
    by_cases zi : i = x.tabs.length
    · rw [if_pos zi]
      exact nal.symm
    · rw [if_neg zi]
      exact S.offA i (by omega)
  · have nf : ¬ foot p a b c d x.tabs.length rl r := fun z => nf ((hF r).mpr z)
    unfold foot at nf
    simp only [not_or] at nf
    rw [k4 r nf.2.2.1 nf.2.2.2.1 nf.2.2.2.2.1 (ne_of_none e nl0)]
    exact e
  · rw [hF]
    rcases hr' with z | z | z | z | z | ⟨i, hi, z⟩
    · exact .inl (.inl z)
    · exact .inl (.inr (.inl z))
    · exact .inl (.inr (.inr (.inl z)))
    · exact .inl (.inr (.inr (.inr (.inl z))))
    · exact .inl (.inr (.inr (.inr (.inr (.inl z)))))
    · dsimp only at z
      by_cases zi : i = x.tabs.length
      · rw [if_pos zi] at z
        rw [z]
        exact .inr nl0
      · rw [if_neg zi] at z
        exact .inl (.inr (.inr (.inr (.inr (.inr ⟨i, by omega, z⟩)))))
end
end K07t
end

section
set_option Elab.async false
set_option linter.all false
set_option maxRecDepth 100000
set_option maxHeartbeats 4000000
/-! Tables: a row put, a row taken out. -/
namespace K07t
open PySem PySem.Spec PyProof.Rows L2 Gd
abbrev sPut : Stmt := inClass (topS 37) 3
abbrev sOut : Stmt := inClass (topS 37) 4
abbrev nPut : List Str := ["self", "name", "worths", "number"]
theorem scPut : FnScope nPut ["self", "name", "worths"] (defScope sPut) := ⟨rfl, rfl, rfl, by decide +kernel, rfl, by decide +kernel, by decide +kernel⟩
abbrev nOut : List Str := ["self", "name", "number", "worths", "put", "out"]
theorem scOut : FnScope nOut ["self", "name", "number"] (defScope sOut) := ⟨rfl, rfl, rfl, by decide +kernel, rfl, by decide +kernel, by decide +kernel⟩
/-- the rows of one table changed -/
def Shelf.onRows (x : Shelf) (n : Str) (g : List Rw → List Rw) : Shelf := { x with tabs := x.tabs.map (onTab n fun t => { t with rows := g t.rows }) }
theorem onTab_same (n : Str) (g : List Rw → List Rw) (t : Tab) : (onTab n (fun t => { t with rows := g t.rows }) t).name = t.name ∧ (onTab n (fun t => { t with rows := g t.rows }) t).cols = t.cols ∧ (onTab n (fun t => { t with rows := g t.rows }) t).made = t.made := by
  unfold onTab
  split
  · exact ⟨rfl, rfl, rfl⟩
  · exact ⟨rfl, rfl, rfl⟩
theorem colsK_on (n : Str) (g : List Rw → List Rw) (ts : List Tab) (ca : Nat → Addr) : colsK (ts.map (onTab n fun t => { t with rows := g t.rows })) ca = colsK ts ca := by
  unfold colsK
  rw [List.zipIdx_map, List.map_map]
  refine List.map_congr_left fun p _ => ?_
  show ((.inr (onTab n _ p.1).name : Key), _) = _
  rw [(onTab_same n g p.1).1]
  rfl
theorem madeK_on (n : Str) (g : List Rw → List Rw) (ts : List Tab) : madeK (ts.map (onTab n fun t => { t with rows := g t.rows })) = madeK ts := by
  unfold madeK
  rw [List.map_map]
  refine List.map_congr_left fun t _ => ?_
  show ((.inr (onTab n _ t).name : Key), V.int ((onTab n _ t).made : Nat)) = _
  rw [(onTab_same n g t).1, (onTab_same n g t).2.2]
theorem name_inj {ts : List Tab} (nd : (ts.map Tab.name).Nodup) {i j : Nat} {t u : Tab} (hi : ts[i]? = some t) (hj : ts[j]? = some u) (e : t.name = u.name) : i = j := by
  obtain ⟨li, ei⟩ := List.getElem?_eq_some_iff.mp hi
  obtain ⟨lj, ej⟩ := List.getElem?_eq_some_iff.mp hj
  have := (List.getElem_inj (i := i) (j := j) (h₀ := by rw [List.length_map]; exact li) (h₁ := by rw [List.length_map]; exact lj) nd).mp (by rw [List.getElem_map, List.getElem_map, ei, ej, e])
  exact this
section
variable {K : PySem.W.Frag} {C : Addr} {H H' : Hp} {p dx a b c d : Addr} {x : Shelf} {ds : List V} {ca rl : Nat → Addr}
theorem ShelfAt.change (S : ShelfAt K C H p x dx a b c d ds ca rl) (nd : (x.tabs.map Tab.name).Nodup) {i : Nat} {t : Tab} (ht : x.tabs[i]? = some t) (g : List Rw → List Rw) {vs' : List V} (e1 : H' (rl i) = some (.lst vs')) (e2 : RowsAt K H' vs' (g t.rows))
    (k : ∀ q o, q ≠ rl i → H q = some o → H' q = some o) : ShelfAt K C H' p (x.onRows t.name g) dx a b c d ds ca rl := by
  have li : i < x.tabs.length := (List.getElem?_eq_some_iff.mp ht).1
  obtain ⟨vs, ev, hv⟩ := S.rowAt i t ht
  have tp : Tups K H H' := by
    intro q ys z
    have ne : ∀ {o : HO}, H q = some o → (∀ xs, o ≠ .lst xs) → q ≠ rl i := fun z1 n e => by
      rw [e, ev] at z1
      exact n _ (Option.some.inj z1).symm
    rcases z with (z | ⟨o, z⟩) | z
    · exact .inl (.inl (k _ _ (ne z (fun _ y => nomatch y)) z))
    · exact .inl (.inr ⟨o, k _ _ (ne z (fun _ y => nomatch y)) z⟩)
    · exact .inr z
  have nm : ∀ (j : Nat) (u : Tab), (x.onRows t.name g).tabs[j]? = some u → ∃ t0, x.tabs[j]? = some t0 ∧ u = onTab t.name (fun t => { t with rows := g t.rows }) t0 := fun j u e => by
    have e : (x.tabs.map (onTab t.name fun t => { t with rows := g t.rows }))[j]? = some u := e
    rw [List.getElem?_map, Option.map_eq_some_iff] at e
    obtain ⟨t0, z, rfl⟩ := e
    exact ⟨t0, z, rfl⟩
  have ln : (x.onRows t.name g).tabs.length = x.tabs.length := List.length_map _
  refine ⟨k _ _ (ne_of S.ins ev (fun z => nomatch z)) S.ins, k _ _ (S.offA i li).symm S.deeds, S.deed.mono fun v e ⟨q, h1, h2⟩ => ⟨q, h1, h2.tups tp⟩, ?_, fun j u e => ?_, ?_, ?_, fun j u e => ?_, S.bc, S.bd, S.cd, fun j1 j2 h1 h2 e => S.apart j1 j2 (by rw [← ln]; exact h1) (by rw [← ln]; exact h2) e, fun j hj => S.offA j (by rw [← ln]; exact hj)⟩
  · rw [show colsK (x.onRows t.name g).tabs ca = colsK x.tabs ca from colsK_on _ _ _ _]
    exact k _ _ (ne_of S.cols ev (fun z => nomatch z)) S.cols
  · obtain ⟨t0, z, rfl⟩ := nm j u e
    rw [(onTab_same t.name g t0).2.1]
    exact tp _ _ (S.colAt j t0 z)
  · rw [show madeK (x.onRows t.name g).tabs = madeK x.tabs from madeK_on _ _ _]
    exact k _ _ (ne_of S.made ev (fun z => nomatch z)) S.made
  · rw [show rowsK (x.onRows t.name g).tabs rl = rowsK x.tabs rl from colsK_on _ _ _ _]
    exact k _ _ (ne_of S.rows ev (fun z => nomatch z)) S.rows
  · obtain ⟨t0, z, rfl⟩ := nm j u e
    by_cases ij : j = i
    · subst ij
      rw [ht] at z
      cases z
      refine ⟨vs', e1, ?_⟩
      unfold onTab
      rw [if_pos rfl]
      exact e2
    · have lj : j < x.tabs.length := (List.getElem?_eq_some_iff.mp z).1
      obtain ⟨ws, f1, f2⟩ := S.rowAt j t0 z
      refine ⟨ws, k _ _ (fun y => ij (S.apart j i lj li y)) f1, ?_⟩
      unfold onTab
      rw [if_neg (fun y => ij (name_inj nd z ht y))]
      exact f2.tups tp
end
theorem each_snoc {α β : Type} {R : α → β → Prop} : ∀ {as : List α} {bs : List β} {a : α} {b : β}, PySem.W.EachIs R as bs → R a b → PySem.W.EachIs R (as ++ [a]) (bs ++ [b])
  | _, _, _, _, .nil, h => .cons h .nil
  | _, _, _, _, .cons h t, k => .cons h (each_snoc t k)
def spPut (K : PySem.W.Frag) (C : Addr) : Sp := fun vs H Q _ => ∃ (p aw : Addr) (x : Shelf) (F : Addr → Prop) (i : Nat) (t : Tab) (ws : List Int), vs = [.ref p, .str t.name, .ref aw] ∧ ShelfF K C H p x F ∧ ShelfOk x ∧ x.tabs[i]? = some t ∧ t.rows.length < 60 ∧ SqT K H aw (ws.map V.int) ∧ ws.length = t.cols.length ∧
  ∀ H', ShelfF K C H' p (x.onRows t.name fun rs => rs ++ [⟨ws, x.deeds.length, none⟩]) F → After H F H' F → Q (.int t.rows.length) H'
section
variable {P : Program} {w : World} {K : PySem.W.Frag} {mg : Str → Option Value} {base : Heap} {f pS C : Addr} {fd : FuncData}
theorem ok_put (F : Fun K "_put" "Tables._put" sPut f fd) (T : TxtT K mg C) (N : Cs K mg pS) (Ct : Ct mg) : FnOk P w K mg base CX0 1 f fd ["self", "name", "worths"] (spPut K C) := by
  refine F.ok scPut (fun vs H Q E h => ?_) (fun cdv A outer s H vs Q E hr h => ?_)
  · obtain ⟨p, ac, x, F, i, t, cs, rfl, _⟩ := h
    rfl
  obtain ⟨p, aw, x, FF, i, t, ws, rfl, hS, ok, ht, h60, hw, hl, q⟩ := h
  have nd := scPut.nd
  have hu := hu_of hr
  obtain ⟨t6, g6⟩ := Ct.rows
  refine ⟨_, pss_cons (ps_if (pt_cmp (pc_dnotin hu (pv 1) (pe_fld (pv 0) rfl))) pss_never pss_nil)
    (pss_cons (ps_set (i := 3) nd rfl (.inl rfl) (pe_callB call_len_seq (by rfl) N.len PySem.boot_len (pa_cons (pe_dget hu (pe_fld (pv 0) rfl) (pv 1) (fun _ _ => rfl)) pa_nil)))
    (pss_cons (ps_if (pt_cmpR op_eq (pv 3) (pe_glob (v := .int 60) (by rfl) g6 ⟨_, rfl⟩) (nomark _)) pss_never pss_nil)
    (pss_cons (ps_if (pt_cmpR op_ne (pe_callB call_len_seq (by rfl) N.len PySem.boot_len (pa_cons (pv 2) pa_nil)) (pe_callB call_len_seq (by rfl) N.len PySem.boot_len (pa_cons (pe_dget hu (pe_fld (pv 0) rfl) (pv 1) (fun _ _ => rfl)) pa_nil)) (nomark _)) pss_never pss_nil)
    (pss_cons (ps_expr (pe_bm PySem.F.plainAttrs_list PySem.F.slot_list_append PySem.F.type_list_append mt_append (pe_dget hu (pe_fld (pv 0) rfl) (pv 1) (fun _ _ => rfl)) (pa_cons (pe_tup (pa_cons (pv 2) (pa_cons (pe_callB call_len_seq (by rfl) N.len PySem.boot_len (pa_cons (pe_fld (pv 0) rfl) pa_nil)) (pa_cons pe_non pa_nil)))) pa_nil)))
    (pss_one (ps_ret (pv 3))))))), ?_⟩
  obtain ⟨dx, a, b, c, d, ds, ca, rl, S, hF⟩ := hS
  have lds : ds.length = x.deeds.length := S.deed.length
  have li : i < x.tabs.length := (List.getElem?_eq_some_iff.mp ht).1
  have gc : ∀ {G : Hp}, Same H G → DGet G b (.str t.name) (some (.ref (ca i))) := fun s1 => by
    have z := DGet.k (k := .inr t.name) (s1 _ _ S.cols)
    unfold colsK at z
    rw [valV_idx (f := fun j => .ref (ca j)) x.tabs 0 i t ok.nd ht, Nat.zero_add] at z
    exact z
  have gr : ∀ {G : Hp}, Same H G → DGet G d (.str t.name) (some (.ref (rl i))) := fun s1 => by
    have z := DGet.k (k := .inr t.name) (s1 _ _ S.rows)
    unfold rowsK at z
    rw [valV_idx (f := fun j => .ref (rl j)) x.tabs 0 i t ok.nd ht, Nat.zero_add] at z
    exact z
  obtain ⟨vs, ev, hv⟩ := S.rowAt i t ht
  have lv : vs.length = t.rows.length := hv.length
  have s0 := Same.refl H
  refine ⟨_, rfl, _, rfl, p, C, dx, _, _, rfl, S.ins, T.cl, T.nC, sf_c, b, _, rfl, gc s0, _, rfl, iteF ?_⟩
  refine ⟨_, rfl, p, C, dx, _, _, rfl, S.ins, T.cl, T.nR, sf_r, _, rfl, d, _, rfl, gr s0, rl i, _, rfl, .inl (SqL.of ev), ?_⟩
  refine ⟨_, rfl, rfl, _, rfl, iteF' (by rw [decide_eq_true_eq, lv]; intro z; have := V.int.inj z; omega) ?_⟩
  refine ⟨_, rfl, aw, _, rfl, .inr hw, _, rfl, p, C, dx, _, _, rfl, S.ins, T.cl, T.nC, sf_c, _, rfl, b, _, rfl, gc s0, ca i, _, rfl, .inr (S.colAt i t ht), rfl, _, rfl, iteF' (by rw [List.length_map, List.length_map, hl]; simp) ?_⟩
  refine ⟨_, rfl, p, C, dx, _, _, rfl, S.ins, T.cl, T.nR, sf_r, _, rfl, d, _, rfl, gr s0, .inl ⟨rfl, _, SqL.of ev⟩, _, rfl, _, rfl, p, C, dx, _, _, rfl, S.ins, T.cl, T.nD, sf_d, a, _, rfl, .inl (SqL.of S.deeds), (by show 3 ≤ sizeLine; decide), fun r nr => ?_⟩
  have jr := new_same (o := .tup [.ref aw, .int ((ds.length : Nat) : Int), .non]) nr
  have er : upd H r (.tup [.ref aw, .int ((ds.length : Nat) : Int), .non]) r = some (.tup [.ref aw, .int ((ds.length : Nat) : Int), .non]) := upd_same
  generalize upd H r (.tup [.ref aw, .int ((ds.length : Nat) : Int), .non]) = H1 at jr er ⊢
  have ev1 := jr _ _ ev
  refine ⟨rl i, vs, _, rfl, rfl, ev1, by rw [lv, sizeLine_eq]; omega, _, rfl, ?_⟩
  rw [lv]
  have kk : ∀ q o, q ≠ rl i → H q = some o → upd H1 (rl i) (.lst (vs ++ [.ref r])) q = some o := fun q o ne e => by
    rw [upd_ne ne]
    exact jr _ _ e
  have tp1 : Tups K H1 (upd H1 (rl i) (.lst (vs ++ [.ref r]))) := .upd_lst ev1
  have hv2 : RowsAt K (upd H1 (rl i) (.lst (vs ++ [.ref r]))) (vs ++ [.ref r]) (t.rows ++ [⟨ws, x.deeds.length, none⟩]) := by
    refine each_snoc ((RowsAt.tups (Tups.of_same jr) hv).tups tp1) ⟨r, aw, rfl, tp1 _ _ (SqT.of ?_), tp1 _ _ (Tups.of_same jr _ _ hw)⟩
    rw [er, lds]
    rfl
  refine q _ ⟨dx, a, b, c, d, ds, ca, rl, S.change ok.nd ht (fun rs => rs ++ [⟨ws, x.deeds.length, none⟩]) upd_same hv2 kk, fun y => ?_⟩ ⟨fun y o nf e => kk y o (fun z => nf ((hF y).mpr (.inr (.inr (.inr (.inr (.inr ⟨i, li, z⟩))))))) e, fun y hy => .inl hy⟩
  rw [hF, show (x.onRows t.name fun rs => rs ++ [⟨ws, x.deeds.length, none⟩]).tabs.length = x.tabs.length from List.length_map _]
end
end K07t
end

section
set_option Elab.async false
set_option linter.all false
set_option maxRecDepth 100000
set_option maxHeartbeats 4000000
/-! Tables: a row taken out. -/
namespace K07t
open PySem PySem.Spec PyProof.Rows L2 Gd
theorem each_set {α β : Type} {R : α → β → Prop} {a : α} {b : β} (k : R a b) : ∀ {as : List α} {bs : List β} (i : Nat), PySem.W.EachIs R as bs → PySem.W.EachIs R (as.set i a) (bs.set i b)
  | _, _, _, .nil => .nil
  | _, _, 0, .cons _ t => .cons k t
  | _, _, i + 1, .cons h t => .cons h (each_set k i t)
theorem each_get {α β : Type} {R : α → β → Prop} : ∀ {as : List α} {bs : List β} {i : Nat} {b : β}, PySem.W.EachIs R as bs → bs[i]? = some b → ∃ a, as[i]? = some a ∧ R a b
  | _, _, _, _, .nil, h => by simp at h
  | _, _, 0, _, .cons (a := a) h _, e => by
    cases (show some _ = some _ from e)
    exact ⟨a, rfl, h⟩
  | _, _, i + 1, _, .cons _ t, e => each_get t (i := i) (by simpa using e)
def spOut (K : PySem.W.Frag) (C : Addr) : Sp := fun vs H Q _ => ∃ (p : Addr) (x : Shelf) (F : Addr → Prop) (i : Nat) (t : Tab) (k : Nat) (r : Rw), vs = [.ref p, .str t.name, .int k] ∧ ShelfF K C H p x F ∧ ShelfOk x ∧ x.tabs[i]? = some t ∧ t.rows[k]? = some r ∧ r.out = none ∧
  ∀ H', ShelfF K C H' p (x.onRows t.name fun rs => rs.set k ⟨r.ws, r.put, some x.deeds.length⟩) F → After H F H' F → Q .non H'
section
variable {P : Program} {w : World} {K : PySem.W.Frag} {mg : Str → Option Value} {base : Heap} {f pS C : Addr} {fd : FuncData}
theorem ok_out (F : Fun K "_take_out" "Tables._take_out" sOut f fd) (T : TxtT K mg C) (N : Cs K mg pS) : FnOk P w K mg base CX0 1 f fd ["self", "name", "number"] (spOut K C) := by
  refine F.ok scOut (fun vs H Q E h => ?_) (fun cdv A outer s H vs Q E hr h => ?_)
  · obtain ⟨p, x, F, i, t, k, r, rfl, _⟩ := h
    rfl
  obtain ⟨p, x, FF, i, t, k, r, rfl, hS, ok, ht, hk, ho, q⟩ := h
  have nd := scOut.nd
  have hu := hu_of hr
  refine ⟨_, pss_cons (ps_if (pt_cmp (pc_dnotin hu (pv 1) (pe_fld (pv 0) rfl))) pss_never pss_nil)
    (pss_cons (ps_if (pt_cmpR op_ge (pv 2) (pe_callB call_len_seq (by rfl) N.len PySem.boot_len (pa_cons (pe_dget hu (pe_fld (pv 0) rfl) (pv 1) (fun _ _ => rfl)) pa_nil)) (nomark _)) pss_never pss_nil)
    (pss_cons (ps_asg (pe_ix ix_list (pe_dget hu (pe_fld (pv 0) rfl) (pv 1) (fun _ _ => rfl)) (pv 2) (fun _ _ => rfl)) (pg_tup (n := 3) rfl (pgs_cons (pg_name (i := 3) nd rfl (.inl rfl)) (pgs_cons (pg_name (i := 4) nd rfl (.inl rfl)) (pgs_cons (pg_name (i := 5) nd rfl (.inl rfl)) pgs_nil)))))
    (pss_cons (ps_if (pt_cmpR op_notN (pv 5) pe_non (nomark _)) pss_never pss_nil)
    (pss_one (ps_asg (pe_tup (pa_cons (pv 3) (pa_cons (pv 4) (pa_cons (pe_callB call_len_seq (by rfl) N.len PySem.boot_len (pa_cons (pe_fld (pv 0) rfl) pa_nil)) pa_nil)))) (pg_sub (pe_dget hu (pe_fld (pv 0) rfl) (pv 1) (fun _ _ => rfl)) (pv 2) set_list)))))), ?_⟩
  obtain ⟨dx, a, b, c, d, ds, ca, rl, S, hF⟩ := hS
  have lds : ds.length = x.deeds.length := S.deed.length
  have li : i < x.tabs.length := (List.getElem?_eq_some_iff.mp ht).1
  have gc : ∀ {G : Hp}, Same H G → DGet G b (.str t.name) (some (.ref (ca i))) := fun s1 => by
    have z := DGet.k (k := .inr t.name) (s1 _ _ S.cols)
    unfold colsK at z
    rw [valV_idx (f := fun j => .ref (ca j)) x.tabs 0 i t ok.nd ht, Nat.zero_add] at z
    exact z
  have gr : ∀ {G : Hp}, Same H G → DGet G d (.str t.name) (some (.ref (rl i))) := fun s1 => by
    have z := DGet.k (k := .inr t.name) (s1 _ _ S.rows)
    unfold rowsK at z
    rw [valV_idx (f := fun j => .ref (rl j)) x.tabs 0 i t ok.nd ht, Nat.zero_add] at z
    exact z
  obtain ⟨vs, ev, hv⟩ := S.rowAt i t ht
  have lv : vs.length = t.rows.length := hv.length
  have lk : k < t.rows.length := (List.getElem?_eq_some_iff.mp hk).1
  have s0 := Same.refl H
  obtain ⟨v0, hv0, ra, wa, rfl, hra, hwa⟩ := each_get hv hk
  refine ⟨_, rfl, _, rfl, p, C, dx, _, _, rfl, S.ins, T.cl, T.nC, sf_c, b, _, rfl, gc s0, _, rfl, iteF ?_⟩
  refine ⟨_, rfl, _, rfl, p, C, dx, _, _, rfl, S.ins, T.cl, T.nR, sf_r, _, rfl, d, _, rfl, gr s0, rl i, _, rfl, .inl (SqL.of ev), _, _, rfl, rfl, _, rfl, iteF' (by rw [decide_eq_true_eq, lv]; omega) ?_⟩
  refine ⟨_, rfl, p, C, dx, _, _, rfl, S.ins, T.cl, T.nR, sf_r, _, rfl, d, _, rfl, gr s0, _, rfl, rl i, vs, _, .ref ra, rfl, rfl, SqL.of ev, atI_nat hv0, ra, _, rfl, hra, rfl, _, _, rfl, _, _, rfl, _, _, rfl, rfl, ?_⟩
  rw [ho]
  refine ⟨_, rfl, rfl, _, rfl, iteF' (by show ¬ (!decide (V.non = V.non)) = true; simp) ?_⟩
  refine ⟨_, rfl, _, rfl, _, rfl, p, C, dx, _, _, rfl, S.ins, T.cl, T.nD, sf_d, a, _, rfl, .inl (SqL.of S.deeds), (by show 3 ≤ sizeLine; decide), fun r2 nr => ?_⟩
  have jr := new_same (o := .tup [.ref wa, .int ((r.put : Nat) : Int), .int ((ds.length : Nat) : Int)]) nr
  have er : upd H r2 (.tup [.ref wa, .int ((r.put : Nat) : Int), .int ((ds.length : Nat) : Int)]) r2 = some (.tup [.ref wa, .int ((r.put : Nat) : Int), .int ((ds.length : Nat) : Int)]) := upd_same
  generalize upd H r2 (.tup [.ref wa, .int ((r.put : Nat) : Int), .int ((ds.length : Nat) : Int)]) = H1 at jr er ⊢
  have ev1 := jr _ _ ev
  refine ⟨_, rfl, p, C, dx, _, _, rfl, jr _ _ S.ins, T.cl, T.nR, sf_r, _, rfl, d, _, rfl, gr jr, _, rfl, rl i, vs, _, k, rfl, rfl, ev1, (by unfold ixN; rw [if_pos (by omega), if_pos (by omega)]; simp), ?_⟩
  have kk : ∀ q o, q ≠ rl i → H q = some o → upd H1 (rl i) (.lst (vs.set k (.ref r2))) q = some o := fun q o ne e => by
    rw [upd_ne ne]
    exact jr _ _ e
  have tp1 : Tups K H1 (upd H1 (rl i) (.lst (vs.set k (.ref r2)))) := .upd_lst ev1
  have hv2 : RowsAt K (upd H1 (rl i) (.lst (vs.set k (.ref r2)))) (vs.set k (.ref r2)) (t.rows.set k ⟨r.ws, r.put, some x.deeds.length⟩) := by
    refine each_set ⟨r2, wa, rfl, tp1 _ _ (SqT.of ?_), tp1 _ _ (Tups.of_same jr _ _ hwa)⟩ k ((RowsAt.tups (Tups.of_same jr) hv).tups tp1)
    rw [er, lds]
    rfl
  refine q _ ⟨dx, a, b, c, d, ds, ca, rl, S.change ok.nd ht (fun rs => rs.set k ⟨r.ws, r.put, some x.deeds.length⟩) upd_same hv2 kk, fun y => ?_⟩ ⟨fun y o nf e => kk y o (fun z => nf ((hF y).mpr (.inr (.inr (.inr (.inr (.inr ⟨i, li, z⟩))))))) e, fun y hy => .inl hy⟩
  rw [hF, show (x.onRows t.name fun rs => rs.set k ⟨r.ws, r.put, some x.deeds.length⟩).tabs.length = x.tabs.length from List.length_map _]
end
end K07t
end

section
set_option Elab.async false
set_option linter.all false
set_option maxRecDepth 100000
set_option maxHeartbeats 4000000
/-! Tables: a deed done. -/
namespace K07t
open PySem PySem.Spec PyProof.Rows L2 Gd
abbrev sDo : Stmt := inClass (topS 37) 1
abbrev nDo : List Str := ["self", "deed", "word", "name", "what", "number"]
theorem scDo : FnScope nDo ["self", "deed"] (defScope sDo) := ⟨rfl, rfl, rfl, by decide +kernel, rfl, by decide +kernel, by decide +kernel⟩
/-- a deed that can be done, and what stands behind it but for the list of deeds -/
def Can (x : Shelf) : Deed → Shelf → Prop
  | .table n cs, y => n ∉ x.tabs.map Tab.name ∧ x.tabs.length < 6 ∧ y = { x with tabs := x.tabs ++ [⟨n, cs, x.deeds.length, []⟩] }
  | .row n ws, y => ∃ (i : Nat) (t : Tab), x.tabs[i]? = some t ∧ t.name = n ∧ t.rows.length < 60 ∧ ws.length = t.cols.length ∧ y = x.onRows n fun rs => rs ++ [⟨ws, x.deeds.length, none⟩]
  | .out n k, y => ∃ (i : Nat) (t : Tab) (r : Rw), x.tabs[i]? = some t ∧ t.name = n ∧ t.rows[k]? = some r ∧ r.out = none ∧ y = x.onRows n fun rs => rs.set k ⟨r.ws, r.put, some x.deeds.length⟩
theorem Can.deeds {x y : Shelf} {d : Deed} (h : Can x d y) : y.deeds = x.deeds := by
  cases d with
  | table n cs => rw [h.2.2]
  | row n ws =>
    obtain ⟨i, t, _, _, _, _, rfl⟩ := h
    rfl
  | out n k =>
    obtain ⟨i, t, r, _, _, _, _, rfl⟩ := h
    rfl
def spDo (K : PySem.W.Frag) (C : Addr) : Sp := fun vs H Q _ => ∃ (p t : Addr) (x y : Shelf) (F : Addr → Prop) (d : Deed), vs = [.ref p, .ref t] ∧ ShelfF K C H p x F ∧ ShelfOk x ∧ x.deeds.length < 4000 ∧ DeedAt K H t d ∧ DeedOk d ∧ Can x d y ∧
  ∀ H' F' v, ShelfF K C H' p { y with deeds := x.deeds ++ [d] } F' → After H F H' F' → Q v H'
section
variable {K : PySem.W.Frag} {C : Addr} {H H1 H' : Hp} {p : Addr} {x y : Shelf} {F F' F1 : Addr → Prop}
theorem After.tups (h : ShelfF K C H p x F) (a : After H F H' F') : Tups K H H' := by
  intro q ys z
  have ne : ∀ {o : HO}, H q = some o → (∀ kvs, o ≠ .dK kvs) → (∀ xs, o ≠ .lst xs) → (∀ C dx fs, o ≠ .ins C dx fs) → ¬ F q := fun z1 n1 n2 n3 hq => by
    rcases h.kind hq with ⟨dx, fs, e⟩ | ⟨xs, e⟩ | ⟨kvs, e⟩
    · rw [e] at z1
      exact n3 _ _ _ (Option.some.inj z1).symm
    · rw [e] at z1
      exact n2 _ (Option.some.inj z1).symm
    · rw [e] at z1
      exact n1 _ (Option.some.inj z1).symm
  rcases z with (z | ⟨o, z⟩) | z
  · exact .inl (.inl (a.off _ _ (ne z (fun _ y => nomatch y) (fun _ y => nomatch y) (fun _ _ _ y => nomatch y)) z))
  · exact .inl (.inr ⟨o, a.off _ _ (ne z (fun _ y => nomatch y) (fun _ y => nomatch y) (fun _ _ _ y => nomatch y)) z⟩)
  · exact .inr z
theorem After.ofSame (s : Same H H1) (a : After H1 F H' F') : After H F H' F' := ⟨fun b o nf e => a.off b o nf (s _ _ e), fun b hb => (a.new b hb).imp id fun z => s.free z⟩
end
section
variable {P : Program} {w : World} {K : PySem.W.Frag} {mg : Str → Option Value} {base : Heap} {f fD pS C : Addr} {fd dD : FuncData}
theorem ok_do (F : Fun K "do" "Tables.do" sDo f fd) (T : TxtT K mg C)
    (FD : Fun K "_is_deed" "_is_deed" sDeed fD dD) (GD : FnOk P w K mg base CX0 3 fD dD ["thing"] (spDeed K)) (gD : mg "_is_deed" = some (.ref fD)) (bD : Binds K dD ["thing"] [])
    (MM : Mt P w K mg base C "_make" ["self", "name", "columns"] CX0 1 (spMake K C)) (MP : Mt P w K mg base C "_put" ["self", "name", "worths"] CX0 1 (spPut K C)) (MO : Mt P w K mg base C "_take_out" ["self", "name", "number"] CX0 1 (spOut K C)) :
    FnOk P w K mg base CX0 4 f fd ["self", "deed"] (spDo K C) := by
  refine F.ok scDo (fun vs H Q E h => ?_) (fun cdv A outer s H vs Q E hr h => ?_)
  · obtain ⟨p, t, x, y, F, d, rfl, _⟩ := h
    rfl
  obtain ⟨p, t, x, y, FF, d, rfl, hS, ok, h4, hd, dok, can, q⟩ := h
  obtain ⟨fM, dM, mM, GM, bM⟩ := MM.ex
  obtain ⟨fP, dP, mP, GP, bP⟩ := MP.ex
  obtain ⟨fO, dO, mO, GO, bO⟩ := MO.ex
  have nd := scDo.nd
  have r1 : Room 1 _ := hr.mono (by decide)
  refine ⟨_, pss_cons (ps_if (pt_not (pt_val (pe_call GD hr (by rfl) gD FD.kp bD .nil pass0 (pa_cons (pv 1) pa_nil)))) pss_never pss_nil)
    (pss_cons (ps_asg (pv 1) (pg_tup (n := 3) rfl (pgs_cons (pg_name (i := 2) nd rfl (.inl rfl)) (pgs_cons (pg_name (i := 3) nd rfl (.inl rfl)) (pgs_cons (pg_name (i := 4) nd rfl (.inl rfl)) pgs_nil)))))
    (pss_cons (ps_set (i := 5) nd rfl (.inl rfl) pe_non)
    (C8.pss_cut (ps_if (pt_cmpR op_eq (pv 2) pe_str (nomark _)) (pss_one (ps_expr (pe_meth (pv 0) T.cl mM GM r1 bM .nil pass0 (pa_cons (pv 3) (pa_cons (pv 4) pa_nil)))))
      (pss_one (ps_if (pt_cmpR op_eq (pv 2) pe_str (nomark _)) (pss_one (ps_set (i := 5) nd rfl (.inl rfl) (pe_meth (pv 0) T.cl mP GP r1 bP .nil pass0 (pa_cons (pv 3) (pa_cons (pv 4) pa_nil)))))
        (pss_one (ps_expr (pe_meth (pv 0) T.cl mO GO r1 bO .nil pass0 (pa_cons (pv 3) (pa_cons (pv 4) pa_nil))))))))
    (pss_cons (ps_expr (pe_bm PySem.F.plainAttrs_list PySem.F.slot_list_append PySem.F.type_list_append mt_append (pe_fld (pv 0) rfl) (pa_cons (pv 1) pa_nil)))
    (pss_one (ps_ret (pv 5))))))), ?_⟩
  refine ⟨_, rfl, t, d, rfl, hd, dok, fun H1 s1 => ⟨_, rfl, iteF ?_⟩⟩
  have hS1 := hS.same s1
  have hd1 := hd.tups (Tups.of_same s1)
  obtain ⟨wv, ht, hw⟩ := id hd1
  refine ⟨_, rfl, t, _, rfl, ht, rfl, _, _, rfl, _, _, rfl, _, _, rfl, rfl, ?_⟩
  refine ⟨fun σ' H' => ∃ F' v, σ' = [some (.ref p), some (.ref t), some (.str d.word), some (.str d.name), some wv, some v] ∧ ShelfF K C H' p y F' ∧ After H1 FF H' F', ?_, ?_⟩
  · have si : ∃ dx fs, H1 p = some (.ins C dx fs) ∧ fs.lookup ("_make" : Str) = none ∧ fs.lookup ("_put" : Str) = none ∧ fs.lookup ("_take_out" : Str) = none := by
      obtain ⟨dx, a, b, c, e, ds, ca, rl, S, hF⟩ := hS1
      exact ⟨dx, _, S.ins, sf_no (by decide), sf_no (by decide), sf_no (by decide)⟩
    obtain ⟨dx, fs, ip, l1, l2, l3⟩ := si
    cases d with
    | table n cs =>
      obtain ⟨ac, rfl, hac⟩ := hw
      obtain ⟨c1, c2, rfl⟩ := can
      refine ⟨_, rfl, rfl, _, rfl, iteT' (decide_eq_true rfl) ?_⟩
      exact ⟨_, rfl, p, dx, fs, rfl, ip, l1, _, rfl, _, rfl, p, ac, x, FF, n, cs, rfl, hS1, ok, c1, c2, hac, fun H' F' h1 h2 => ⟨F', _, rfl, h1, h2⟩⟩
    | row n ws =>
      obtain ⟨aw, rfl, haw⟩ := hw
      obtain ⟨i, tb, c1, rfl, c3, c4, rfl⟩ := can
      refine ⟨_, rfl, rfl, _, rfl, iteF' (by rw [decide_eq_true_eq]; intro z; exact absurd (V.str.inj z) (show ¬ ("row" : Str) = "table" by decide)) ?_⟩
      refine ⟨_, rfl, rfl, _, rfl, iteT' (decide_eq_true rfl) ?_⟩
      exact ⟨_, rfl, p, dx, fs, rfl, ip, l2, _, rfl, _, rfl, p, aw, x, FF, i, tb, ws, rfl, hS1, ok, c1, c3, haw, c4, fun H' h1 h2 => ⟨FF, _, rfl, h1, h2⟩⟩
    | out n k =>
      obtain rfl := hw
      obtain ⟨i, tb, r, c1, rfl, c3, c4, rfl⟩ := can
      refine ⟨_, rfl, rfl, _, rfl, iteF' (by rw [decide_eq_true_eq]; intro z; exact absurd (V.str.inj z) (show ¬ ("out" : Str) = "table" by decide)) ?_⟩
      refine ⟨_, rfl, rfl, _, rfl, iteF' (by rw [decide_eq_true_eq]; intro z; exact absurd (V.str.inj z) (show ¬ ("out" : Str) = "row" by decide)) ?_⟩
      exact ⟨_, rfl, p, dx, fs, rfl, ip, l3, _, rfl, _, rfl, p, x, FF, i, tb, k, r, rfl, hS1, ok, c1, c3, c4, fun H' h1 h2 => ⟨FF, _, rfl, h1, h2⟩⟩
  rintro σ' H' ⟨F', v, rfl, hy, af⟩
  have hd2 := hd1.tups (af.tups hS1)
  have yd := can.deeds
  obtain ⟨dx, a, b, c, e, ds, ca, rl, S, hF⟩ := hy
  have lds : ds.length = x.deeds.length := by rw [← yd]; exact S.deed.length
  refine ⟨_, rfl, p, C, dx, _, _, rfl, S.ins, T.cl, T.nD, sf_d, .inl ⟨rfl, _, SqL.of S.deeds⟩, _, rfl, a, ds, _, rfl, rfl, S.deeds, by rw [sizeLine_eq]; omega, ?_⟩
  refine ⟨_, rfl, ?_⟩
  have tp : Tups K H' (upd H' a (.lst (ds ++ [.ref t]))) := .upd_lst S.deeds
  have ne : ∀ {q : Addr} {o : HO}, H' q = some o → (∀ xs, o ≠ .lst xs) → upd H' a (.lst (ds ++ [.ref t])) q = some o := fun z n => by
    rw [upd_ne (fun y => by rw [y, S.deeds] at z; exact n _ (Option.some.inj z).symm)]
    exact z
  refine q _ F' v ⟨dx, a, b, c, e, ds ++ [.ref t], ca, rl, ⟨ne S.ins (fun _ z => nomatch z), upd_same, ?_, ne S.cols (fun _ z => nomatch z), fun i t0 h => tp _ _ (S.colAt i t0 h), ne S.made (fun _ z => nomatch z), ne S.rows (fun _ z => nomatch z), fun i t0 h => ?_, S.bc, S.bd, S.cd, S.apart, S.offA⟩, hF⟩ ?_
  · rw [← yd]
    exact each_snoc (S.deed.mono fun u d0 ⟨q0, h1, h2⟩ => ⟨q0, h1, h2.tups tp⟩) ⟨t, rfl, hd2.tups tp⟩
  · obtain ⟨vs, e1, e2⟩ := S.rowAt i t0 h
    exact ⟨vs, by rw [upd_ne (S.offA i (List.getElem?_eq_some_iff.mp h).1)]; exact e1, e2.tups tp⟩
  · refine After.ofSame s1 ⟨fun r o nf z => ?_, af.new⟩
    have nr : r ≠ a := fun y => by
      rw [y] at nf z
      rcases (af.new a ((hF a).mpr (.inr (.inl rfl)))) with h | h
      · exact nf h
      · rw [h] at z
        cases z
    rw [upd_ne nr]
    exact af.off r o nf z
end
end K07t
end

section
set_option Elab.async false
set_option linter.all false
set_option maxRecDepth 100000
set_option maxHeartbeats 4000000
/-! Tables made; what stays well made. -/
namespace K07t
open PySem PySem.Spec PyProof.Rows L2 Gd
abbrev sInit : Stmt := inClass (topS 37) 0
abbrev nInit : List Str := ["self", "deeds", "deed"]
theorem scInit : FnScope nInit ["self", "deeds"] (defScope sInit) := ⟨rfl, rfl, rfl, by decide +kernel, rfl, by decide +kernel, by decide +kernel⟩
theorem okFD {P : Program} {w : World} {K : PySem.W.Frag} {mg : Str → Option Value} {base : Heap} {x qual : Str} {st : Stmt} {dvs : List V} {kws : List (Str × V)} {f : Addr} {fd : FuncData} {N ps : List Str} {k : Nat} {sp : Sp} (F : FunD K x qual (defArgs st) (defBody st) (defScope st) dvs kws f fd) (S : FnScope N ps (defScope st)) (len : ∀ vs H Q E, sp vs H Q E → vs.length = ps.length)
    (hbody : ∀ (cdv : Value) (A : Around) (outer : List Env) (s : Shared) (H : Hp) (vs : List V) (Q : VK) (E : XK), Room k (A.deeper (envOfC qual (defScope st) s.heap.objs.size f cdv)) → sp vs H Q E →
      ∃ t, PSs (cxOf CX0 P w K mg base N qual (defScope st) f cdv A outer s H E).nox (defBody st) t ∧ t { nx := fun _ H' => Q .non H', rt := Q } (L2.start N vs) H) : FnOk P w K mg base CX0 (k + 1) f fd ps sp := by
  obtain ⟨oc, od, dV, kV, doc, pm, an, cdv, ct, osl, rfl, lk, hcd, _, _⟩ := F.ex
  refine fn_of lk hcd S len fun A outer s H vs Q E hr hsp => ?_
  obtain ⟨t, h, q⟩ := hbody cdv A outer s H vs Q E hr hsp
  exact ⟨t, h.nox, q⟩
def spInit (K : PySem.W.Frag) (C : Addr) : Sp := fun vs H Q _ => ∃ (p e dx : Addr), vs = [.ref p, .ref e] ∧ H p = some (.ins C dx []) ∧ SqT K H e [] ∧
  ∀ H' F', ShelfF K C H' p ⟨[], []⟩ F' → (∀ b o, b ≠ p → H b = some o → H' b = some o) → (∀ b, F' b → b = p ∨ H b = none) → Q .non H'
section
variable {P : Program} {w : World} {K : PySem.W.Frag} {mg : Str → Option Value} {base : Heap} {f C : Addr} {fd : FuncData} {dvs : List V} {kws : List (Str × V)}
theorem ok_init (F : FunD K "__init__" "Tables.__init__" (defArgs sInit) (defBody sInit) (defScope sInit) dvs kws f fd) (T : TxtT K mg C) : FnOk P w K mg base CX0 1 f fd ["self", "deeds"] (spInit K C) := by
  refine okFD F scInit (fun vs H Q E h => ?_) (fun cdv A outer s H vs Q E hr h => ?_)
  · obtain ⟨p, e, dx, rfl, _⟩ := h
    rfl
  obtain ⟨p, e, dx, rfl, hp, he, q⟩ := h
  have nd := scInit.nd
  refine ⟨_, pss_cons (ps_fld (pv 0) (pe_lst pa_nil) rfl) (pss_cons (ps_fld (pv 0) pe_dnewK rfl) (pss_cons (ps_fld (pv 0) pe_dnewK rfl) (pss_cons (ps_fld (pv 0) pe_dnewK rfl)
    (pss_one (ps_for PassesOwn.never rfl (pi_tup (pv 1)) (pg_name (i := 2) nd rfl (.inl rfl)) pss_never))))), ?_⟩
  refine ⟨Nat.zero_le _, fun a na => ?_⟩
  have npa : p ≠ a := ne_of_none hp na
  refine ⟨_, rfl, p, C, dx, _, rfl, (upd_ne npa).trans hp, T.cl, T.nD, (by show 0 < 1000; decide), ?_⟩
  have p1 : upd (upd H a (.lst [])) p (.ins C dx (putF "_deeds" (.ref a) [])) p = some (.ins C dx (putF "_deeds" (.ref a) [])) := upd_same
  have a1 : upd (upd H a (.lst [])) p (.ins C dx (putF "_deeds" (.ref a) [])) a = some (.lst []) := by rw [upd_ne npa.symm, upd_same]
  have k1 : ∀ q, q ≠ p → q ≠ a → upd (upd H a (.lst [])) p (.ins C dx (putF "_deeds" (.ref a) [])) q = H q := fun q h1 h2 => by rw [upd_ne h1, upd_ne h2]
  generalize upd (upd H a (.lst [])) p (.ins C dx (putF "_deeds" (.ref a) [])) = H1 at p1 a1 k1 ⊢
  intro b nb
  have npb : p ≠ b := ne_of_none p1 nb
  have nab : a ≠ b := ne_of_none a1 nb
  refine ⟨_, rfl, p, C, dx, _, rfl, (upd_ne npb).trans p1, T.cl, T.nC, (by show 1 < 1000; decide), ?_⟩
  have p2 : upd (upd H1 b (.dK [])) p (.ins C dx (putF "_columns" (.ref b) (putF "_deeds" (.ref a) []))) p = some (.ins C dx (putF "_columns" (.ref b) (putF "_deeds" (.ref a) []))) := upd_same
  have b2 : upd (upd H1 b (.dK [])) p (.ins C dx (putF "_columns" (.ref b) (putF "_deeds" (.ref a) []))) b = some (.dK []) := by rw [upd_ne npb.symm, upd_same]
  have k2 : ∀ q, q ≠ p → q ≠ b → upd (upd H1 b (.dK [])) p (.ins C dx (putF "_columns" (.ref b) (putF "_deeds" (.ref a) []))) q = H1 q := fun q h1 h2 => by rw [upd_ne h1, upd_ne h2]
  generalize upd (upd H1 b (.dK [])) p (.ins C dx (putF "_columns" (.ref b) (putF "_deeds" (.ref a) []))) = H2 at p2 b2 k2 ⊢
  have a2 := (k2 a npa.symm nab).trans a1
  intro c nc
  have npc : p ≠ c := ne_of_none p2 nc
  have nac : a ≠ c := ne_of_none a2 nc
  have nbc : b ≠ c := ne_of_none b2 nc
  refine ⟨_, rfl, p, C, dx, _, rfl, (upd_ne npc).trans p2, T.cl, T.nM, (by show 2 < 1000; decide), ?_⟩
  have p3 : upd (upd H2 c (.dK [])) p (.ins C dx (putF "_made" (.ref c) (putF "_columns" (.ref b) (putF "_deeds" (.ref a) [])))) p = some (.ins C dx (putF "_made" (.ref c) (putF "_columns" (.ref b) (putF "_deeds" (.ref a) [])))) := upd_same
  have c3 : upd (upd H2 c (.dK [])) p (.ins C dx (putF "_made" (.ref c) (putF "_columns" (.ref b) (putF "_deeds" (.ref a) [])))) c = some (.dK []) := by rw [upd_ne npc.symm, upd_same]
  have k3 : ∀ q, q ≠ p → q ≠ c → upd (upd H2 c (.dK [])) p (.ins C dx (putF "_made" (.ref c) (putF "_columns" (.ref b) (putF "_deeds" (.ref a) [])))) q = H2 q := fun q h1 h2 => by rw [upd_ne h1, upd_ne h2]
  generalize upd (upd H2 c (.dK [])) p (.ins C dx (putF "_made" (.ref c) (putF "_columns" (.ref b) (putF "_deeds" (.ref a) [])))) = H3 at p3 c3 k3 ⊢
  have a3 := (k3 a npa.symm nac).trans a2
  have b3 := (k3 b npb.symm nbc).trans b2
  intro d nd'
  have npd : p ≠ d := ne_of_none p3 nd'
  have nad : a ≠ d := ne_of_none a3 nd'
  have nbd : b ≠ d := ne_of_none b3 nd'
  have ncd : c ≠ d := ne_of_none c3 nd'
  refine ⟨_, rfl, p, C, dx, _, rfl, (upd_ne npd).trans p3, T.cl, T.nR, (by show 3 < 1000; decide), ?_⟩
  have p4 : upd (upd H3 d (.dK [])) p (.ins C dx (putF "_rows" (.ref d) (putF "_made" (.ref c) (putF "_columns" (.ref b) (putF "_deeds" (.ref a) []))))) p = some (.ins C dx (sf a b c d)) := by rw [upd_same]; rfl
  have d4 : upd (upd H3 d (.dK [])) p (.ins C dx (putF "_rows" (.ref d) (putF "_made" (.ref c) (putF "_columns" (.ref b) (putF "_deeds" (.ref a) []))))) d = some (.dK []) := by rw [upd_ne npd.symm, upd_same]
  have k4 : ∀ q, q ≠ p → q ≠ d → upd (upd H3 d (.dK [])) p (.ins C dx (putF "_rows" (.ref d) (putF "_made" (.ref c) (putF "_columns" (.ref b) (putF "_deeds" (.ref a) []))))) q = H3 q := fun q h1 h2 => by rw [upd_ne h1, upd_ne h2]
  generalize upd (upd H3 d (.dK [])) p (.ins C dx (putF "_rows" (.ref d) (putF "_made" (.ref c) (putF "_columns" (.ref b) (putF "_deeds" (.ref a) []))))) = H4 at p4 d4 k4 ⊢
  have a4 := (k4 a npa.symm nad).trans a3
  have b4 := (k4 b npb.symm nbd).trans b3
  have c4 := (k4 c npc.symm ncd).trans c3
  have nb0 : H b = none := by rw [← k1 b npb.symm nab.symm]; exact nb
  have nc0 : H c = none := by rw [← k1 c npc.symm nac.symm, ← k2 c npc.symm nbc.symm]; exact nc
  have nd0 : H d = none := by rw [← k1 d npd.symm nad.symm, ← k2 d npd.symm nbd.symm, ← k3 d npd.symm ncd.symm]; exact nd'
  have off : ∀ q o, q ≠ p → H q = some o → H4 q = some o := fun q o n e => by
    rw [k4 q n (ne_of_none e nd0), k3 q n (ne_of_none e nc0), k2 q n (ne_of_none e nb0), k1 q n (ne_of_none e na)]
    exact e
  have he4 : SqT K H4 e [] := by
    rcases he with (z | ⟨o, z⟩) | z
    · exact .inl (.inl (off _ _ (ne_of z hp (fun y => nomatch y)) z))
    · exact .inl (.inr ⟨o, off _ _ (ne_of z hp (fun y => nomatch y)) z⟩)
    · exact .inr z
  refine ⟨_, rfl, e, rfl, ⟨_, he4⟩, ?_⟩
  refine for_it (walk_tup (xs := [])) (fun i σ H' => H' = H4) rfl (fun i σ H' _ z => by rw [z]; exact he4) (fun i x σ H5 H6 hi _ _ => absurd hi (Nat.not_lt_zero _)) ?_
  rintro σ H5 rfl
  refine q H5 (foot p a b c d 0 (fun _ => a)) ⟨dx, a, b, c, d, [], (fun _ => a), (fun _ => a), ⟨p4, a4, .nil, b4, fun i t h => by simp at h, c4, d4, fun i t h => by simp at h, nbc, nbd, ncd, fun i j h => absurd h (Nat.not_lt_zero _), fun i h => absurd h (Nat.not_lt_zero _)⟩, fun r => Iff.rfl⟩ off fun r hr' => ?_
  rcases hr' with z | z | z | z | z | ⟨i, hi, _⟩
  · exact .inl z
  · exact .inr (by rw [z]; exact na)
  · exact .inr (by rw [z]; exact nb0)
  · exact .inr (by rw [z]; exact nc0)
  · exact .inr (by rw [z]; exact nd0)
  · exact absurd hi (Nat.not_lt_zero _)
end
end K07t
end

section
set_option Elab.async false
set_option linter.all false
set_option maxRecDepth 100000
set_option maxHeartbeats 4000000
/-! the program's own exceptions: a flat field copied; raised. -/
namespace K07t
open PySem PySem.Spec PyProof.Rows L2 Gd
abbrev sCopied : Stmt := topS 2
theorem scCopied : FnScope ["thing", "one"] ["thing"] (defScope sCopied) :=
  ⟨rfl, rfl, rfl, by decide +kernel, rfl, by decide +kernel, by decide +kernel⟩
/-- no tuple, no list, no dict -/
def FlatD (d : PyData) : Prop := tupOnly d = true ∧ ¬ ∃ ds, d = .tuple ds
theorem flat_str (s : Str) : FlatD (.str s) := ⟨rfl, fun ⟨_, e⟩ => nomatch e⟩
theorem flat_int (i : Int) : FlatD (.int i) := ⟨rfl, fun ⟨_, e⟩ => nomatch e⟩
def spCpy (K : PySem.W.Frag) : Sp := fun vs H Q _ => ∃ (v : V) (d : PyData), vs = [v] ∧ Dp K H v d ∧ FlatD d ∧ Q v H
structure Blx (mg : Str → Option Value) : Prop where
  isi : mg "isinstance" = none
  lst : mg "list" = none
  tup : mg "tuple" = none
  dct : mg "dict" = none
def spIni (K : PySem.W.Frag) (C : Addr) (fl : Str) : Sp := fun vs H Q _ => ∃ (a : Addr) (v : V) (d : PyData), vs = [.ref a, v] ∧
  H a = some (exo a C none) ∧ Dp K H v d ∧ FlatD d ∧
  ∀ (dx : Addr) (H' : Hp), Ex1 a H H' → H dx = none → dx ≠ a → H' a = some (exo a C (some dx)) → H' dx = some (exd dx [(fl, v)]) → Q .non H'
/-- what there is to a class with a field -/
structure MkX (P : Program) (w : World) (K : PySem.W.Frag) (mg : Str → Option Value) (base : Heap) (C : Addr) (fl : Str) (fI : Addr) (fd : FuncData) : Prop where
  mks : Makes P w K C fI
  kC : PySem.W.keepIn K (.ref C) = true
  F : FnOk P w K mg base CX0 2 fI fd ["self", fl] (spIni K C fl)
  b : Binds K fd ["self", fl] []
  ex : PySem.W.subIn K (.ref C) (.type "BaseException") = some true
  ty : PySem.W.typeIn K (.ref C) = some (.type "type")
section
variable {P : Program} {w : World} {K : PySem.W.Frag} {mg : Str → Option Value} {base : Heap} {f fC C : Addr} {fd fdC : FuncData}
theorem ok_cpy (F : Fun K "copied" "copied" sCopied f fd) (B : Blx mg) : FnOk P w K mg base CX0 1 f fd ["thing"] (spCpy K) := by
  refine F.ok scCopied (fun vs H Q E h => ?_) (fun cdv A outer s H vs Q E hr h => ?_)
  · obtain ⟨v, d, rfl, _⟩ := h
    rfl
  obtain ⟨v, d, rfl, hd, ⟨ho, ht⟩, q⟩ := h
  have nd := scCopied.nd
  refine ⟨_, pss_cons (ps_if (pt_val (pe_callB call_isi (by rfl) B.isi (by decide +kernel) (pa_cons (pv 0) (pa_cons (pe_bltn (v := .ty "list") (by rfl) B.lst (by decide +kernel) rfl) pa_nil)))) pss_never pss_nil)
    (pss_cons (ps_if (pt_val (pe_callB call_isi (by rfl) B.isi (by decide +kernel) (pa_cons (pv 0) (pa_cons (pe_bltn (v := .ty "tuple") (by rfl) B.tup (by decide +kernel) rfl) pa_nil)))) pss_never pss_nil)
    (pss_cons (ps_if (pt_val (pe_callB call_isi (by rfl) B.isi (by decide +kernel) (pa_cons (pv 0) (pa_cons (pe_bltn (v := .ty "dict") (by rfl) B.dct (by decide +kernel) rfl) pa_nil)))) pss_never pss_nil)
    (pss_one (ps_ret (pv 0))))), ?_⟩
  have kd := Gd.Dp.kind hd ho
  refine ⟨_, rfl, _, _, _, _, false, rfl, .ty _, kd, kit_ty (kind_list ho), false, rfl, iteF ?_⟩
  refine ⟨_, rfl, _, _, _, _, false, rfl, .ty _, kd, kit_ty (kind_tuple ho ht), false, rfl, iteF ?_⟩
  refine ⟨_, rfl, _, _, _, _, false, rfl, .ty _, kd, kit_ty (kind_dict ho), false, rfl, iteF ?_⟩
  exact ⟨_, rfl, q⟩
abbrev sIUnknown : Stmt := inClass (topS 22) 0
theorem scIUnknown : FnScope ["self", "name"] ["self", "name"] (defScope sIUnknown) :=
  ⟨rfl, rfl, rfl, by decide +kernel, rfl, by decide +kernel, by decide +kernel⟩
theorem ok_iUnknown (F : Fun K "__init__" "Unknown.__init__" sIUnknown f fd) (T : OexK K C) (hno : PySem.W.findIn K (.ref C) "name" = some none)
    (FC : Fun K "copied" "copied" sCopied fC fdC) (bC : Binds K fdC ["thing"] []) (gC : mg "copied" = some (.ref fC)) (B : Blx mg) :
    FnOk P w K mg base CX0 2 f fd ["self", "name"] (spIni K C "name") := by
  have G : FnOk P w K mg base CX0 1 fC fdC ["thing"] (spCpy K) := ok_cpy FC B
  refine F.ok scIUnknown (fun vs H Q E h => ?_) (fun cdv A outer s H vs Q E hr h => ?_)
  · obtain ⟨a, v, d, rfl, _⟩ := h
    rfl
  obtain ⟨a, v, d, rfl, ea, hd, ho, q⟩ := h
  refine ⟨_, pss_one (ps_keep (C := C) (f := "name") (keepsKE T hno) (pv 0)
    (pe_call G hr (by rfl) gC FC.kp bC .nil pass0 (pa_cons (pv 1) pa_nil))), ?_⟩
  refine ⟨_, rfl, v, d, rfl, hd, ho, ?_⟩
  refine ⟨_, rfl, a, rfl, ea, fun dx n1 ne => ?_⟩
  refine q dx _ (fun b o hb e => ?_) n1 ne upd_same ?_
  · rw [upd_ne hb, upd_ne (ne_of_none e n1)]
    exact e
  · rw [upd_ne ne, upd_same]
/-- what is raised with a field, as it leaves -/
theorem raised {C : Addr} {fl : Str} {H : Hp} {a : Addr} {v : V} {E : XK} (na : H a = none) (q : ∀ (dd : Addr) (H' : Hp), Same H H' → H' dd = some (.xd [(fl, v)]) → E (.ref C) (some dd) H')
    {d : PyData} (hd : Dp K H v d) (fd : FlatD d) : spIni K C fl [.ref a, v] (upd H a (exo a C none)) (fun u H2 => u = .non ∧ ∃ (dd : Addr) (fs : List (Str × V)), H2 a = some (exo a C (some dd)) ∧ H2 dd = some (exd dd fs) ∧ H dd = none ∧ E (.ref C) (some dd) (upd (del H2 a) dd (.xd fs))) (fun _ _ _ => False) := by
  have j := new_same (o := exo a C none) na
  refine ⟨a, v, d, rfl, upd_same, Gd.Dp.same j _ hd, fd, fun dx H' x n ne e1 e2 => ⟨rfl, dx, _, e1, e2, ?_, ?_⟩⟩
  · rw [upd_ne ne] at n
    exact n
  · refine q dx _ (fun b o e => ?_) upd_same
    have nb : b ≠ a := ne_of_none e na
    have ndx : b ≠ dx := fun z => by
      rw [← z, upd_ne nb, e] at n
      cases n
    rw [upd_ne ndx]
    show del H' a b = some o
    unfold del
    rw [if_neg nb]
    exact x b o nb (by rw [upd_ne nb]; exact e)
end
end K07t
end

section
set_option Elab.async false
set_option linter.all false
set_option maxRecDepth 100000
set_option maxHeartbeats 4000000
/-! what the law hears: one of five refusals, with its field, or what is told. -/
namespace K07
open PySem PySem.Spec PyProof.Rows L2 Gd LamX K07t
abbrev sHeard : Stmt := topS 51
abbrev nHeard : List Str := ["_law_ask", "_law_found", "_law_caught", "e", "_law_marks", "_law_others"]
theorem scHeard : FnScope nHeard ["_law_ask"] (defScope sHeard) := ⟨rfl, rfl, rfl, by decide +kernel, rfl, by decide +kernel, by decide +kernel⟩
/-- the classes: NoDeed, Taken, TooMany, NoPlace, Unknown, PlanError, then NoWorth, NoAsk, Spent, NoRule, NoRoom, Done, NotDone, NoName, Busy, NoStand, Unlike, NoPlaces, NoText, NoLine -/
structure Cls07 (K : PySem.W.Frag) (mg : Str → Option Value) (cs : Nat → Addr) : Prop where
  g0 : mg "NoDeed" = some (.ref (cs 0))
  g1 : mg "Taken" = some (.ref (cs 1))
  g2 : mg "TooMany" = some (.ref (cs 2))
  g3 : mg "NoPlace" = some (.ref (cs 3))
  g4 : mg "Unknown" = some (.ref (cs 4))
  g5 : mg "PlanError" = some (.ref (cs 5))
  g6 : mg "NoWorth" = some (.ref (cs 6))
  g7 : mg "NoAsk" = some (.ref (cs 7))
  g8 : mg "Spent" = some (.ref (cs 8))
  g9 : mg "NoRule" = some (.ref (cs 9))
  g10 : mg "NoRoom" = some (.ref (cs 10))
  g11 : mg "Done" = some (.ref (cs 11))
  g12 : mg "NotDone" = some (.ref (cs 12))
  g13 : mg "NoName" = some (.ref (cs 13))
  g14 : mg "Busy" = some (.ref (cs 14))
  g15 : mg "NoStand" = some (.ref (cs 15))
  g16 : mg "Unlike" = some (.ref (cs 16))
  g17 : mg "NoPlaces" = some (.ref (cs 17))
  g18 : mg "NoText" = some (.ref (cs 18))
  g19 : mg "NoLine" = some (.ref (cs 19))
  inj : ∀ i j, i < 20 → j < 20 → cs i = cs j → i = j
  ev : ∀ i, i < 6 → EvC K (cs i)
  ty : ∀ i, i < 20 → ((PySem.W.clsIn K (cs i)).isSome && PySem.W.typeIn K (.ref (cs i)) == some (.type "type")) = true
  mroV : ∀ i, i < 4 → ∃ cd, PySem.W.clsIn K (cs i) = some cd ∧ cd.mro = [.ref (cs i), .ref (cs 5), .type "ValueError", .type "Exception", .type "BaseException", .type "object"]
  mroK : ∃ cd, PySem.W.clsIn K (cs 4) = some cd ∧ cd.mro = [.ref (cs 4), .type "KeyError", .type "LookupError", .type "Exception", .type "BaseException", .type "object"]
  no1 : PySem.W.findIn K (.ref (cs 1)) "name" = some none
  no2 : PySem.W.findIn K (.ref (cs 2)) "most" = some none
  no3 : PySem.W.findIn K (.ref (cs 3)) "number" = some none
  no4 : PySem.W.findIn K (.ref (cs 4)) "name" = some none
  vb : EvB K
  isi : mg "isinstance" = none
section
variable {K : PySem.W.Frag} {mg : Str → Option Value} {cs : Nat → Addr}
theorem kit_self (C : Addr) : PySem.W.kitOne K (.ref C) (.ref C) = some true := by
  unfold PySem.W.kitOne
  rw [if_pos (by simp)]
theorem sub_by {C : Addr} {cd : ClassData} {b : Value} (h : PySem.W.clsIn K C = some cd) (ne : cd.mro.isEmpty = false) :
    PySem.W.subIn K (.ref C) b = some (cd.mro.contains b) := by
  show PySem.W.mroIn K C b = _
  unfold PySem.W.mroIn
  rw [h, Option.bind_some, if_neg (by rw [ne]; decide)]
theorem kit_ref {C D : Addr} {cd : ClassData} (h : PySem.W.clsIn K C = some cd) (ne : cd.mro.isEmpty = false)
    (t : ((PySem.W.clsIn K D).isSome && PySem.W.typeIn K (.ref D) == some (.type "type")) = true) (n : C ≠ D) :
    PySem.W.kitOne K (.ref C) (.ref D) = some (cd.mro.contains (.ref D)) := by
  unfold PySem.W.kitOne
  rw [if_neg (by simpa using n)]
  show (if ((PySem.W.clsIn K D).isSome && PySem.W.typeIn K (.ref D) == some (.type "type")) = true then PySem.W.subIn K (.ref C) (.ref D) else none) = _
  rw [if_pos t]
  exact sub_by h ne
theorem kit_type {C : Addr} {T : String} {b : Bool} (h : PySem.W.subIn K (.ref C) (.type T) = some b) (m : PySem.W.kitMeta T = true) :
    PySem.W.kitOne K (.ref C) (.type T) = some b := by
  unfold PySem.W.kitOne
  rw [if_neg (by simp)]
  show (if PySem.W.kitMeta T = true then PySem.W.subIn K (.ref C) (.type T) else none) = _
  rw [if_pos m, h]
theorem Cls07.typ (T : Cls07 K mg cs) {i : Nat} (hi : i < 20) : PySem.W.typeIn K (.ref (cs i)) = some (.type "type") := by
  have h := T.ty i hi
  simp only [Bool.and_eq_true] at h
  exact eq_of_beq h.2
theorem Cls07.kit (T : Cls07 K mg cs) {i j : Nat} (hi : i < 5) (hj : j < 20) (h5 : j ≠ 5) : PySem.W.kitOne K (.ref (cs i)) (.ref (cs j)) = some (decide (i = j)) := by
  by_cases e : i = j
  · subst e
    rw [kit_self, decide_eq_true rfl]
  · have n : cs i ≠ cs j := fun z => e (T.inj i j (by omega) hj z)
    have n5 : cs 5 ≠ cs j := fun z => h5 (T.inj 5 j (by omega) hj z).symm
    rw [decide_eq_false e]
    by_cases h4 : i < 4
    · obtain ⟨cd, h1, h2⟩ := T.mroV i h4
      rw [kit_ref h1 (by rw [h2] <;> rfl) (T.ty j hj) n, h2]
      simp [n.symm, n5.symm]
    · obtain rfl : i = 4 := by omega
      obtain ⟨cd, h1, h2⟩ := T.mroK
      rw [kit_ref h1 (by rw [h2] <;> rfl) (T.ty j hj) n, h2]
      simp [n.symm]
theorem Cls07.kitV (T : Cls07 K mg cs) {i : Nat} (hi : i < 5) : PySem.W.kitOne K (.ref (cs i)) (.type "ValueError") = some (decide (i < 4)) := by
  by_cases h4 : i < 4
  · obtain ⟨cd, h1, h2⟩ := T.mroV i h4
    refine kit_type ?_ (by decide +kernel)
    rw [sub_by h1 (by rw [h2] <;> rfl), h2, decide_eq_true h4]
    simp
  · obtain rfl : i = 4 := by omega
    obtain ⟨cd, h1, h2⟩ := T.mroK
    refine kit_type ?_ (by decide +kernel)
    rw [sub_by h1 (by rw [h2] <;> rfl), h2]
    simp
theorem Cls07.kitK (T : Cls07 K mg cs) {i : Nat} (hi : i < 5) : PySem.W.kitOne K (.ref (cs i)) (.type "KeyError") = some (decide (i = 4)) := by
  by_cases h4 : i < 4
  · obtain ⟨cd, h1, h2⟩ := T.mroV i h4
    refine kit_type ?_ (by decide +kernel)
    rw [sub_by h1 (by rw [h2] <;> rfl), h2, decide_eq_false (show ¬ i = 4 by omega)]
    simp
  · obtain rfl : i = 4 := by omega
    obtain ⟨cd, h1, h2⟩ := T.mroK
    refine kit_type ?_ (by decide +kernel)
    rw [sub_by h1 (by rw [h2] <;> rfl), h2]
    simp
theorem Cls07.plan (T : Cls07 K mg cs) {i : Nat} (hi : i < 5) : PySem.W.exmAny K (.ref (cs i)) [.ref (cs 5), .ref (cs 4)] = some true := by
  have e5 := T.ev 5 (by decide)
  have e4 := T.ev 4 (by decide)
  by_cases h4 : i < 4
  · obtain ⟨cd, h1, h2⟩ := T.mroV i h4
    have s1 : PySem.W.exmOne K (.ref (cs i)) (.ref (cs 5)) = some true := by
      refine PySem.W.exm_ref e5.sub e5.hd (T.typ (by decide)) ?_
      rw [sub_by h1 (by rw [h2]; rfl), h2]
      simp
    have s2 : PySem.W.exmOne K (.ref (cs i)) (.ref (cs 4)) = some false := by
      refine PySem.W.exm_ref e4.sub e4.hd (T.typ (by decide)) ?_
      have n : cs i ≠ cs 4 := fun z => by have := T.inj i 4 (by omega) (by omega) z; omega
      have n1 : cs 5 ≠ cs 4 := fun z => by have := T.inj 5 4 (by omega) (by omega) z; omega
      rw [sub_by h1 (by rw [h2]; rfl), h2]
      simp [n.symm, n1.symm]
    simp only [PySem.W.exmAny, s1, s2]
    rfl
  · obtain rfl : i = 4 := by omega
    obtain ⟨cd, h1, h2⟩ := T.mroK
    have s1 : PySem.W.exmOne K (.ref (cs 4)) (.ref (cs 5)) = some false := by
      refine PySem.W.exm_ref e5.sub e5.hd (T.typ (by decide)) ?_
      have n1 : cs 4 ≠ cs 5 := fun z => by have := T.inj 4 5 (by omega) (by omega) z; omega
      rw [sub_by h1 (by rw [h2]; rfl), h2]
      simp [n1.symm]
    have s2 : PySem.W.exmOne K (.ref (cs 4)) (.ref (cs 4)) = some true := by
      refine PySem.W.exm_ref e4.sub e4.hd (T.typ (by decide)) ?_
      rw [sub_by h1 (by rw [h2]; rfl), h2]
      simp
    simp only [PySem.W.exmAny, s1, s2]
    rfl
theorem Cls07.any (T : Cls07 K mg cs) {i : Nat} (hi : i < 5) {l : List Nat} (h : ∀ j ∈ l, 6 ≤ j ∧ j < 20) : PySem.W.kitAny K (.ref (cs i)) (l.map fun j => .ref (cs j)) = some false := by
  induction l with
  | nil => rfl
  | cons j l ih =>
    have hj := h j (by simp)
    have k := T.kit hi hj.2 (by omega)
    rw [decide_eq_false (show ¬ i = j by omega)] at k
    have := ih fun x hx => h x (by simp [hx])
    simp only [List.map_cons, PySem.W.kitAny, k, this]
end
def fldOf : Nat → Str
  | 2 => "most"
  | 3 => "number"
  | _ => "name"
/-- what is heard of a refusal -/
def heardL (i : Nat) (v : V) : List V := match i with
  | 0 => [.str "deed"]
  | 1 => [.str "taken", v]
  | 2 => [.str "many", v]
  | 3 => [.str "place", v]
  | _ => [.str "unknown", v]
def refT (i : Nat) (v : V) (H : Hp) (Q : VK) : Prop := ∀ b, H b = none → Q (.ref b) (upd H b (.tup (heardL i v)))
/-- a refusal as it leaves -/
def RefAt (cs : Nat → Addr) (i : Nat) (v : V) (cls : Value) (d : Option Addr) (H : Hp) : Prop := cls = .ref (cs i) ∧ i < 5 ∧ ((i = 0 ∧ d = none) ∨ (0 < i ∧ ∃ dd, d = some dd ∧ H dd = some (.xd [(fldOf i, v)])))
theorem RefAt.same {cs : Nat → Addr} {i : Nat} {v : V} {cls : Value} {d : Option Addr} {H H' : Hp} (h : RefAt cs i v cls d H) (s : Same H H') : RefAt cs i v cls d H' := by
  obtain ⟨a, b, c⟩ := h
  refine ⟨a, b, c.imp id fun ⟨p, dd, e1, e2⟩ => ⟨p, dd, e1, s _ _ e2⟩⟩
/-- heard(lambda: ..): one of the five raised, or not -/
def TBoth (K : PySem.W.Frag) (cs : Nat → Addr) : (XK → Hp → VK → Prop) → Hp → VK → Prop := fun tl H Q =>
  (∃ (i : Nat) (v : V), ∀ Qn : VK, tl (fun cls d H' => RefAt cs i v cls d H' ∧ ∀ H'', Same H' H'' → refT i v H'' Q) H Qn) ∨
  ∀ Q' : VK, (∀ v H', (∀ b, H' b = none → Q (.ref b) (upd H' b (.tup [.str "told", v]))) → Q' v H') → tl (fun _ _ _ => False) H Q'
def marksL (i : Nat) : List Bool := [decide (i = 0), decide (i = 1), decide (i = 2), decide (i = 3), decide (i = 4)]
theorem marks_one : ∀ i, i < 5 → (marksL i).count true = 1 := by decide +kernel
section
variable {X : Cx} {cs : Nat → Addr}
theorem pss_by {XX : Cx} {st : List Stmt} {t u : TS} (h : PSs XX st t) (i : ∀ D σ H, u D σ H → t D σ H) : PSs XX st u := ⟨fun pins s σ H D I q => h.run pins s σ H D I (i _ _ _ q)⟩
/-- the statements behind the try -/
def tsRest (K : PySem.W.Frag) (cs : Nat → Addr) (a : Addr) (cls : Value) (d : Option Addr) : TS := fun D σ H => ∃ (i : Nat) (v : V), RefAt cs i v cls d H ∧ (∃ x0 x1 x3 x4 x5, σ = [x0, x1, some (.ref a), x3, x4, x5]) ∧ ∀ H', Same H H' → refT i v H' D.rt
theorem rest_ok {g : Addr} {cdg : Value} {s : Shared} {H : Hp} (T : Cls07 X.K X.mg cs) (mv : X.mg "ValueError" = none) (mk : X.mg "KeyError" = none) (mi : X.mg "int" = none) (a : Addr) (oe : Obj) (cls : Value) (d : Option Addr) (pn : List (Addr × Obj)) (hz : Zc cls d oe) (hd : ∃ vs, oe.data = .fields vs)
    {XX : Cx} (eX : XX = (cxOf C8.CX0 X.prog X.w X.K X.mg X.base nHeard "_law_heard" (defScope sHeard) g cdg X.A X.stack s H C8.E0).nox) :
    PSs (XX.tr ((a, oe) :: pn) XX.xe) ((defBody sHeard).drop 3) (tsRest X.K cs a cls d) := by
  have nd := scHeard.nd
  have hu : (XX.tr ((a, oe) :: pn) XX.xe).calm = true := by rw [eX]; rfl
  have mem : (a, oe) ∈ (XX.tr ((a, oe) :: pn) XX.xe).pn := List.mem_cons_self
  have isP := call_isPD mem hz hd
  subst eX
  refine pss_by (t := _) (pss_cons (ps_if (pt_cmpR op_isN (pv 2) pe_non (nomark _)) pss_never pss_nil)
    (pss_cons (ps_set (i := 4) nd rfl (.inl rfl) (pe_lst (pa_cons (pe_callB isP (by rfl) T.isi (by decide +kernel) (pa_cons (pv 2) (pa_cons (pe_glob (v := .ref (cs 0)) (by rfl) T.g0 rfl) pa_nil))) (pa_cons (pe_callB isP (by rfl) T.isi (by decide +kernel) (pa_cons (pv 2) (pa_cons (pe_glob (v := .ref (cs 1)) (by rfl) T.g1 rfl) pa_nil))) (pa_cons (pe_callB isP (by rfl) T.isi (by decide +kernel) (pa_cons (pv 2) (pa_cons (pe_glob (v := .ref (cs 2)) (by rfl) T.g2 rfl) pa_nil))) pa_nil)))))
    (pss_cons (ps_set (i := 4) nd rfl (.inl rfl) (pe_op op_cat (pv 4) (pe_lst (pa_cons (pe_callB isP (by rfl) T.isi (by decide +kernel) (pa_cons (pv 2) (pa_cons (pe_glob (v := .ref (cs 3)) (by rfl) T.g3 rfl) pa_nil))) (pa_cons (pe_callB isP (by rfl) T.isi (by decide +kernel) (pa_cons (pv 2) (pa_cons (pe_glob (v := .ref (cs 4)) (by rfl) T.g4 rfl) pa_nil))) pa_nil)))))
    (pss_cons (ps_set (i := 5) nd rfl (.inl rfl) (pe_callB isP (by rfl) T.isi (by decide +kernel) (pa_cons (pv 2) (pa_cons (pe_tup (pa_cons (pe_glob (v := .ref (cs 6)) (by rfl) T.g6 rfl) (pa_cons (pe_glob (v := .ref (cs 7)) (by rfl) T.g7 rfl) (pa_cons (pe_glob (v := .ref (cs 8)) (by rfl) T.g8 rfl) (pa_cons (pe_glob (v := .ref (cs 9)) (by rfl) T.g9 rfl) (pa_cons (pe_glob (v := .ref (cs 10)) (by rfl) T.g10 rfl) (pa_cons (pe_glob (v := .ref (cs 11)) (by rfl) T.g11 rfl) (pa_cons (pe_glob (v := .ref (cs 12)) (by rfl) T.g12 rfl) (pa_cons (pe_glob (v := .ref (cs 13)) (by rfl) T.g13 rfl) pa_nil))))))))) pa_nil))))
    (pss_cons (ps_set (i := 5) nd rfl (.inl rfl) (pe_or (pv 5) (pe_one (pe_callB isP (by rfl) T.isi (by decide +kernel) (pa_cons (pv 2) (pa_cons (pe_tup (pa_cons (pe_glob (v := .ref (cs 14)) (by rfl) T.g14 rfl) (pa_cons (pe_glob (v := .ref (cs 15)) (by rfl) T.g15 rfl) (pa_cons (pe_glob (v := .ref (cs 16)) (by rfl) T.g16 rfl) (pa_cons (pe_glob (v := .ref (cs 17)) (by rfl) T.g17 rfl) (pa_cons (pe_glob (v := .ref (cs 18)) (by rfl) T.g18 rfl) (pa_cons (pe_glob (v := .ref (cs 19)) (by rfl) T.g19 rfl) pa_nil))))))) pa_nil))))))
    (pss_cons (ps_if (PW.pt (pw_or (pt_cmpR op_ne (pe_bm PySem.F.plainAttrs_list PySem.F.slot_list_count PySem.F.type_list_count mt_countB (pv 4) (pa_cons pe_bl pa_nil)) pe_int (nomark _)) (pw_or1 (pt_val (pv 5))))) pss_never pss_nil)
    (pss_cons (ps_if (PW.pt (pw_or (pt_cmpR op_ne (pe_callB isP (by rfl) T.isi (by decide +kernel) (pa_cons (pv 2) (pa_cons (pe_bltn (v := .ty "KeyError") (by rfl) mk (by decide +kernel) rfl) pa_nil))) (pe_ix ix_list (pv 4) pe_int (fun _ _ => rfl)) (nomark _)) (pw_or1 (pt_cmpR op_eq (pe_callB isP (by rfl) T.isi (by decide +kernel) (pa_cons (pv 2) (pa_cons (pe_bltn (v := .ty "ValueError") (by rfl) mv (by decide +kernel) rfl) pa_nil))) (pe_ix ix_list (pv 4) pe_int (fun _ _ => rfl)) (nomark _))))) pss_never pss_nil)
    (pss_cons (ps_if (pt_val (pe_ix ix_list (pv 4) pe_int (fun _ _ => rfl))) (pss_one (ps_ret (pe_tup (pa_cons pe_str pa_nil)))) pss_nil)
    (pss_cons (ps_if (PW.pt (pw_or (pt_val (pe_ix ix_list (pv 4) pe_int (fun _ _ => rfl))) (pw_or1 (pt_val (pe_ix ix_list (pv 4) pe_int (fun _ _ => rfl)))))) (pss_one (ps_ret (pe_tup (pa_cons (pe_ix ix_list (pe_lst (pa_cons pe_str (pa_cons pe_str pa_nil))) (pe_callTy call_int1 (by rfl) mi (by decide +kernel) (pa_cons (pe_ix ix_list (pv 4) pe_int (fun _ _ => rfl)) pa_nil)) (fun _ _ => rfl)) (pa_cons (pe_xfP mem hz hd (pv 2)) pa_nil))))) pss_nil)
    (pss_one (ps_ret (pe_ifExp (pt_val (pe_ix ix_list (pv 4) pe_int (fun _ _ => rfl))) (pe_tup (pa_cons pe_str (pa_cons (pe_xfP mem hz hd (pv 2)) pa_nil))) (pe_tup (pa_cons pe_str (pa_cons (pe_xfP mem hz hd (pv 2)) pa_nil))))))))))))))) ?_
  rintro D σ H ⟨i, v, hR, ⟨x0, x1, x3, x4, x5, rfl⟩, q⟩
  obtain ⟨rfl, hi, hdd⟩ := id hR
  have ei := T.ev i (by omega)
  have dOk : ∀ G, Same H G → (d = none ∨ ∃ dd fs, d = some dd ∧ G dd = some (.xd fs)) := fun G s => hdd.imp (fun z => z.2) fun ⟨_, dd, e1, e2⟩ => ⟨dd, _, e1, s _ _ e2⟩
  have sr : Same H H := fun _ _ e => e
  refine ⟨_, rfl, rfl, _, rfl, iteF ?_⟩
  refine ⟨_, rfl, cs i, _, rfl, dOk H sr, ei, T.vb, .inl ⟨_, _, rfl, .own _, T.kit hi (j := 0) (by decide) (by decide)⟩, _, rfl, cs i, _, rfl, dOk H sr, ei, T.vb, .inl ⟨_, _, rfl, .own _, T.kit hi (j := 1) (by decide) (by decide)⟩, _, rfl, cs i, _, rfl, dOk H sr, ei, T.vb, .inl ⟨_, _, rfl, .own _, T.kit hi (j := 2) (by decide) (by decide)⟩, (by show 3 ≤ sizeLine; decide), fun l1 nl1 => ?_⟩
  have j1 := new_same (o := .lst [.bl (decide (i = 0)), .bl (decide (i = 1)), .bl (decide (i = 2))]) nl1
  have e1 : upd H l1 (.lst [.bl (decide (i = 0)), .bl (decide (i = 1)), .bl (decide (i = 2))]) l1 = some (.lst [.bl (decide (i = 0)), .bl (decide (i = 1)), .bl (decide (i = 2))]) := upd_same
  generalize upd H l1 (.lst [.bl (decide (i = 0)), .bl (decide (i = 1)), .bl (decide (i = 2))]) = H1 at j1 e1 ⊢
  refine ⟨_, rfl, _, rfl, cs i, _, rfl, dOk H1 j1, ei, T.vb, .inl ⟨_, _, rfl, .own _, T.kit hi (j := 3) (by decide) (by decide)⟩, _, rfl, cs i, _, rfl, dOk H1 j1, ei, T.vb, .inl ⟨_, _, rfl, .own _, T.kit hi (j := 4) (by decide) (by decide)⟩, (by show 2 ≤ sizeLine; decide), fun l2 nl2 => ?_⟩
  have j2 := new_same (o := .lst [.bl (decide (i = 3)), .bl (decide (i = 4))]) nl2
  refine ⟨l1, l2, _, _, rfl, rfl, j2 _ _ e1, upd_same, (by show 3 + 2 ≤ sizeLine; decide), fun l3 nl3 => ?_⟩
  have j3 := (j1.trans j2).trans (new_same (o := .lst ([.bl (decide (i = 0)), .bl (decide (i = 1)), .bl (decide (i = 2))] ++ [.bl (decide (i = 3)), .bl (decide (i = 4))])) nl3)
  have e3 : upd (upd H1 l2 (.lst [.bl (decide (i = 3)), .bl (decide (i = 4))])) l3 (.lst ([.bl (decide (i = 0)), .bl (decide (i = 1)), .bl (decide (i = 2))] ++ [.bl (decide (i = 3)), .bl (decide (i = 4))])) l3 = some (.lst ((marksL i).map V.bl)) := upd_same
  generalize upd (upd H1 l2 (.lst [.bl (decide (i = 3)), .bl (decide (i = 4))])) l3 (.lst ([.bl (decide (i = 0)), .bl (decide (i = 1)), .bl (decide (i = 2))] ++ [.bl (decide (i = 3)), .bl (decide (i = 4))])) = H3 at j3 e3 ⊢
  refine ⟨_, rfl, (by show 8 ≤ sizeLine; decide), fun tp ntp => ?_⟩
  have j4 := new_same (o := .tup [.ref (cs 6), .ref (cs 7), .ref (cs 8), .ref (cs 9), .ref (cs 10), .ref (cs 11), .ref (cs 12), .ref (cs 13)]) ntp
  refine ⟨cs i, _, rfl, dOk _ (j3.trans j4), ei, T.vb, .inr ⟨tp, _, _, rfl, upd_same, (.cons (.own _) (.cons (.own _) (.cons (.own _) (.cons (.own _) (.cons (.own _) (.cons (.own _) (.cons (.own _) (.cons (.own _) .nil)))))))), T.any hi (l := [6, 7, 8, 9, 10, 11, 12, 13]) (by decide)⟩, ?_⟩
  have e4 := j4 _ _ e3
  have j04 := j3.trans j4
  generalize upd H3 tp (.tup [.ref (cs 6), .ref (cs 7), .ref (cs 8), .ref (cs 9), .ref (cs 10), .ref (cs 11), .ref (cs 12), .ref (cs 13)]) = H4 at j04 e4 ⊢
  refine ⟨_, rfl, _, rfl, iteF ?_⟩
  refine ⟨_, rfl, (by show 6 ≤ sizeLine; decide), fun tq ntq => ?_⟩
  have j5 := new_same (o := .tup [.ref (cs 14), .ref (cs 15), .ref (cs 16), .ref (cs 17), .ref (cs 18), .ref (cs 19)]) ntq
  refine ⟨cs i, _, rfl, dOk _ (j04.trans j5), ei, T.vb, .inr ⟨tq, _, _, rfl, upd_same, (.cons (.own _) (.cons (.own _) (.cons (.own _) (.cons (.own _) (.cons (.own _) (.cons (.own _) .nil)))))), T.any hi (l := [14, 15, 16, 17, 18, 19]) (by decide)⟩, ?_⟩
  have e5 := j5 _ _ e4
  have j05 := j04.trans j5
  generalize upd H4 tq (.tup [.ref (cs 14), .ref (cs 15), .ref (cs 16), .ref (cs 17), .ref (cs 18), .ref (cs 19)]) = H5 at j05 e5 ⊢
  have dO := dOk H5 j05
  have hR5 := hR.same j05
  refine ⟨_, rfl, .inl ⟨rfl, _, SqL.of e5⟩, l3, marksL i, true, rfl, rfl, SqL.of e5, rfl, _, rfl, ?_⟩
  rw [marks_one i hi]
  refine iteF' (by simp) ?_
  refine ⟨_, rfl, _, rfl, iteF ?_⟩
  refine ⟨_, rfl, cs i, _, rfl, dO, ei, T.vb, .inl ⟨_, _, rfl, .ty _, T.kitK hi⟩, _, rfl, l3, _, 4, _, rfl, rfl, SqL.of e5, atI_nat (j := 4) rfl, rfl, _, rfl, iteF' (by simp) ?_⟩
  refine ⟨_, rfl, cs i, _, rfl, dO, ei, T.vb, .inl ⟨_, _, rfl, .ty _, T.kitV hi⟩, _, rfl, l3, _, 4, _, rfl, rfl, SqL.of e5, atI_nat (j := 4) rfl, rfl, _, rfl, iteF' (by rw [decide_eq_true_eq]; intro z; have z := V.bl.inj z; by_cases h : i = 4 <;> simp [h] at z <;> omega) ?_⟩
  have out : ∀ (b : Addr) (G : Hp), Same H5 G → G b = none → D.rt (.ref b) (upd G b (.tup (heardL i v))) := fun b G sG nb => q G (j05.trans sG) b nb
  clear hdd
  have mem5 : ∀ k, 0 < k → k = i → ∃ dd, d = some dd ∧ H5 dd = some (.xd [(fldOf i, v)]) := fun k hk e => by
    rcases hR5.2.2 with ⟨z, _⟩ | ⟨_, z⟩
    · omega
    · exact z
  have sr5 : Same H5 H5 := fun _ _ e => e
  rcases (show i = 0 ∨ i = 1 ∨ i = 2 ∨ i = 3 ∨ i = 4 by omega) with rfl | rfl | rfl | rfl | rfl
  · exact ⟨_, rfl, l3, _, 0, _, rfl, rfl, SqL.of e5, atI_nat (j := 0) rfl, _, rfl, iteT ⟨(by show 1 ≤ sizeLine; decide), fun b nb => out b _ sr5 nb⟩⟩
  · obtain ⟨dd, ed, xd5⟩ := mem5 1 (by decide) rfl
    refine ⟨_, rfl, l3, _, 0, _, rfl, rfl, SqL.of e5, atI_nat (j := 0) rfl, _, rfl, iteF ?_⟩
    refine ⟨_, rfl, l3, _, 1, _, rfl, rfl, SqL.of e5, atI_nat (j := 1) rfl, _, rfl, iteT (iteT ?_)⟩
    refine ⟨(by show 2 ≤ sizeLine; decide), fun lb nlb => ?_⟩
    have j6 := new_same (o := .lst [.str "taken", .str "unknown"]) nlb
    have e6 := j6 _ _ e5
    have xd6 := j6 _ _ xd5
    refine ⟨_, rfl, l3, _, 4, _, rfl, rfl, SqL.of e6, atI_nat (j := 4) rfl, .inr ⟨_, rfl, ?_⟩⟩
    refine ⟨lb, _, 0, _, rfl, rfl, SqL.of upd_same, atI_nat (j := 0) rfl, ?_⟩
    exact ⟨_, rfl, rfl, cs 1, dd, _, v, rfl, ed, xd6, ei, T.no1, rfl, (by show 2 ≤ sizeLine; decide), fun b nb => out b _ j6 nb⟩
  · obtain ⟨dd, ed, xd5⟩ := mem5 2 (by decide) rfl
    refine ⟨_, rfl, l3, _, 0, _, rfl, rfl, SqL.of e5, atI_nat (j := 0) rfl, _, rfl, iteF ?_⟩
    refine ⟨_, rfl, l3, _, 1, _, rfl, rfl, SqL.of e5, atI_nat (j := 1) rfl, _, rfl, iteF ?_⟩
    refine ⟨_, rfl, l3, _, 4, _, rfl, rfl, SqL.of e5, atI_nat (j := 4) rfl, _, rfl, iteF ?_⟩
    exact ⟨_, rfl, l3, _, 2, _, rfl, rfl, SqL.of e5, atI_nat (j := 2) rfl, _, rfl, iteT ⟨_, rfl, rfl, cs 2, dd, _, v, rfl, ed, xd5, ei, T.no2, rfl, (by show 2 ≤ sizeLine; decide), fun b nb => out b _ sr5 nb⟩⟩
  · obtain ⟨dd, ed, xd5⟩ := mem5 3 (by decide) rfl
    refine ⟨_, rfl, l3, _, 0, _, rfl, rfl, SqL.of e5, atI_nat (j := 0) rfl, _, rfl, iteF ?_⟩
    refine ⟨_, rfl, l3, _, 1, _, rfl, rfl, SqL.of e5, atI_nat (j := 1) rfl, _, rfl, iteF ?_⟩
    refine ⟨_, rfl, l3, _, 4, _, rfl, rfl, SqL.of e5, atI_nat (j := 4) rfl, _, rfl, iteF ?_⟩
    exact ⟨_, rfl, l3, _, 2, _, rfl, rfl, SqL.of e5, atI_nat (j := 2) rfl, _, rfl, iteF ⟨_, rfl, rfl, cs 3, dd, _, v, rfl, ed, xd5, ei, T.no3, rfl, (by show 2 ≤ sizeLine; decide), fun b nb => out b _ sr5 nb⟩⟩
  · obtain ⟨dd, ed, xd5⟩ := mem5 4 (by decide) rfl
    refine ⟨_, rfl, l3, _, 0, _, rfl, rfl, SqL.of e5, atI_nat (j := 0) rfl, _, rfl, iteF ?_⟩
    refine ⟨_, rfl, l3, _, 1, _, rfl, rfl, SqL.of e5, atI_nat (j := 1) rfl, _, rfl, iteF ?_⟩
    refine ⟨_, rfl, l3, _, 4, _, rfl, rfl, SqL.of e5, atI_nat (j := 4) rfl, _, rfl, iteT ?_⟩
    refine ⟨(by show 2 ≤ sizeLine; decide), fun lb nlb => ?_⟩
    have j6 := new_same (o := .lst [.str "taken", .str "unknown"]) nlb
    have e6 := j6 _ _ e5
    have xd6 := j6 _ _ xd5
    refine ⟨_, rfl, l3, _, 4, _, rfl, rfl, SqL.of e6, atI_nat (j := 4) rfl, .inr ⟨_, rfl, ?_⟩⟩
    refine ⟨lb, _, 1, _, rfl, rfl, SqL.of upd_same, atI_nat (j := 1) rfl, ?_⟩
    exact ⟨_, rfl, rfl, cs 4, dd, _, v, rfl, ed, xd6, ei, T.no4, rfl, (by show 2 ≤ sizeLine; decide), fun b nb => out b _ j6 nb⟩
theorem heard_both {g : Addr} {q : Str} {cdg : Value} (T : Cls07 X.K X.mg cs) (mv : X.mg "ValueError" = none) (mk : X.mg "KeyError" = none) (mi : X.mg "int" = none) : GivesTo X nHeard "_law_heard" (defScope sHeard) g cdg (defBody sHeard) "_law_ask" q (TBoth X.K cs) := by
  intro f c' s H Q tl act hc h
  have nd := scHeard.nd
  rcases h with ⟨i, v, h⟩ | h
  · refine ⟨_, pss_cons (ps_set (i := 1) nd rfl (.inl rfl) pe_non) (pss_cons (ps_set (i := 2) nd rfl (.inl rfl) pe_non)
      (pss_keep2 (X := (cxOf C8.CX0 X.prog X.w X.K X.mg X.base nHeard "_law_heard" (defScope sHeard) g cdg X.A X.stack s H C8.E0).nox) (i := 3) (c1 := .ref (cs 5)) (c2 := .ref (cs 4))
        (tb := fun W D σ H => ∃ Ech : XK, (∀ cls d σ' H', Ech cls d H' → W cls d σ' H') ∧ σ[0]? = some (some (.ref f)) ∧ H c' = some (CodeO c' q) ∧ ∀ Qn : VK, tl Ech H Qn)
        (ts := fun a cls d => tAsg (tVar 3) (gName 2)) (tr := tsRest X.K cs)
        rfl rfl nd rfl rfl ⟨rfl, by decide, .inl T.g5⟩ ⟨rfl, by decide, .inl T.g4⟩ (fun W pn xe tk _ => ?_) (fun a oe cls d pn _ _ => pss_one (ps_set (i := 2) nd rfl (.inl rfl) (pv 3))) (fun a oe cls d pn hz hd => rest_ok T mv mk mi a oe cls d pn hz hd rfl))), ?_⟩
    · refine ⟨fun pins s' σ H' D I h' => ?_⟩
      obtain ⟨Ech, hW, h1, h2, h3⟩ := h'
      exact PSs.run (pss_one (ps_set (i := 1) nd rfl (.inl rfl) (act W pn xe Ech _ _ tk hW))) pins s' σ H' D I ⟨h1, h2, h3 _⟩
    · refine ⟨fun cls d H' => RefAt cs i v cls d H' ∧ ∀ H'', Same H' H'' → refT i v H'' Q, fun cls d σ' H' hcd => ?_, rfl, hc, h⟩
      obtain ⟨hR, hq⟩ := hcd
      obtain ⟨rfl, hi, _⟩ := id hR
      refine ⟨T.plan hi, fun len a na => ?_⟩
      have len : σ'.length = 6 := len
      match σ', len with
      | [y0, y1, y2, y3, y4, y5], _ =>
        exact ⟨.ref a, rfl, i, v, hR, ⟨_, _, _, _, _, rfl⟩, hq⟩
  · refine ⟨_, pss_cons (ps_set (i := 1) nd rfl (.inl rfl) pe_non) (pss_cons (ps_set (i := 2) nd rfl (.inl rfl) pe_non)
      (pss_cons (ps_try_calm (X := (cxOf C8.CX0 X.prog X.w X.K X.mg X.base nHeard "_law_heard" (defScope sHeard) g cdg X.A X.stack s H C8.E0).nox)
        (tb := fun W D σ H => ∃ Ech : XK, (∀ cls d σ' H', Ech cls d H' → W cls d σ' H') ∧ σ[0]? = some (some (.ref f)) ∧ H c' = some (CodeO c' q) ∧ tl Ech H (fun v H' => D.nx (σ.set 1 (some v)) H'))
        rfl (fun W pn xe tk _ => ?_))
      (pss_cons (ps_if (pt_cmpR op_isN (pv 2) pe_non (nomark _)) (pss_one (ps_ret (pe_tup (pa_cons pe_str (pa_cons (pv 1) pa_nil))))) pss_nil)
      (pss_cons ps_never (pss_cons ps_never (pss_cons ps_never (pss_cons ps_never (pss_cons ps_never (pss_cons ps_never (pss_cons ps_never (pss_cons ps_never (pss_one ps_never)))))))))))), ?_⟩
    · refine ⟨fun pins s' σ H' D I h' => ?_⟩
      obtain ⟨Ech, hW, h1, h2, h3⟩ := h'
      exact PSs.run (pss_one (ps_set (i := 1) nd rfl (.inl rfl) (act W pn xe Ech _ _ tk hW))) pins s' σ H' D I ⟨h1, h2, h3⟩
    · refine ⟨fun _ _ _ => False, fun cls d σ' H' z => z.elim, rfl, hc, ?_⟩
      refine h _ fun v H' hv => ?_
      exact ⟨_, rfl, rfl, _, rfl, iteT ⟨_, rfl, (by show 2 ≤ sizeLine; decide), fun b nb => hv b nb⟩⟩
end
end K07
end

section
set_option Elab.async false
set_option linter.all false
set_option maxRecDepth 100000
/-! Methods within a comprehension: what is done may not name the comprehension's own frame. -/
namespace Gd
open PySem PySem.Spec PyProof.Rows L2
section
variable {X : Cx} {o e : Expr} {es : List Expr} {to : TE} {t : TA} {name : Str} {apos cpos : Pos} {T id : String} {r : V → List V → Hp → VK → Prop} {K : PySem.W.Frag}
theorem pe_bmK (K : PySem.W.Frag) (r : V → List V → Hp → VK → Prop) (pa : PlainAttrs T) (slot : Slot T name id) (hty : typeOf (.builtin id) = pure (.type "method_descriptor")) (hm : MtR X id r) (ho : PE X o to) (ha : PA X (e :: es) t) (hK : X.K = K := by rfl)
    (hbase : attributeBase o name X.env (eval o X.env) = eval o X.env := by rfl)
    (hfew : ((backTo cpos (starEach (e :: es) X.env)).all (fun x => !x.1) && (backToKw cpos (keywordEach [] X.env)).all (fun x => x.1.isSome)
      && decide ((e :: es).length + ([] : List Keyword).length + (if ([] : List Keyword).isEmpty then 0 else 1) < 30)) = true := by rfl)
    (hline : (apos.endLine == cpos.line) = true := by rfl) (hs : starEach (e :: es) X.env = (false, eval e X.env) :: starEach es X.env := by rfl) (hplain : (backTo cpos (starEach es X.env)).any (·.1) = false := by rfl) :
    PE X (.Call (.Attribute o name apos) (e :: es) [] cpos) (tBM K T r to t) := by
  subst hK
  exact pe_bm pa slot hty hm ho ha hbase hfew hline hs hplain
theorem pe_tupleOfK (K : PySem.W.Frag) {a : Expr} {ta : TE} {p pos : Pos} (hg : Gl X "tuple") (hm : X.mg "tuple" = none) (ha : PE X a ta) (hK : X.K = K := by rfl) (na : starEach [a] X.env = (false, eval a X.env) :: starEach [] X.env := by rfl) :
    PE X (.Call (.Name "tuple" p) [a] [] pos) (tThen ta (kTup K)) := by
  subst hK
  exact pe_tupleOf hg hm ha na
theorem call_lenK (K : PySem.W.Frag) (hK : X.K = K := by rfl) : CallR X (.builtin "len") (fun xs H Q => ∃ p ys, xs = [V.ref p] ∧ (SqL K H p ys ∨ SqT K H p ys) ∧ Q (.int ys.length) H) := by
  subst hK
  exact call_len_seq
end
end Gd
end

section
set_option Elab.async false
set_option linter.all false
namespace Gd
open PySem PySem.Spec PyProof.Rows L2
theorem ixL (K : PySem.W.Frag) {X : Cx} (hK : X.K = K := by rfl) : IxR X (rIxL K) := by
  subst hK
  exact ix_list
theorem ixT (K : PySem.W.Frag) {X : Cx} (hK : X.K = K := by rfl) : IxR X (rIxT K) := by
  subst hK
  exact ix_tup
end Gd
end

section
set_option Elab.async false
set_option linter.all false
/-! a reading told otherwise. -/
namespace Gd
open PySem PySem.Spec PyProof.Rows L2
theorem peBy {X : Cx} {e : Expr} {t u : TE} (h : PE X e t) (i : ∀ σ H Q, u σ H Q → t σ H Q) : PE X e u := ⟨fun pins s σ H Q I q => h.run pins s σ H Q I (i _ _ _ q)⟩
theorem ptBy {X : Cx} {e : Expr} {t u : TT} (h : PT X e t) (i : ∀ σ H Q, u σ H Q → t σ H Q) : PT X e u := ⟨fun pins s σ H Q I q => h.run pins s σ H Q I (i _ _ _ q)⟩
theorem psBy {X : Cx} {e : Stmt} {t u : TS} (h : PS X e t) (i : ∀ D σ H, u D σ H → t D σ H) : PS X e u := ⟨fun pins s σ H D I q => h.run pins s σ H D I (i _ _ _ q)⟩
theorem pssBy {X : Cx} {e : List Stmt} {t u : TS} (h : PSs X e t) (i : ∀ D σ H, u D σ H → t D σ H) : PSs X e u := ⟨fun pins s σ H D I q => h.run pins s σ H D I (i _ _ _ q)⟩
end Gd
end

section
set_option Elab.async false
set_option linter.all false
set_option maxRecDepth 100000
set_option maxHeartbeats 4000000
/-! Tables: names. -/
namespace K07t
open PySem PySem.Spec PyProof.Rows L2 Gd
theorem pe_fldK (K : PySem.W.Frag) {X : Cx} {e : Expr} {f : Str} {pos : Pos} {ta : TE} (he : PE X e ta) (hb : attributeBase e f X.env (eval e X.env) = eval e X.env := by rfl) (hK : X.K = K := by rfl) : PE X (.Attribute e f pos) (tFld K ta f) := by
  subst hK
  exact pe_fld he hb
/-- the names of a moment, in the order of their making -/
def namesAt (ts : List Tab) (m : Nat) : List Str := (ts.filter fun t => decide (t.made < m)).map Tab.name
def spNames (K : PySem.W.Frag) (C : Addr) : Sp := fun vs H Q _ => ∃ (p : Addr) (x : Shelf) (F : Addr → Prop) (o : Option Nat), vs = [.ref p, momV o] ∧ ShelfF K C H p x F ∧ ShelfOk x ∧
  ∀ H' D (ys : List Str), ys.Perm (namesAt x.tabs (x.mo o)) → sortedS ys = true → Same H H' → H D = none → H' D = some (.lst (ys.map V.str)) → Q (.ref D) H'
theorem namesAt_succ (ts : List Tab) (m k : Nat) (t : Tab) (h : ts[k]? = some t) : namesAt (ts.take (k + 1)) m = if t.made < m then namesAt (ts.take k) m ++ [t.name] else namesAt (ts.take k) m := by
  unfold namesAt
  rw [List.take_add_one, h]
  show List.map _ (List.filter _ (ts.take k ++ [t])) = _
  rw [List.filter_append, List.map_append]
  by_cases z : t.made < m
  · rw [if_pos z]
    simp [z]
  · rw [if_neg z]
    simp [z]
section
variable {P : Program} {w : World} {K : PySem.W.Frag} {mg : Str → Option Value} {base : Heap} {f pS C : Addr} {fd : FuncData}
theorem ok_names (F : FunD K "names" "Tables.names" (defArgs sNames) (defBody sNames) (defScope sNames) [] [("moment", .non)] f fd) (T : TxtT K mg C) (N : Cs K mg pS) : FnOk P w K mg base CX0 1 f fd ["self", "moment"] (spNames K C) := by
  refine okFD F scNames (fun vs H Q E h => ?_) (fun cdv A outer s H vs Q E hr h => ?_)
  · obtain ⟨p, x, F, o, rfl, _⟩ := h
    rfl
  obtain ⟨p, x, FF, o, rfl, hS, ok, q⟩ := h
  have nd := scNames.nd
  have hu := hu_of hr
  refine ⟨_, C8.pss_cut (ps_set (i := 2) nd rfl (by first | exact .inl rfl | exact .inr rfl) (pe_ifExp (pt_cmpR op_isN (pv 1) pe_non (nomark _)) (pe_callB call_len_seq (by rfl) N.len PySem.boot_len (pa_cons (pe_fld (pv 0) rfl) pa_nil)) (pv 1)))
    (pss_one (ps_ret (pe_callB cr_sortedS (by rfl) T.so (by decide +kernel) (pa_cons (pe_lock (pe_lc (own := [("name", 3)]) (g := gName 3) rfl nd (pi_keys (pe_fld (pv 0) rfl)) (blkOk_by (N := nNames) (sc := defScope sNames) (by decide +kernel)) (fun _ _ _ _ _ => pg_name (i := 3) nd rfl (Or.inl rfl))
      (fun _ _ _ _ _ => pts_one (pt_cmpR op_lt (pe_dget hu (pe_fldK K (pv 0)) (pv 3) (fun _ _ => rfl)) (pv 2) (nomark _))) (fun _ _ _ _ _ => pv 3))) pa_nil)))), ?_⟩
  obtain ⟨dx, a, b, c, d, ds, ca, rl, S, hF⟩ := hS
  have lds : ds.length = x.deeds.length := S.deed.length
  refine ⟨fun σ' H' => H' = H ∧ σ' = [some (.ref p), some (momV o), some (.int (x.mo o)), none], ?_, ?_⟩
  · cases o with
    | none =>
      refine ⟨_, rfl, rfl, _, rfl, iteT' (decide_eq_true rfl) ?_⟩
      refine ⟨_, rfl, p, C, dx, _, _, rfl, S.ins, T.cl, T.nD, sf_d, a, _, rfl, .inl (SqL.of S.deeds), rfl, ?_⟩
      rw [lds]
      rfl
    | some m =>
      refine ⟨_, rfl, rfl, _, rfl, iteF' (by rw [decide_eq_true_eq]; exact fun z => nomatch z) ?_⟩
      exact ⟨_, rfl, rfl, rfl⟩
  rintro σ' H' ⟨rfl, rfl⟩
  generalize hm : x.mo o = m at q ⊢
  have npc : p ≠ c := ne_of S.ins S.made (fun z => nomatch z)
  refine ⟨c, _, S.made, trivial, fun od => ?_⟩
  have eL : upd H' c (.frz od (.dK (madeK x.tabs))) c = some (.frz od (.dK (madeK x.tabs))) := upd_same
  have oL : ∀ q o, q ≠ c → H' q = some o → upd H' c (.frz od (.dK (madeK x.tabs))) q = some o := fun q o n e => by rw [upd_ne n]; exact e
  have fL : ∀ q, upd H' c (.frz od (.dK (madeK x.tabs))) q = none → q ≠ c ∧ H' q = none := fun q e => by
    have n : q ≠ c := fun z => by rw [z, upd_same] at e; cases e
    rw [upd_ne n] at e
    exact ⟨n, e⟩
  generalize upd H' c (.frz od (.dK (madeK x.tabs))) = HL at eL oL fL ⊢
  refine ⟨_, rfl, p, C, dx, _, _, rfl, oL _ _ npc S.ins, T.cl, T.nM, sf_m, c, od, rfl, .inl ⟨_, eL, fun D nD => ?_⟩⟩
  obtain ⟨nDc, nD0⟩ := fL D nD
  have lmade : (madeK x.tabs).length = x.tabs.length := by unfold madeK; rw [List.length_map]
  refine lc_it walk_keys (fun k H5 => H5 c = some (.frz od (.dK (madeK x.tabs))) ∧ (∀ q o, q ≠ c → H' q = some o → H5 q = some o) ∧ H5 D = some (.lst ((namesAt (x.tabs.take k) m).map V.str)))
    ⟨by rw [upd_ne nDc.symm]; exact eL, fun q o n e => by rw [upd_ne (ne_of_none e nD0)]; exact oL q o n e, upd_same⟩ (fun k H5 _ h => h.1) ?_ ?_
  · rintro k y H5 H6 hk ⟨hc, ho, hD⟩ ⟨rfl, ky, v, ek, rfl⟩
    rw [lmade] at hk
    have ht : x.tabs[k]? = some x.tabs[k] := List.getElem?_eq_getElem hk
    have ek2 : (ky, v) = ((.inr x.tabs[k].name : Key), V.int (x.tabs[k].made : Nat)) := by
      unfold madeK at ek
      rw [List.getElem?_map, ht] at ek
      exact (Option.some.inj ek).symm
    cases ek2
    have g1 : DGet H6 c (.str x.tabs[k].name) (some (.int (x.tabs[k].made : Nat))) := .inl ⟨_, .inr x.tabs[k].name, .inr ⟨od, hc⟩, rfl, (valV_made x.tabs k _ ok.nd ht).symm⟩
    refine ⟨rfl, ?_⟩
    refine ⟨_, rfl, p, C, dx, _, _, rfl, ho _ _ npc S.ins, T.cl, T.nM, sf_m, _, rfl, c, _, rfl, g1, _, rfl, _, _, rfl, rfl, _, rfl, ?_⟩
    rw [namesAt_succ x.tabs m k _ ht]
    by_cases z : x.tabs[k].made < m
    · rw [if_pos z]
      refine iteT' (decide_eq_true (by omega)) ?_
      have l6 := ok.tabs
      refine ⟨_, rfl, _, hD, ?_, by rw [upd_ne nDc.symm]; exact hc, fun q o n e => by rw [upd_ne (ne_of_none e nD0)]; exact ho q o n e, by rw [upd_same, List.map_append]; rfl⟩
      rw [List.length_map, sizeLine_eq]
      unfold namesAt
      have h1 := List.length_filter_le (fun t : Tab => decide (t.made < m)) (x.tabs.take k)
      rw [List.length_map]
      rw [List.length_take] at h1
      omega
    · rw [if_neg z]
      exact iteF' (by rw [decide_eq_true_eq]; omega) ⟨hc, ho, hD⟩
  rintro H5 ⟨hc, ho, hD⟩
  rw [lmade, List.take_length] at hD
  refine ⟨hc, ?_⟩
  have D5 : upd H5 c (.dK (madeK x.tabs)) D = some (.lst ((namesAt x.tabs m).map V.str)) := by rw [upd_ne nDc]; exact hD
  have s5 : Same H' (upd H5 c (.dK (madeK x.tabs))) := fun q o e => by
    by_cases n : q = c
    · rw [n] at e ⊢
      rw [upd_same, ← S.made, e]
    · rw [upd_ne n]
      exact ho q o n e
  refine ⟨D, _, rfl, SqL.of D5, ?_, fun ys r py sy nr => q _ r ys py sy (s5.trans (new_same nr)) (s5.free nr) upd_same⟩
  unfold namesAt
  have l6 := ok.tabs
  have h1 := List.length_filter_le (fun t : Tab => decide (t.made < m)) x.tabs
  rw [List.length_map]
  omega
end
end K07t
end

section
set_option Elab.async false
set_option linter.all false
set_option maxRecDepth 100000
set_option maxHeartbeats 4000000
/-! Tables: what a deed keeps well made. -/
namespace K07t
open PySem PySem.Spec PyProof.Rows L2 Gd
theorem onRows_names (x : Shelf) (n : Str) (g : List Rw → List Rw) : (x.onRows n g).tabs.map Tab.name = x.tabs.map Tab.name := by
  show (x.tabs.map (onTab n fun t => { t with rows := g t.rows })).map Tab.name = _
  rw [List.map_map]
  exact List.map_congr_left fun t _ => (onTab_same n g t).1
theorem onRows_mem {x : Shelf} {n : Str} {g : List Rw → List Rw} {u : Tab} (h : u ∈ (x.onRows n g).tabs) : ∃ t ∈ x.tabs, u.name = t.name ∧ u.cols = t.cols ∧ u.made = t.made ∧ ((t.name ≠ n ∧ u.rows = t.rows) ∨ (t.name = n ∧ u.rows = g t.rows)) := by
  obtain ⟨t, ht, e⟩ := List.mem_map.mp (show u ∈ x.tabs.map (onTab n fun t => { t with rows := g t.rows }) from h)
  refine ⟨t, ht, ?_⟩
  obtain ⟨a1, a2, a3⟩ := onTab_same n g t
  rw [← e]
  refine ⟨a1, a2, a3, ?_⟩
  unfold onTab
  by_cases z : t.name = n
  · rw [if_pos z]
    exact .inr ⟨z, rfl⟩
  · rw [if_neg z]
    exact .inl ⟨z, rfl⟩
theorem tab_one {x : Shelf} (nd : (x.tabs.map Tab.name).Nodup) {i : Nat} {t u : Tab} (hi : x.tabs[i]? = some t) (hu : u ∈ x.tabs) (e : u.name = t.name) : u = t := by
  obtain ⟨j, hj⟩ := List.mem_iff_getElem?.mp hu
  have := name_inj nd hj hi e
  rw [this, hi] at hj
  exact (Option.some.inj hj).symm
theorem ok_on {x : Shelf} (ok : ShelfOk x) {ds : List Deed} (hl : ds.length ≤ 4000) (n : Str) (g : List Rw → List Rw) (h1 : ∀ t ∈ x.tabs, t.name = n → (g t.rows).length ≤ 60) (h2 : ∀ t ∈ x.tabs, t.name = n → ∀ r ∈ g t.rows, r.ws.length ≤ 1000) : ShelfOk ⟨ds, (x.onRows n g).tabs⟩ := by
  refine ⟨by rw [onRows_names]; exact ok.nd, fun u hu => ?_, hl, by show (x.onRows n g).tabs.length ≤ 6; rw [show (x.onRows n g).tabs.length = x.tabs.length from List.length_map _]; exact ok.tabs, fun u hu => ?_, fun u hu => ?_⟩
  · obtain ⟨t, ht, e1, _⟩ := onRows_mem hu
    rw [e1]
    exact ok.lab t ht
  · obtain ⟨t, ht, _, _, _, (⟨_, e⟩ | ⟨en, e⟩)⟩ := onRows_mem hu
    · rw [e]
      exact ok.rows t ht
    · rw [e]
      exact h1 t ht en
  · obtain ⟨t, ht, _, _, _, (⟨_, e⟩ | ⟨en, e⟩)⟩ := onRows_mem hu
    · rw [e]
      exact ok.ws t ht
    · rw [e]
      exact h2 t ht en
/-- a deed keeps all well made -/
theorem ShelfOk.next {x y : Shelf} {d : Deed} (ok : ShelfOk x) (dok : DeedOk d) (can : Can x d y) (h : x.deeds.length < 4000) : ShelfOk { y with deeds := x.deeds ++ [d] } := by
  have hl : (x.deeds ++ [d]).length ≤ 4000 := by
    rw [List.length_append, List.length_singleton]
    omega
  cases d with
  | table n cs =>
    obtain ⟨c1, c2, rfl⟩ := can
    refine ⟨?_, fun t ht => ?_, hl, ?_, fun t ht => ?_, fun t ht => ?_⟩
    · show ((x.tabs ++ [(⟨n, cs, x.deeds.length, []⟩ : Tab)]).map Tab.name).Nodup
      rw [List.map_append]
      refine List.nodup_append.mpr ⟨ok.nd, by simp, fun a ha b hb e => ?_⟩
      have hb : b = n := by simpa using hb
      rw [e, hb] at ha
      exact c1 ha
    · rcases List.mem_append.mp (show t ∈ x.tabs ++ [(⟨n, cs, x.deeds.length, []⟩ : Tab)] from ht) with m | m
      · exact ok.lab t m
      · rw [List.mem_singleton.mp m]
        exact dok.1
    · show (x.tabs ++ [(⟨n, cs, x.deeds.length, []⟩ : Tab)]).length ≤ 6
      rw [List.length_append, List.length_singleton]
      omega
    · rcases List.mem_append.mp (show t ∈ x.tabs ++ [(⟨n, cs, x.deeds.length, []⟩ : Tab)] from ht) with m | m
      · exact ok.rows t m
      · rw [List.mem_singleton.mp m]
        exact Nat.zero_le _
    · rcases List.mem_append.mp (show t ∈ x.tabs ++ [(⟨n, cs, x.deeds.length, []⟩ : Tab)] from ht) with m | m
      · exact ok.ws t m
      · rw [List.mem_singleton.mp m]
        exact fun r hr => absurd hr (by simp)
  | row n ws =>
    obtain ⟨i, t0, h0, rfl, h60, hw, rfl⟩ := can
    refine ok_on ok hl t0.name _ (fun t ht en => ?_) fun t ht en r hr => ?_
    · rw [tab_one ok.nd h0 ht en, List.length_append, List.length_singleton]
      omega
    · rcases List.mem_append.mp hr with m | m
      · exact ok.ws t ht r m
      · rw [List.mem_singleton.mp m]
        exact dok.2.2
  | out n k =>
    obtain ⟨i, t0, r0, h0, rfl, hk, ho, rfl⟩ := can
    refine ok_on ok hl t0.name _ (fun t ht en => ?_) fun t ht en r hr => ?_
    · rw [List.length_set]
      exact ok.rows t ht
    · rcases List.mem_or_eq_of_mem_set hr with m | m
      · exact ok.ws t ht r m
      · rw [m]
        exact ok.ws t0 (List.mem_of_getElem? h0) r0 (List.mem_of_getElem? hk)
end K07t
end

section
set_option Elab.async false
set_option linter.all false
set_option maxRecDepth 100000
set_option maxHeartbeats 4000000
/-! Tables: what is told of a moment, or refused. -/
namespace K07t
open PySem PySem.Spec PyProof.Rows L2 Gd
theorem okFDX {P : Program} {w : World} {K : PySem.W.Frag} {mg : Str → Option Value} {base : Heap} {x qual : Str} {st : Stmt} {dvs : List V} {kws : List (Str × V)} {f : Addr} {fd : FuncData} {N ps : List Str} {k : Nat} {sp : Sp} (F : FunD K x qual (defArgs st) (defBody st) (defScope st) dvs kws f fd) (S : FnScope N ps (defScope st)) (len : ∀ vs H Q E, sp vs H Q E → vs.length = ps.length)
    (hbody : ∀ (cdv : Value) (A : Around) (outer : List Env) (s : Shared) (H : Hp) (vs : List V) (Q : VK) (E : XK), Room k (A.deeper (envOfC qual (defScope st) s.heap.objs.size f cdv)) → sp vs H Q E →
      ∃ t, PSs (cxOf (L2.CX P w) P w K mg base N qual (defScope st) f cdv A outer s H E) (defBody st) t ∧ t { nx := fun _ H' => Q .non H', rt := Q } (L2.start N vs) H) : FnOk P w K mg base (L2.CX P w) (k + 1) f fd ps sp := by
  obtain ⟨oc, od, dV, kV, doc, pm, an, cdv, ct, osl, rfl, lk, hcd, _, _⟩ := F.ex
  exact fn_of lk hcd S len fun A outer s H vs Q E hr hsp => hbody cdv A outer s H vs Q E hr hsp
/-- a table of a name is there at a moment -/
def Sees (x : Shelf) (n : Str) (o : Option Nat) (i : Nat) (t : Tab) : Prop := x.tabs[i]? = some t ∧ t.name = n ∧ x.mo o ≤ x.deeds.length ∧ t.made < x.mo o
/-- no table of a name is there then: it is refused -/
def Blind (H : Hp) (U : Addr) (x : Shelf) (n : Str) (o : Option Nat) (E : XK) : Prop := (∀ i t, ¬ Sees x n o i t) → ∀ (dd : Addr) (H' : Hp), Same H H' → H' dd = some (.xd [("name", .str n)]) → E (.ref U) (some dd) H'
def spMofX (K : PySem.W.Frag) (C U : Addr) : Sp := fun vs H Q E => ∃ (p : Addr) (x : Shelf) (F : Addr → Prop) (n : Str) (o : Option Nat), vs = [.ref p, .str n, momV o] ∧ ShelfF K C H p x F ∧ ShelfOk x ∧ isLab n = true ∧
  (∀ i t, Sees x n o i t → ∀ H', Same H H' → Q (.int (x.mo o)) H') ∧ Blind H U x n o E
def spColumnsX (K : PySem.W.Frag) (C U : Addr) : Sp := fun vs H Q E => ∃ (p : Addr) (x : Shelf) (F : Addr → Prop) (n : Str) (o : Option Nat), vs = [.ref p, .str n, momV o] ∧ ShelfF K C H p x F ∧ ShelfOk x ∧ isLab n = true ∧
  (∀ i t, Sees x n o i t → ∀ H' a, Same H H' → SqT K H' a (t.cols.map V.str) → Q (.ref a) H') ∧ Blind H U x n o E
def spRowsX (K : PySem.W.Frag) (C U : Addr) : Sp := fun vs H Q E => ∃ (p : Addr) (x : Shelf) (F : Addr → Prop) (n : Str) (o : Option Nat), vs = [.ref p, .str n, momV o] ∧ ShelfF K C H p x F ∧ ShelfOk x ∧ isLab n = true ∧
  (∀ i t, Sees x n o i t → ∀ H' D us, Same H H' → H D = none → H' D = some (.lst us) → DpAll K H' us ((t.at (x.mo o) t.rows.length).map rowD) → Q (.ref D) H') ∧ Blind H U x n o E
section
variable {P : Program} {w : World} {K : PySem.W.Frag} {mg : Str → Option Value} {base : Heap} {f fN pS C U fU : Addr} {fd dN dU : FuncData}
theorem ok_mofX (F : Fun K "_moment_of" "Tables._moment_of" sMof f fd) (T : TxtT K mg C) (N : Cs K mg pS) (MU : MkX P w K mg base U "name" fU dU) (gU : mg "Unknown" = some (.ref U))
    (FN : Fun K "is_name" "is_name" sName fN dN) (GN : FnOk P w K mg base CX0 1 fN dN ["thing"] (spChk K isLabD)) (gN : mg "is_name" = some (.ref fN)) (bN : Binds K dN ["thing"] []) : FnOk P w K mg base (L2.CX P w) 4 f fd ["self", "name", "moment"] (spMofX K C U) := by
  refine F.okX scMof (fun vs H Q E h => ?_) (fun cdv A outer s H vs Q E hr h => ?_)
  · obtain ⟨p, x, F, n, o, rfl, _⟩ := h
    rfl
  obtain ⟨p, x, FF, n, o, rfl, hS, ok, hla, q1, q2⟩ := h
  have nd := scMof.nd
  have hu := hu_of hr
  have r1 := hr.mono (show 1 ≤ 3 by decide)
  refine ⟨_, C8.pss_cut (ps_if (pt_cmpR op_isN (pv 2) pe_non (nomark _)) (pss_one (ps_set (i := 2) nd rfl (.inl rfl) (pe_callB call_len_seq (by rfl) N.len PySem.boot_len (pa_cons (pe_fld (pv 0) rfl) pa_nil)))) pss_nil)
    (pss_cons (ps_if (PW.pt (pw_or (pt_not (pt_val (pe_call GN r1 (by rfl) gN FN.kp bN .nil pass0 (pa_cons (pv 1) pa_nil)))) (pw_or1 (pt_cmp (pc_dnotin hu (pv 1) (pe_fld (pv 0) rfl)))))) (pss_one (ps_raise rfl (takes_of rfl rfl rfl rfl) (pmkM MU.mks MU.kC MU.ex MU.ty MU.F hr MU.b pass0 (by rfl) gU (pa_cons (pv 1) pa_nil)))) pss_nil)
    (pss_cons (ps_if (PW.pt (pw_or (pt_cmpR op_gt (pv 2) (pe_callB call_len_seq (by rfl) N.len PySem.boot_len (pa_cons (pe_fld (pv 0) rfl) pa_nil)) (nomark _)) (pw_or1 (pt_cmpR op_ge (pe_dget hu (pe_fld (pv 0) rfl) (pv 1) (fun _ _ => rfl)) (pv 2) (nomark _))))) (pss_one (ps_raise rfl (takes_of rfl rfl rfl rfl) (pmkM MU.mks MU.kC MU.ex MU.ty MU.F hr MU.b pass0 (by rfl) gU (pa_cons (pv 1) pa_nil)))) pss_nil)
    (pss_one (ps_ret (pv 2))))), ?_⟩
  obtain ⟨dx, a, b, c, d, ds, ca, rl, S, hF⟩ := hS
  have lds : ds.length = x.deeds.length := S.deed.length
  refine ⟨fun σ' H' => H' = H ∧ σ' = [some (.ref p), some (.str n), some (.int (x.mo o))], ?_, ?_⟩
  · cases o with
    | none =>
      refine ⟨_, rfl, rfl, _, rfl, iteT' (decide_eq_true rfl) ?_⟩
      refine ⟨_, rfl, p, C, dx, _, _, rfl, S.ins, T.cl, T.nD, sf_d, a, _, rfl, .inl (SqL.of S.deeds), rfl, ?_⟩
      rw [lds]
      rfl
    | some m =>
      refine ⟨_, rfl, rfl, _, rfl, iteF' (by rw [decide_eq_true_eq]; exact fun z => nomatch z) ?_⟩
      exact ⟨rfl, rfl⟩
  rintro σ' H' ⟨rfl, rfl⟩
  refine ⟨_, rfl, fun _ => False, _, .str n, rfl, .str _, lab_ok hla, fun H1 s1 => ⟨_, rfl, ?_⟩⟩
  rw [show isLabD (.str n) = true from hla]
  refine iteF ?_
  have i1 := s1 _ _ S.ins
  have m1 := s1 _ _ S.made
  have ras : (∀ i t, ¬ Sees x n o i t) → ∀ a, H1 a = none → spIni K U "name" [.ref a, .str n] (upd H1 a (exo a U none)) (fun u H2 => u = .non ∧ ∃ (dd : Addr) (fs : List (Str × V)), H2 a = some (exo a U (some dd)) ∧ H2 dd = some (exd dd fs) ∧ H1 dd = none ∧ E (.ref U) (some dd) (upd (del H2 a) dd (.xd fs))) (fun _ _ _ => False) := fun no a na =>
    raised (v := .str n) na (fun dd H2 s2 e2 => q2 no dd H2 (s1.trans s2) e2) (.str n) (flat_str n)
  by_cases hm : n ∈ x.tabs.map Tab.name
  · obtain ⟨t, tm, rfl⟩ := List.mem_map.mp hm
    obtain ⟨i, ht⟩ := List.mem_iff_getElem?.mp tm
    have only : ∀ i' t', Sees x t.name o i' t' → t' = t := fun i' t' z => tab_one ok.nd ht (List.mem_of_getElem? z.1) z.2.1
    have vm : valV (madeK x.tabs) (.inr t.name) = some (.int t.made) := valV_made x.tabs i t ok.nd ht
    have g1 : DGet H1 c (.str t.name) (some (.int t.made)) := by
      have z := DGet.k (k := .inr t.name) m1
      rw [vm] at z
      exact z
    refine ⟨_, rfl, _, rfl, p, C, dx, _, _, rfl, i1, T.cl, T.nM, sf_m, c, _, rfl, g1, _, rfl, iteF ?_⟩
    refine ⟨_, rfl, _, rfl, p, C, dx, _, _, rfl, i1, T.cl, T.nD, sf_d, a, _, rfl, .inl (SqL.of (s1 _ _ S.deeds)), _, _, rfl, rfl, _, rfl, ?_⟩
    rw [lds]
    by_cases z1 : x.mo o ≤ x.deeds.length
    · refine iteF' (by rw [decide_eq_true_eq]; omega) ?_
      refine ⟨_, rfl, p, C, dx, _, _, rfl, i1, T.cl, T.nM, sf_m, _, rfl, c, _, rfl, g1, _, rfl, _, _, rfl, rfl, _, rfl, ?_⟩
      by_cases z2 : t.made < x.mo o
      · refine iteF' (by rw [decide_eq_true_eq]; omega) ?_
        exact ⟨_, rfl, q1 i t ⟨ht, rfl, z1, z2⟩ _ s1⟩
      · refine iteT' (by rw [decide_eq_true_eq]; omega) ?_
        exact ⟨_, rfl, by show 1 ≤ 1000; decide, fun a na => ras (fun i' t' z => by rw [only i' t' z] at z; exact z2 z.2.2.2) a na⟩
    · refine iteT' (by rw [decide_eq_true_eq]; omega) (iteT ?_)
      exact ⟨_, rfl, by show 1 ≤ 1000; decide, fun a na => ras (fun i' t' z => z1 z.2.2.1) a na⟩
  · have vm : valV (madeK x.tabs) (.inr n) = none := valV_made_no x.tabs hm
    have g1 : DGet H1 c (.str n) none := by
      have z := DGet.k (k := .inr n) m1
      rw [vm] at z
      exact z
    refine ⟨_, rfl, _, rfl, p, C, dx, _, _, rfl, i1, T.cl, T.nM, sf_m, c, _, rfl, g1, _, rfl, iteT ?_⟩
    exact ⟨_, rfl, by show 1 ≤ 1000; decide, fun a na => ras (fun i' t' z => hm (List.mem_map.mpr ⟨t', List.mem_of_getElem? z.1, z.2.1⟩)) a na⟩
theorem ok_columnsX (F : FunD K "columns" "Tables.columns" (defArgs sColumns) (defBody sColumns) (defScope sColumns) [] [("moment", .non)] f fd) (T : TxtT K mg C) (M : Mt P w K mg base C "_moment_of" ["self", "name", "moment"] (L2.CX P w) 4 (spMofX K C U)) :
    FnOk P w K mg base (L2.CX P w) 5 f fd ["self", "name", "moment"] (spColumnsX K C U) := by
  refine okFDX F scColumns (fun vs H Q E h => ?_) (fun cdv A outer s H vs Q E hr h => ?_)
  · obtain ⟨p, x, F, n, o, rfl, _⟩ := h
    rfl
  obtain ⟨p, x, FF, n, o, rfl, hS, ok, hla, q1, q2⟩ := h
  obtain ⟨fM, dM, mM, GM, bM⟩ := M.ex
  have nd := scColumns.nd
  have hu := hu_of hr
  refine ⟨_, pss_cons (ps_expr (pe_meth (pv 0) T.cl mM GM hr bM .nil (passes_call (takes_of rfl rfl rfl rfl) (fun _ _ _ _ h => h)) (pa_cons (pv 1) (pa_cons (pv 2) pa_nil)))) (pss_one (ps_ret (pe_dget hu (pe_fld (pv 0) rfl) (pv 1) (fun _ _ => rfl)))), ?_⟩
  have hS0 := hS
  obtain ⟨dx, a, b, c, d, ds, ca, rl, S, hF⟩ := hS
  refine ⟨_, rfl, p, dx, _, rfl, S.ins, sf_no (by decide), _, rfl, _, rfl, p, x, FF, n, o, rfl, hS0, ok, hla, fun i t hs H1 s1 => ?_, q2⟩
  obtain ⟨ht, rfl, mo1, mo2⟩ := id hs
  have g1 : DGet H1 b (.str t.name) (some (.ref (ca i))) := by
    have z := DGet.k (k := .inr t.name) (s1 _ _ S.cols)
    unfold colsK at z
    rw [valV_idx (f := fun j => .ref (ca j)) x.tabs 0 i t ok.nd ht, Nat.zero_add] at z
    exact z
  exact ⟨_, rfl, p, C, dx, _, _, rfl, s1 _ _ S.ins, T.cl, T.nC, sf_c, _, rfl, b, _, rfl, g1, q1 i t hs H1 _ s1 (Tups.of_same s1 _ _ (S.colAt i t ht))⟩
theorem ok_rowsX (F : FunD K "rows" "Tables.rows" (defArgs sRows) (defBody sRows) (defScope sRows) [] [("moment", .non)] f fd) (T : TxtT K mg C) (M : Mt P w K mg base C "_moment_of" ["self", "name", "moment"] (L2.CX P w) 4 (spMofX K C U)) :
    FnOk P w K mg base (L2.CX P w) 5 f fd ["self", "name", "moment"] (spRowsX K C U) := by
  refine okFDX F scRows (fun vs H Q E h => ?_) (fun cdv A outer s H vs Q E hr h => ?_)
  · obtain ⟨p, x, F, n, o, rfl, _⟩ := h
    rfl
  obtain ⟨p, x, FF, n, o, rfl, hS, ok, hla, q1, q2⟩ := h
  obtain ⟨fM, dM, mM, GM, bM⟩ := M.ex
  have nd := scRows.nd
  have hu := hu_of hr
  refine ⟨_, pss_cons (ps_set (i := 3) nd rfl (by first | exact .inl rfl | exact .inr rfl) (pe_meth (pv 0) T.cl mM GM hr bM .nil (passes_call (takes_of rfl rfl rfl rfl) (fun _ _ _ _ h => h)) (pa_cons (pv 1) (pa_cons (pv 2) pa_nil))))
    (PSs.nox (pss_one (ps_ret (pe_lc (own := [("number", 4), ("worths", 5), ("put", 6), ("out", 7)]) (g := gTup K 2 (gCons (gName 4) (gCons (gTup K 3 (gCons (gName 5) (gCons (gName 6) (gCons (gName 7) gNil)))) gNil))) rfl nd
      (pi_enum (by rfl) T.en (pa_cons (pe_dget hu (pe_fld (pv 0) rfl) (pv 1) (fun _ _ => rfl)) pa_nil)) (blkOk_by (N := nRows) (sc := defScope sRows) (by decide +kernel))
      (fun _ _ _ _ _ => pg_tup rfl (pgs_cons (pg_name (i := 4) nd rfl (Or.inl rfl)) (pgs_cons (pg_tup rfl (pgs_cons (pg_name (i := 5) nd rfl (Or.inl rfl)) (pgs_cons (pg_name (i := 6) nd rfl (Or.inl rfl)) (pgs_cons (pg_name (i := 7) nd rfl (Or.inl rfl)) pgs_nil)))) pgs_nil)))
      (fun _ _ _ _ _ => pts_one (PW.pt (pw_and (pt_cmpR op_lt (pv 6) (pv 3) (nomark _)) (pw_and1 (PW.pt (pw_or (pt_cmpR op_isN (pv 7) pe_non (nomark _)) (pw_or1 (pt_cmpR op_ge (pv 7) (pv 3) (nomark _)))))))))
      (fun _ _ _ _ _ => pe_tup (pa_cons (pv 4) (pa_cons (pv 5) pa_nil))))))), ?_⟩
  have hS0 := hS
  obtain ⟨dx, a, b, c, d, ds, ca, rl, S, hF⟩ := hS
  refine ⟨_, rfl, p, dx, _, rfl, S.ins, sf_no (by decide), _, rfl, _, rfl, p, x, FF, n, o, rfl, hS0, ok, hla, fun i t hs H1 s1 => ?_, q2⟩
  obtain ⟨ht, rfl, mo1, mo2⟩ := id hs
  have q := q1 i t hs
  have g1 : DGet H1 d (.str t.name) (some (.ref (rl i))) := by
    have z := DGet.k (k := .inr t.name) (s1 _ _ S.rows)
    unfold rowsK at z
    rw [valV_idx (f := fun j => .ref (rl j)) x.tabs 0 i t ok.nd ht, Nat.zero_add] at z
    exact z
  obtain ⟨vs, ev, hv⟩ := S.rowAt i t ht
  have lv : vs.length = t.rows.length := hv.length
  have l60 := ok.rows t (List.mem_of_getElem? ht)
  have wsl : ∀ r ∈ t.rows, r.ws.length ≤ 1000 := fun r hr0 => ok.ws t (List.mem_of_getElem? ht) r hr0
  refine ⟨_, rfl, p, C, dx, _, _, rfl, s1 _ _ S.ins, T.cl, T.nR, sf_r, _, rfl, d, _, rfl, g1, rl i, _, rfl, SqL.of (s1 _ _ ev), fun D nD => ?_⟩
  have e1 := s1 _ _ ev
  have r1 : RowsAt K H1 vs t.rows := hv.tups (Tups.of_same s1)
  generalize hm : x.mo o = m at mo1 mo2 q ⊢
  refine lc_it walk_enum (fun k H5 => Same H1 H5 ∧ ∃ us, H5 D = some (.lst us) ∧ DpAll K H5 us ((t.at m k).map rowD)) ⟨new_same nD, [], upd_same, by
      have z : t.at m 0 = [] := rfl
      rw [z]
      exact .nil⟩ (fun k H5 _ h => SqL.of (h.1 _ _ e1)) ?_ ?_
  · rintro k y H5 H6 hk ⟨s5, us, eD, dA⟩ ⟨T0, v1, v2, rfl, nT0, rfl, ei, ex⟩
    cases ei
    have hk : k < vs.length := hk
    have j6 := new_same (o := .tup [.int ((k : Nat) : Int), v2]) nT0
    have s6 := s5.trans j6
    obtain ⟨r, er, hr'⟩ := each_at r1 ex
    obtain ⟨ra, wa, rfl, hra, hwa⟩ := hr'.tups (Tups.of_same s6)
    have eD6 := j6 _ _ eD
    have dA6 := DpAll.same j6 _ dA
    have e6 : upd H5 T0 (.tup [.int ((k : Nat) : Int), .ref ra]) T0 = some (.tup [.int ((k : Nat) : Int), .ref ra]) := upd_same
    generalize upd H5 T0 (.tup [.int ((k : Nat) : Int), .ref ra]) = H6 at s6 hra hwa eD6 dA6 e6 ⊢
    have lu : us.length ≤ k := by
      have z := DpAll.len dA6
      rw [z, List.length_map]
      unfold Tab.at
      refine Nat.le_trans (List.length_filter_le _ _) ?_
      rw [List.length_map, List.length_zipIdx, List.length_take]
      omega
    have no : ∀ G, stands m r ≠ true → Same H6 G → Same H1 G ∧ ∃ us, G D = some (.lst us) ∧ DpAll K G us ((t.at m (k + 1)).map rowD) := fun G z sG => by
      rw [at_succ t m k r er, if_neg z]
      exact ⟨s6.trans sG, us, sG _ _ eD6, DpAll.same sG _ dA6⟩
    refine ⟨T0, _, rfl, SqT.of e6, rfl, _, _, rfl, _, _, rfl, ⟨ra, _, rfl, hra, rfl, _, _, rfl, _, _, rfl, _, _, rfl, rfl, ?_⟩⟩
    have yes : stands m r = true → ∀ q, H6 q = none → ∃ acc, upd H6 q (.tup [.int ((k : Nat) : Int), .ref wa]) D = some (.lst acc) ∧ acc.length < sizeLine ∧ Same H1 (upd (upd H6 q (.tup [.int ((k : Nat) : Int), .ref wa])) D (.lst (acc ++ [.ref q]))) ∧
        ∃ us, upd (upd H6 q (.tup [.int ((k : Nat) : Int), .ref wa])) D (.lst (acc ++ [.ref q])) D = some (.lst us) ∧ DpAll K (upd (upd H6 q (.tup [.int ((k : Nat) : Int), .ref wa])) D (.lst (acc ++ [.ref q]))) us ((t.at m (k + 1)).map rowD) := fun z q nq => by
      have jq := new_same (o := .tup [.int ((k : Nat) : Int), .ref wa]) nq
      have eD7 := jq _ _ eD6
      have dA7 := DpAll.same jq _ dA6
      have hwa7 := Tups.of_same jq _ _ hwa
      have eq7 : upd H6 q (.tup [.int ((k : Nat) : Int), .ref wa]) q = some (.tup [.int ((k : Nat) : Int), .ref wa]) := upd_same
      have s7 := s6.trans jq
      generalize upd H6 q (.tup [.int ((k : Nat) : Int), .ref wa]) = H7 at eD7 dA7 hwa7 eq7 s7 ⊢
      have dr : Dp K H7 (.ref q) (rowD (k, r)) := .tup (SqT.of eq7) (.cons (.int _) (.cons (.tup hwa7 (dp_ints r.ws)) .nil))
      have tp : Tups K H7 (upd H7 D (.lst (us ++ [.ref q]))) := .upd_lst eD7
      refine ⟨us, eD7, by rw [sizeLine_eq]; omega, fun b u e => ?_, us ++ [.ref q], upd_same, ?_⟩
      · rw [upd_ne (ne_of_none e nD)]
        exact s7 _ _ e
      · rw [at_succ t m k r er, if_pos z, List.map_append]
        exact DpAll.snoc (DpAll.tups tp _ (rowDs_only _ (fun p hp => wsl p.2 (at_mem hp))) dA7) (Dp.tups tp _ (rowD_only (wsl r (List.mem_of_getElem? er))) dr)
    refine ⟨rfl, rfl, ?_⟩
    refine ⟨_, rfl, _, rfl, _, _, rfl, rfl, _, rfl, ite2 (fun c1 => ?_) (fun c1 => iteF ?_)⟩
    · have c1 : ((r.put : Nat) : Int) < ((m : Nat) : Int) := by simpa using c1
      have p1 : decide (r.put < m) = true := decide_eq_true (by omega)
      cases ho : r.out with
      | none =>
        refine ⟨_, rfl, rfl, _, rfl, iteT' (decide_eq_true rfl) (iteT ?_)⟩
        exact ⟨_, rfl, _, rfl, (by show 2 ≤ sizeLine; decide), yes (by unfold stands; rw [p1, ho]; rfl)⟩
      | some o2 =>
        refine ⟨_, rfl, rfl, _, rfl, iteF' (by rw [decide_eq_true_eq]; exact fun z => nomatch z) ?_⟩
        refine ⟨_, rfl, _, rfl, _, _, rfl, rfl, _, rfl, ?_⟩
        cases hc : decide (((m : Nat) : Int) ≤ ((o2 : Nat) : Int)) with
        | true =>
          have : m ≤ o2 := by simpa using hc
          refine iteT ?_
          exact ⟨_, rfl, _, rfl, (by show 2 ≤ sizeLine; decide), yes (by unfold stands; rw [p1, ho]; simpa using this)⟩
        | false =>
          have : ¬ m ≤ o2 := by simpa using hc
          exact iteF (no H6 (by unfold stands; rw [p1, ho]; simpa using this) (Same.refl _))
    · have c1 : ¬ ((r.put : Nat) : Int) < ((m : Nat) : Int) := by simpa using c1
      have p1 : decide (r.put < m) = false := decide_eq_false (by omega)
      exact no H6 (by unfold stands; rw [p1]; simp) (Same.refl _)
  · rintro H5 ⟨s5, us, eD, dA⟩
    rw [lv] at dA
    exact q H5 D us (s1.trans s5) (s1.free nD) eD dA
end
end K07t
end

section
set_option Elab.async false
set_option linter.all false
set_option maxRecDepth 100000
set_option maxHeartbeats 4000000
namespace K07
open PySem PySem.Spec PyProof.Rows L2 Gd K07t
abbrev sPen : Stmt := topS 39
abbrev sDraw : Stmt := topS 40
theorem scPen : FnScope ["_law_script"] ["_law_script"] (defScope sPen) := ⟨rfl, rfl, rfl, by decide +kernel, rfl, by decide +kernel, by decide +kernel⟩
abbrev nDraw : List Str := ["_law_pen_here", "_law_many", "_law_digit", "_law_turn", "_law_cell", "_law_great", "_law_mixed"]
theorem scDraw : FnScope nDraw ["_law_pen_here", "_law_many"] (defScope sDraw) := ⟨rfl, rfl, rfl, by decide +kernel, rfl, by decide +kernel, by decide +kernel⟩
def spPen (K : PySem.W.Frag) : Sp := fun vs H Q _ => ∃ (a : Addr) (ns : List Int), vs = [.ref a] ∧ SqL K H a (ns.map V.int) ∧ ns.length ≤ 63 ∧ ∀ (l c : Addr) (H' : Hp), Same H H' → H l = none → H c = none → Pen H' l c 0 → Q (.ref l) H'
theorem cut_all (xs : List V) (h : xs.length ≤ 63) : cutV xs none (some (63 : Int)) = xs := by
  unfold cutV
  rw [HT.sIx_none, show (63 : Int) = ((63 : Nat) : Int) from rfl, HT.sIx_nat, List.drop_zero, Nat.sub_zero, Nat.min_eq_right h, List.take_length]
section
variable {P : Program} {w : World} {K : PySem.W.Frag} {mg : Str → Option Value} {base : Heap} {f fT : Addr} {fd dT : FuncData}
theorem ok_pen (F : Fun K "_law_pen" "_law_pen" sPen f fd) : FnOk P w K mg base CX0 1 f fd ["_law_script"] (spPen K) := by
  refine F.ok scPen (fun vs H Q E h => ?_) (fun cdv A outer s H vs Q E hr h => ?_)
  · obtain ⟨a, ns, rfl, _⟩ := h
    rfl
  obtain ⟨a, ns, rfl, ha, hn, q⟩ := h
  have nd := scPen.nd
  refine ⟨_, pss_one (ps_ret (pe_lst (pa_cons (pe_slice sl_list (pv 0) po_none (po_some pe_int)) (pa_cons pe_int (pa_cons pe_int pa_nil))))), ?_⟩
  refine ⟨_, rfl, _, rfl, a, _, rfl, ha, fun b nb => ?_⟩
  rw [cut_all _ (by rw [List.length_map]; exact hn)]
  have s1 := new_same (o := .lst (ns.map V.int)) nb
  refine ⟨(by show 3 ≤ sizeLine; decide), fun l nl => ?_⟩
  have s3 := s1.trans (new_same (o := .lst [.ref b, .int 0, .int 0]) nl)
  have ncl : b ≠ l := fun e => by rw [← e, upd_same] at nl; cases nl
  exact q l b _ s3 (s1.free nl) nb ⟨ns, 0, 0, upd_same, by rw [upd_ne ncl]; exact upd_same, hn, by omega, by omega⟩
theorem ok_draw (F : Fun K "_law_draw" "_law_draw" sDraw f fd) (mn : mg "len" = none) (ma : mg "abs" = none) (mi : mg "int" = none) : FnOk P w K mg base CX0 1 f fd ["_law_pen_here", "_law_many"] spDraw := by
  refine F.ok scDraw (fun vs H Q E h => ?_) (fun cdv A outer s H vs Q E hr h => ?_)
  · obtain ⟨l, c, m, S, rfl, _⟩ := h
    rfl
  obtain ⟨l, c, m, S, rfl, hP, m0, m1, hS, q⟩ := h
  have nlc := hP.apart
  obtain ⟨ns, t, ov, el, ec, hn, t0, t1⟩ := hP
  have nd := scDraw.nd
  have zl : sizeLine = 16777216 := rfl
  refine ⟨_, pss_cons (ps_if (pt_cmpR op_gt (pe_ix ix_list (pv 0) pe_int (fun _ _ => rfl)) pe_int (nomark _))
      (pss_cons (ps_set (i := 2) nd rfl (.inl rfl) (pe_op op_modN (pe_ix ix_list (pv 0) pe_int (fun _ _ => rfl)) (pv 1)))
      (pss_cons (ps_asg (pe_op op_fdivN (pe_ix ix_list (pv 0) pe_int (fun _ _ => rfl)) (pv 1)) (pg_sub (pv 0) pe_int set_list))
      (pss_one (ps_ret (pv 2))))) pss_nil)
    (pss_cons (ps_set (i := 3) nd rfl (.inl rfl) (pe_ix ix_list (pv 0) pe_int (fun _ _ => rfl)))
    (C8.pss_cut (ps_asg (pe_op op_add (pv 3) pe_int) (pg_sub (pv 0) pe_int set_list))
    (pss_cons (ps_set (i := 4) nd rfl (.inl rfl) (pe_op op_add (pe_op op_add (pe_op op_mul (pe_op op_mul pe_int (pv 3)) (pv 3)) (pe_op op_mul pe_int (pv 3))) pe_int))
    (C8.pss_cut (ps_if (pt_cmpR (op_neL0 (Nat.lt_of_succ_lt (hu_of hr))) (pe_ix ix_list (pv 0) pe_int (fun _ _ => rfl)) (pe_lst pa_nil) (nomark _))
      (pss_one (ps_set (i := 4) nd rfl (.inl rfl) (pe_ix ix_list (pe_ix ix_list (pv 0) pe_int (fun _ _ => rfl)) (pe_op op_modN (pv 3) (pe_callB call_len_seq (by rfl) mn PySem.boot_len (pa_cons (pe_ix ix_list (pv 0) pe_int (fun _ _ => rfl)) pa_nil))) (fun _ _ => rfl)))) pss_nil)
    (C8.pss_cut (ps_if (PW.pt (pw_and (pt_cmpR op_lt (pv 3) (pe_callB call_len_seq (by rfl) mn PySem.boot_len (pa_cons (pe_ix ix_list (pv 0) pe_int (fun _ _ => rfl)) pa_nil)) (nomark _))
        (pw_and1 (pt_cmpR op_ge (pe_callB call_abs (by rfl) ma (by decide +kernel) (pa_cons (pv 4) pa_nil)) (pe_op op_pow pe_int pe_int) (nomark _)))))
      (pss_cons (ps_set (i := 5) nd rfl (.inl rfl) (pe_op op_add (pe_op op_mul pe_int (pe_op op_sub (pe_callB call_abs (by rfl) ma (by decide +kernel) (pa_cons (pv 4) pa_nil)) (pe_op op_pow pe_int pe_int))) (pe_callTy call_int1 (by rfl) mi (by decide +kernel) (pa_cons (pe_cmpR op_lt (pv 4) pe_int (nomark _)) pa_nil))))
      (pss_cons (ps_asg (pe_op op_fdivN (pv 5) (pv 1)) (pg_sub (pv 0) pe_int set_list))
      (pss_one (ps_ret (pe_op op_modN (pv 5) (pv 1)))))) pss_nil)
    (C8.pss_cut (ps_set (i := 6) nd rfl (.inl rfl) (pe_op op_modN (pe_op op_pow (pe_op op_add (pe_op op_add (pe_op op_modN (pv 4) pe_int) (pe_op op_mul pe_int (pv 3))) pe_int) pe_int) pe_int))
    (C8.pss_cut (ps_set (i := 6) nd rfl (.inl rfl) (pe_op op_modN (pe_op op_pow (pe_op op_add (pe_op op_mul (pv 6) (pe_op op_add (pe_op op_mul pe_int (pv 3)) pe_int)) (pe_op op_mul (pe_op op_mul pe_int (pv 3)) (pv 3))) pe_int) pe_int))
    (pss_one (ps_ret (pe_op op_modN (pe_op op_fdivN (pv 6) pe_int) (pv 1))))))))))), ?_⟩
  have L : SqL K H l [.ref c, .int t, .int ov] := SqL.of el
  refine ⟨_, rfl, l, _, 2, _, rfl, rfl, L, atI_nat (j := 2) rfl, _, _, rfl, rfl, _, rfl, ite2 (fun e => ?_) (fun e => ?_)⟩
  · refine ⟨_, rfl, l, _, 2, _, rfl, rfl, L, atI_nat (j := 2) rfl, _, rfl, _, _, rfl, rfl, by omega, ?_⟩
    refine ⟨_, rfl, l, _, 2, _, rfl, rfl, L, atI_nat (j := 2) rfl, _, rfl, _, _, rfl, rfl, ⟨by omega, by omega⟩, ?_⟩
    refine ⟨_, rfl, l, _, 2, 2, rfl, rfl, el, rfl, ?_⟩
    refine ⟨_, rfl, ?_⟩
    obtain ⟨r0, r1⟩ := fmod_in ov m0
    exact q _ _ r0 r1 ⟨ns, t, _, upd_same, by rw [upd_ne nlc.symm]; exact ec, hn, t0, by omega⟩ .at
  refine ⟨_, rfl, l, _, 1, _, rfl, rfl, L, atI_nat (j := 1) rfl, ?_⟩
  refine ⟨fun σ' H' => H' l = some (.lst [.ref c, .int (t + 1), .int ov]) ∧ H' c = some (.lst (ns.map V.int)) ∧ Ex1 l H H' ∧ σ' = [some (.ref l), some (.int m), none, some (.int t), none, none, none], ?_, ?_⟩
  · refine ⟨_, rfl, _, _, rfl, rfl, _, rfl, l, _, 1, 1, rfl, rfl, el, rfl, ?_⟩
    exact ⟨upd_same, by rw [upd_ne nlc.symm]; exact ec, .at, rfl⟩
  rintro σ2 H2 ⟨el2, ec2, x2, rfl⟩
  obtain ⟨q0, q1⟩ := sq_le t0 (show t ≤ 100000 by omega)
  have e39 : 389 * t * t = 389 * (t * t) := Int.mul_assoc ..
  refine ⟨_, rfl, _, _, rfl, rfl, .inl ⟨by decide, by decide⟩, _, rfl, _, _, rfl, rfl, .inr ⟨by omega, by omega⟩, _, rfl, _, _, rfl, rfl, .inl ⟨by decide, by decide⟩, _, _, rfl, rfl, _, _, rfl, rfl, ?_⟩
  refine ⟨fun σ' H' => Same H2 H' ∧ ∃ v : Int, σ' = [some (.ref l), some (.int m), none, some (.int t), some (.int v), none, none], ?_, ?_⟩
  · refine ⟨_, rfl, l, _, 0, _, rfl, rfl, SqL.of el2, atI_nat (j := 0) rfl, Nat.zero_le _, fun z0 nz0 => ?_⟩
    have jz := new_same (o := .lst []) nz0
    refine ⟨c, z0, ns.map V.int, rfl, rfl, SqL.of (jz _ _ ec2), SqL.of upd_same, _, rfl, ite2 (fun e => ?_) (fun e => ?_)⟩
    · have pos : 0 < ns.length := by
        cases ns with
        | nil => simp at e
        | cons => exact Nat.succ_pos _
      have el2 := jz _ _ el2
      have ec2 := jz _ _ ec2
      obtain ⟨i0, i1⟩ := fmod_in t (b := ((ns.length : Nat) : Int)) (by omega)
      obtain ⟨v, hv, ev⟩ := at_list (f := V.int) (xs := ns) i0 i1
      refine ⟨_, rfl, l, _, 0, _, rfl, rfl, SqL.of el2, atI_nat (j := 0) rfl, _, rfl, _, rfl, l, _, 0, _, rfl, rfl, SqL.of el2, atI_nat (j := 0) rfl, c, _, rfl, .inl (SqL.of ec2), _, _, rfl, rfl, by rw [List.length_map]; omega, ?_⟩
      refine ⟨c, _, _, .int v, rfl, rfl, SqL.of ec2, by rw [List.length_map]; exact ev, ?_⟩
      exact ⟨jz, v, rfl⟩
    · exact ⟨jz, _, rfl⟩
  rintro σ3 H3 ⟨s3, v, rfl⟩
  have el3 := s3 _ _ el2
  have ec3 := s3 _ _ ec2
  have x3 : Ex1 l H H3 := x2.trans (ex1_of_same s3)
  refine ⟨fun σ' H' => H' = H3 ∧ σ' = [some (.ref l), some (.int m), none, some (.int t), some (.int v), none, none], ?_, ?_⟩
  · refine ⟨_, rfl, _, rfl, l, _, 0, _, rfl, rfl, SqL.of el3, atI_nat (j := 0) rfl, c, _, rfl, .inl (SqL.of ec3), _, _, rfl, rfl, _, rfl, ite2 (fun e => ?_) (fun e => ?_)⟩
    · refine ⟨_, rfl, _, rfl, 10, 18, rfl, rfl, ⟨by decide, by decide, by decide⟩, _, _, rfl, rfl, _, rfl, ite2 (fun e => ?_) (fun e => ?_)⟩
      · refine ⟨_, rfl, _, rfl, 10, 18, rfl, rfl, ⟨by decide, by decide, by decide⟩, _, _, rfl, rfl, _, _, rfl, rfl, .inl ⟨by decide, by decide⟩, _, rfl, _, _, rfl, rfl, .inr ⟨_, rfl, _, _, rfl, rfl, ?_⟩⟩
        refine ⟨_, rfl, _, rfl, _, _, rfl, rfl, ⟨by omega, by omega⟩, _, rfl, l, _, 2, 2, rfl, rfl, el3, rfl, ?_⟩
        refine ⟨_, rfl, _, rfl, _, _, rfl, rfl, by omega, ?_⟩
        exact q _ _ (fmod_in _ m0).1 (fmod_in _ m0).2 ⟨ns, t + 1, _, upd_same, by rw [upd_ne nlc.symm]; exact ec3, hn, by omega, by omega⟩ (x3.trans .at)
      · exact ⟨rfl, rfl⟩
    · exact ⟨rfl, rfl⟩
  rintro σ4 H4 ⟨rfl, rfl⟩
  obtain ⟨a0, a1⟩ := fmod_in v (b := 2147483587) (by omega)
  generalize hx0 : v.fmod 2147483587 = x0 at a0 a1
  refine ⟨fun σ' H' => H' = H4 ∧ ∃ x : Int, 0 ≤ x ∧ x < 2147483647 ∧ σ' = [some (.ref l), some (.int m), none, some (.int t), some (.int v), none, some (.int x)], ?_, ?_⟩
  · refine ⟨_, rfl, _, _, rfl, rfl, by omega, _, rfl, _, _, rfl, rfl, .inl ⟨by decide, by decide⟩, _, _, rfl, rfl, _, _, rfl, rfl,
      _, _, rfl, rfl, ⟨by decide, by decide, by rw [hx0]; omega⟩, _, _, rfl, rfl, by omega, ?_⟩
    exact ⟨rfl, _, (fmod_in _ (by omega)).1, (fmod_in _ (by omega)).2, rfl⟩
  rintro σ5 H5 ⟨rfl, x1, b0, b1, rfl⟩
  obtain ⟨c0, c1⟩ := mul_le b0 (show x1 ≤ 2147483647 by omega) (show 0 ≤ 2 * t + 45 by omega) (show 2 * t + 45 ≤ 200045 by omega)
  have e81 : 81001 * t * t = 81001 * (t * t) := Int.mul_assoc ..
  refine ⟨fun σ' H' => H' = H5 ∧ ∃ x : Int, 0 ≤ x ∧ x < 2147483549 ∧ σ' = [some (.ref l), some (.int m), none, some (.int t), some (.int v), none, some (.int x)], ?_, ?_⟩
  · refine ⟨_, rfl, _, rfl, _, _, rfl, rfl, .inl ⟨by decide, by decide⟩, _, _, rfl, rfl, _, _, rfl, rfl, .inr ⟨by omega, by omega⟩, _, rfl, _, _, rfl, rfl, .inl ⟨by decide, by decide⟩, _, rfl, _, _, rfl, rfl, .inr ⟨by omega, by omega⟩, _, _, rfl, rfl, _, _, rfl, rfl, ⟨by decide, by decide, by rw [e81]; omega⟩, _, _, rfl, rfl, by omega, ?_⟩
    exact ⟨rfl, _, (fmod_in _ (by omega)).1, (fmod_in _ (by omega)).2, rfl⟩
  rintro σ6 H6 ⟨rfl, x2', d0, d1, rfl⟩
  refine ⟨_, rfl, _, _, rfl, rfl, ⟨by omega, by omega⟩, _, rfl, _, _, rfl, rfl, by omega, ?_⟩
  exact q _ _ (fmod_in _ m0).1 (fmod_in _ m0).2 ⟨ns, t + 1, ov, el3, ec3, hn, by omega, by omega⟩ x3
end
end K07
end

section
set_option Elab.async false
set_option linter.all false
set_option maxRecDepth 100000
set_option maxHeartbeats 4000000
/-! the law's model of tables: a dict of tuples of columns, a list of rows, each a list, and the moment; a deed goes into it. -/
namespace K07
open PySem PySem.Spec PyProof.Rows L2 Gd K07t
def mRow (r : Rw) (b : Addr) : List V := [.ref b, .bl r.out.isNone]
theorem refs_str {f : Nat → Addr} {n : Nat} {s : Str} {x y : V} (e : HO.lst [.str s, x, y] = HO.lst ((List.range n).map fun i => V.ref (f i))) : False := by
  have z : V.str s ∈ (List.range n).map (fun i => V.ref (f i)) := by rw [← HO.lst.inj e]; simp
  obtain ⟨_, _, h⟩ := List.mem_map.mp z
  cases h
theorem refs_bl {f : Nat → Addr} {n : Nat} {b : Addr} {c : Bool} (e : HO.lst [.ref b, .bl c] = HO.lst ((List.range n).map fun i => V.ref (f i))) : False := by
  have z : V.bl c ∈ (List.range n).map (fun i => V.ref (f i)) := by rw [← HO.lst.inj e]; simp
  obtain ⟨_, _, h⟩ := List.mem_map.mp z
  cases h
structure ModAt (K : PySem.W.Frag) (H : Hp) (M : Addr) (ts : List Tab) (mt ml : Nat → Addr) (mr : Nat → Nat → Addr) : Prop where
  dict : H M = some (.lst ((List.range ts.length).map fun i => V.ref (mt i)))
  tup : ∀ i t, ts[i]? = some t → ∃ ca, H (mt i) = some (.lst [.str t.name, .ref ca, .ref (ml i)]) ∧ SqT K H ca (t.cols.map V.str)
  lst : ∀ i t, ts[i]? = some t → H (ml i) = some (.lst ((List.range t.rows.length).map fun k => V.ref (mr i k)))
  row : ∀ i t k r, ts[i]? = some t → t.rows[k]? = some r → ∃ b, H (mr i k) = some (.lst (mRow r b)) ∧ SqT K H b (r.ws.map V.int)
  apM : ∀ i, i < ts.length → ml i ≠ M
  apL : ∀ i j, i < ts.length → j < ts.length → ml i = ml j → i = j
  apR : ∀ i k j m t u, ts[i]? = some t → ts[j]? = some u → k < t.rows.length → m < u.rows.length → mr i k = mr j m → i = j ∧ k = m
  apX : ∀ i j k t, i < ts.length → ts[j]? = some t → k < t.rows.length → ml i ≠ mr j k
def mfoot (M : Addr) (ts : List Tab) (mt ml : Nat → Addr) (mr : Nat → Nat → Addr) (q : Addr) : Prop := q = M ∨ (∃ i, i < ts.length ∧ (q = mt i ∨ q = ml i)) ∨ ∃ i t k, ts[i]? = some t ∧ k < t.rows.length ∧ q = mr i k
def ModF (K : PySem.W.Frag) (H : Hp) (M : Addr) (ts : List Tab) (G : Addr → Prop) : Prop := ∃ mt ml mr, ModAt K H M ts mt ml mr ∧ ∀ q, G q ↔ mfoot M ts mt ml mr q
section
variable {K : PySem.W.Frag} {H H' : Hp} {M : Addr} {ts : List Tab} {mt ml : Nat → Addr} {mr : Nat → Nat → Addr} {G : Addr → Prop}
theorem ModF.keep (h : ModF K H M ts G) (t : Tups K H H') (k : ∀ b o, G b → H b = some o → H' b = some o) : ModF K H' M ts G := by
  obtain ⟨mt, ml, mr, S, hG⟩ := h
  refine ⟨mt, ml, mr, ⟨k _ _ ((hG _).mpr (.inl rfl)) S.dict, fun i t0 e => ?_, fun i t0 e => ?_, fun i t0 j r e1 e2 => ?_, S.apM, S.apL, S.apR, S.apX⟩, hG⟩
  · obtain ⟨ca, h1, h2⟩ := S.tup i t0 e
    exact ⟨ca, k _ _ ((hG _).mpr (.inr (.inl ⟨i, (List.getElem?_eq_some_iff.mp e).1, .inl rfl⟩))) h1, t _ _ h2⟩
  · exact k _ _ ((hG _).mpr (.inr (.inl ⟨i, (List.getElem?_eq_some_iff.mp e).1, .inr rfl⟩))) (S.lst i t0 e)
  · obtain ⟨b, h1, h2⟩ := S.row i t0 j r e1 e2
    exact ⟨b, k _ _ ((hG _).mpr (.inr (.inr ⟨i, t0, j, e1, (List.getElem?_eq_some_iff.mp e2).1, rfl⟩))) h1, t _ _ h2⟩
theorem ModF.same (h : ModF K H M ts G) (s : Same H H') : ModF K H' M ts G := h.keep (Tups.of_same s) fun b o _ e => s b o e
theorem ModF.kind (h : ModF K H M ts G) {q : Addr} (hq : G q) : ∃ xs, H q = some (.lst xs) := by
  obtain ⟨mt, ml, mr, S, hG⟩ := h
  rcases (hG q).mp hq with rfl | ⟨i, hi, rfl | rfl⟩ | ⟨i, t, k, e1, e2, rfl⟩
  · exact ⟨_, S.dict⟩
  · obtain ⟨ca, e, _⟩ := S.tup i _ (List.getElem?_eq_getElem hi)
    exact ⟨_, e⟩
  · exact ⟨_, S.lst i _ (List.getElem?_eq_getElem hi)⟩
  · obtain ⟨b, e, _⟩ := S.row i t k _ e1 (List.getElem?_eq_getElem e2)
    exact ⟨_, e⟩
theorem ModF.here (h : ModF K H M ts G) {q : Addr} (hq : G q) : ∃ o, H q = some o := by
  obtain ⟨xs, e⟩ := h.kind hq
  exact ⟨_, e⟩
theorem ModF.self (h : ModF K H M ts G) : G M := by
  obtain ⟨mt, ml, mr, S, hG⟩ := h
  exact (hG M).mpr (.inl rfl)
theorem ModF.tups (h : ModF K H M ts G) {G' : Addr → Prop} (a : After H G H' G') : Tups K H H' := by
  refine tups_off fun q o e n1 n2 n3 => a.off q o (fun hq => ?_) e
  obtain ⟨xs, z⟩ := h.kind hq
  rw [e] at z
  exact n2 _ (Option.some.inj z)
end
theorem snoc_at {α : Type} {ts : List α} {t u : α} {j : Nat} (e : (ts ++ [t])[j]? = some u) : (j < ts.length ∧ ts[j]? = some u) ∨ (j = ts.length ∧ u = t) := by
  have l : j < (ts ++ [t]).length := (List.getElem?_eq_some_iff.mp e).1
  rw [List.length_append, List.length_singleton] at l
  by_cases h : j < ts.length
  · rw [List.getElem?_append_left h] at e
    exact .inl ⟨h, e⟩
  · have h : j = ts.length := by omega
    subst h
    rw [List.getElem?_append_right (Nat.le_refl _), Nat.sub_self] at e
    exact .inr ⟨rfl, (Option.some.inj e).symm⟩
theorem on_at {x : Shelf} (nd : (x.tabs.map Tab.name).Nodup) {i : Nat} {t : Tab} (ht : x.tabs[i]? = some t) (g : List Rw → List Rw) {j : Nat} {u : Tab} (e : (x.onRows t.name g).tabs[j]? = some u) :
    (j = i ∧ u = { t with rows := g t.rows }) ∨ (j ≠ i ∧ x.tabs[j]? = some u) := by
  have e : (x.tabs.map (onTab t.name fun t => { t with rows := g t.rows }))[j]? = some u := e
  rw [List.getElem?_map, Option.map_eq_some_iff] at e
  obtain ⟨t0, z, rfl⟩ := e
  by_cases ij : j = i
  · subst ij
    rw [ht] at z
    cases z
    refine .inl ⟨rfl, ?_⟩
    unfold onTab
    rw [if_pos rfl]
  · refine .inr ⟨ij, ?_⟩
    unfold onTab
    rw [if_neg (fun y => ij (name_inj nd z ht y))]
    exact z
section
variable {K : PySem.W.Frag} {H H' : Hp} {M : Addr} {x : Shelf} {mt ml : Nat → Addr} {mr : Nat → Nat → Addr} {G : Addr → Prop}
/-- a table more -/
theorem ModAt.table (S : ModAt K H M x.tabs mt ml mr) {t : Tab} (tr : t.rows = []) {q1 q2 ca : Addr} (n1 : H q1 = none) (n2 : H q2 = none) (dM : H' M = some (.lst ((List.range x.tabs.length).map (fun i => V.ref (mt i)) ++ [.ref q2])))
    (e1 : H' q1 = some (.lst [])) (e2 : H' q2 = some (.lst [.str t.name, .ref ca, .ref q1])) (e3 : SqT K H' ca (t.cols.map V.str)) (kp : ∀ b o, b ≠ M → H b = some o → H' b = some o) :
    ModAt K H' M (x.tabs ++ [t]) (fun i => if i = x.tabs.length then q2 else mt i) (fun i => if i = x.tabs.length then q1 else ml i) mr := by
  have tp : Tups K H H' := tups_off fun q o e a1 a2 a3 => kp q o (fun z => by rw [z, S.dict] at e; exact a2 _ (Option.some.inj e).symm) e
  have nl : ∀ i t0, x.tabs[i]? = some t0 → ml i ≠ q1 := fun i t0 e z => by
    have := S.lst i t0 e
    rw [z, n1] at this
    cases this
  refine ⟨?_, fun i t0 e => ?_, fun i t0 e => ?_, fun i t0 k r h1 h2 => ?_, fun i hi => ?_, fun i j hi hj e => ?_, fun i k j m t0 u h1 h2 h3 h4 e => ?_, fun i j k t0 hi h1 h2 e => ?_⟩
  · rw [dM, List.length_append, List.length_singleton, List.range_succ, List.map_append]
    congr 3
    · refine List.map_congr_left fun k hk => ?_
      rw [List.mem_range] at hk
      rw [if_neg (by omega)]
    · simp
  · rcases snoc_at e with ⟨l, z⟩ | ⟨l, z⟩
    · obtain ⟨c0, h1, h2⟩ := S.tup i t0 z
      refine ⟨c0, ?_, tp _ _ h2⟩
      simp only [if_neg (Nat.ne_of_lt l)]
      exact kp _ _ (ne_of h1 S.dict (fun y => refs_str y)) h1
    · subst l z
      simp only [if_pos rfl]
      exact ⟨ca, e2, e3⟩
  · rcases snoc_at e with ⟨l, z⟩ | ⟨l, z⟩
    · simp only [if_neg (Nat.ne_of_lt l)]
      exact kp _ _ (S.apM i (List.getElem?_eq_some_iff.mp z).1) (S.lst i t0 z)
    · subst l z
      simp only [if_pos rfl]
      rw [tr]
      exact e1
  · rcases snoc_at h1 with ⟨l, z⟩ | ⟨l, z⟩
    · obtain ⟨b, f1, f2⟩ := S.row i t0 k r z h2
      exact ⟨b, kp _ _ (ne_of f1 S.dict (fun y => refs_bl y)) f1, tp _ _ f2⟩
    · subst l z
      rw [tr] at h2
      simp at h2
  · rw [List.length_append, List.length_singleton] at hi
    by_cases a : i = x.tabs.length
    · rw [if_pos a]
      exact fun z => by rw [z, S.dict] at n1; cases n1
    · rw [if_neg a]
      exact S.apM i (by omega)
  · rw [List.length_append, List.length_singleton] at hi hj
    by_cases a : i = x.tabs.length
    · by_cases b : j = x.tabs.length
      · omega
      · rw [if_pos a, if_neg b] at e
        exact absurd e.symm (nl j _ (List.getElem?_eq_getElem (by omega)))
    · by_cases b : j = x.tabs.length
      · rw [if_neg a, if_pos b] at e
        exact absurd e (nl i _ (List.getElem?_eq_getElem (by omega)))
      · rw [if_neg a, if_neg b] at e
        exact S.apL i j (by omega) (by omega) e
  · rcases snoc_at h1 with ⟨l1, z1⟩ | ⟨l1, z1⟩
    · rcases snoc_at h2 with ⟨l2, z2⟩ | ⟨l2, z2⟩
      · exact S.apR i k j m t0 u z1 z2 h3 h4 e
      · subst z2
        rw [tr] at h4
        cases h4
    · subst z1
      rw [tr] at h3
      cases h3
  · rcases snoc_at h1 with ⟨l1, z1⟩ | ⟨l1, z1⟩
    · obtain ⟨b, f1, _⟩ := S.row j t0 k _ z1 (List.getElem?_eq_getElem h2)
      rw [List.length_append, List.length_singleton] at hi
      by_cases a : i = x.tabs.length
      · rw [if_pos a] at e
        rw [← e, n1] at f1
        cases f1
      · rw [if_neg a] at e
        exact S.apX i j k t0 (by omega) z1 h2 e
    · subst z1
      rw [tr] at h2
      cases h2
/-- a row more -/
theorem ModAt.put (S : ModAt K H M x.tabs mt ml mr) (nd : (x.tabs.map Tab.name).Nodup) {i : Nat} {t : Tab} (ht : x.tabs[i]? = some t) (r : Rw) {q b : Addr} (nq : H q = none) (eq : H' q = some (.lst (mRow r b))) (eb : SqT K H' b (r.ws.map V.int))
    (el : H' (ml i) = some (.lst ((List.range t.rows.length).map (fun k => V.ref (mr i k)) ++ [.ref q]))) (kp : ∀ b o, b ≠ ml i → H b = some o → H' b = some o) :
    ModAt K H' M (x.onRows t.name fun rs => rs ++ [r]).tabs mt ml (fun j k => if j = i ∧ k = t.rows.length then q else mr j k) := by
  have li : i < x.tabs.length := (List.getElem?_eq_some_iff.mp ht).1
  have L0 := S.lst i t ht
  have tp : Tups K H H' := tups_off fun q o e a1 a2 a3 => kp q o (fun z => by rw [z, L0] at e; exact a2 _ (Option.some.inj e).symm) e
  have ln : (x.onRows t.name fun rs => rs ++ [r]).tabs.length = x.tabs.length := List.length_map _
  have nr : ∀ j u k, x.tabs[j]? = some u → k < u.rows.length → mr j k ≠ q := fun j u k e l z => by
    obtain ⟨b, f1, _⟩ := S.row j u k _ e (List.getElem?_eq_getElem l)
    rw [z, nq] at f1
    cases f1
  have old : ∀ j u k, (x.onRows t.name fun rs => rs ++ [r]).tabs[j]? = some u → k < u.rows.length → (j = i ∧ k = t.rows.length ∧ u.rows[k]? = some r) ∨ (¬ (j = i ∧ k = t.rows.length) ∧ ∃ u0, x.tabs[j]? = some u0 ∧ k < u0.rows.length ∧ u.rows[k]? = u0.rows[k]?) := fun j u k e l => by
    rcases on_at nd ht _ e with ⟨rfl, rfl⟩ | ⟨n, z⟩
    · have l : k < (t.rows ++ [r]).length := l
      rw [List.length_append, List.length_singleton] at l
      by_cases kk : k = t.rows.length
      · refine .inl ⟨rfl, kk, ?_⟩
        show (t.rows ++ [r])[k]? = some r
        rw [kk, List.getElem?_append_right (Nat.le_refl _), Nat.sub_self]
        rfl
      · refine .inr ⟨fun y => kk y.2, t, ht, by omega, ?_⟩
        show (t.rows ++ [r])[k]? = _
        rw [List.getElem?_append_left (by omega)]
    · exact .inr ⟨fun y => n y.1, u, z, l, rfl⟩
  have len : ∀ j u, (x.onRows t.name fun rs => rs ++ [r]).tabs[j]? = some u → j < x.tabs.length := fun j u e => by rw [← ln]; exact (List.getElem?_eq_some_iff.mp e).1
  refine ⟨?_, fun j u e => ?_, fun j u e => ?_, fun j u k r0 h1 h2 => ?_, fun j hj => S.apM j (by rw [← ln]; exact hj), fun j1 j2 h1 h2 e => S.apL j1 j2 (by rw [← ln]; exact h1) (by rw [← ln]; exact h2) e, fun j k j2 m u v h1 h2 h3 h4 e => ?_, fun j j2 k u hj h1 h2 e => ?_⟩
  · rw [ln]
    exact kp _ _ (S.apM i li).symm S.dict
  · rcases on_at nd ht _ e with ⟨rfl, rfl⟩ | ⟨n, z⟩
    · obtain ⟨ca, f1, f2⟩ := S.tup j t ht
      exact ⟨ca, kp _ _ (ne_of f1 L0 (fun y => refs_str y)) f1, tp _ _ f2⟩
    · obtain ⟨ca, f1, f2⟩ := S.tup j u z
      exact ⟨ca, kp _ _ (ne_of f1 L0 (fun y => refs_str y)) f1, tp _ _ f2⟩
  · rcases on_at nd ht _ e with ⟨rfl, rfl⟩ | ⟨n, z⟩
    · rw [el]
      show some (HO.lst _) = some (.lst ((List.range (t.rows ++ [r]).length).map _))
      rw [List.length_append, List.length_singleton, List.range_succ, List.map_append]
      congr 3
      · refine List.map_congr_left fun k hk => ?_
        rw [List.mem_range] at hk
        rw [if_neg (fun y => by omega)]
      · simp
    · have lj := (List.getElem?_eq_some_iff.mp z).1
      rw [kp _ _ (fun y => n (S.apL j i lj li y)) (S.lst j u z)]
      congr 2
      refine List.map_congr_left fun k hk => ?_
      rw [if_neg (fun y => n y.1)]
  · have lk := (List.getElem?_eq_some_iff.mp h2).1
    rcases old j u k h1 lk with ⟨a1, a2, a3⟩ | ⟨a1, u0, a2, a3, a4⟩
    · rw [a3] at h2
      cases h2
      simp only [if_pos (show j = i ∧ k = t.rows.length from ⟨a1, a2⟩)]
      exact ⟨b, eq, eb⟩
    · rw [a4] at h2
      obtain ⟨b0, f1, f2⟩ := S.row j u0 k r0 a2 h2
      simp only [if_neg a1]
      exact ⟨b0, kp _ _ (fun y => S.apX i j k u0 li a2 a3 y.symm) f1, tp _ _ f2⟩
  · rcases old j u k h1 h3 with ⟨a1, a2, a3⟩ | ⟨a1, u0, a2, a3, a4⟩
    · rcases old j2 v m h2 h4 with ⟨b1, b2, b3⟩ | ⟨b1, v0, b2, b3, b4⟩
      · exact ⟨a1.trans b1.symm, a2.trans b2.symm⟩
      · simp only [if_pos (show j = i ∧ k = t.rows.length from ⟨a1, a2⟩), if_neg b1] at e
        exact absurd e.symm (nr j2 v0 m b2 b3)
    · rcases old j2 v m h2 h4 with ⟨b1, b2, b3⟩ | ⟨b1, v0, b2, b3, b4⟩
      · simp only [if_neg a1, if_pos (show j2 = i ∧ m = t.rows.length from ⟨b1, b2⟩)] at e
        exact absurd e (nr j u0 k a2 a3)
      · simp only [if_neg a1, if_neg b1] at e
        exact S.apR j k j2 m u0 v0 a2 b2 a3 b3 e
  · rw [ln] at hj
    rcases old j2 u k h1 h2 with ⟨a1, a2, a3⟩ | ⟨a1, u0, a2, a3, a4⟩
    · simp only [if_pos (show j2 = i ∧ k = t.rows.length from ⟨a1, a2⟩)] at e
      have := S.lst j _ (List.getElem?_eq_getElem hj)
      rw [e, nq] at this
      cases this
    · simp only [if_neg a1] at e
      exact S.apX j j2 k u0 hj a2 a3 e
/-- a row changed -/
theorem ModAt.out (S : ModAt K H M x.tabs mt ml mr) (nd : (x.tabs.map Tab.name).Nodup) {i k : Nat} {t : Tab} (ht : x.tabs[i]? = some t) (lk : k < t.rows.length) (r : Rw) {b : Addr} (eq : H' (mr i k) = some (.lst (mRow r b))) (eb : SqT K H' b (r.ws.map V.int))
    (kp : ∀ b o, b ≠ mr i k → H b = some o → H' b = some o) : ModAt K H' M (x.onRows t.name fun rs => rs.set k r).tabs mt ml mr := by
  have li : i < x.tabs.length := (List.getElem?_eq_some_iff.mp ht).1
  obtain ⟨b0, L0, _⟩ := S.row i t k _ ht (List.getElem?_eq_getElem lk)
  have tp : Tups K H H' := tups_off fun q o e a1 a2 a3 => kp q o (fun z => by rw [z, L0] at e; exact a2 _ (Option.some.inj e).symm) e
  have ln : (x.onRows t.name fun rs => rs.set k r).tabs.length = x.tabs.length := List.length_map _
  have old : ∀ j u, (x.onRows t.name fun rs => rs.set k r).tabs[j]? = some u → ∃ u0, x.tabs[j]? = some u0 ∧ u.cols = u0.cols ∧ u.name = u0.name ∧ u.rows.length = u0.rows.length ∧ (∀ m, ¬ (j = i ∧ m = k) → u.rows[m]? = u0.rows[m]?) ∧ (j = i → u.rows[k]? = some r) := fun j u e => by
    rcases on_at nd ht _ e with ⟨rfl, rfl⟩ | ⟨n, z⟩
    · refine ⟨t, ht, rfl, rfl, List.length_set, fun m hm => ?_, fun _ => ?_⟩
      · show (t.rows.set k r)[m]? = _
        rw [List.getElem?_set_ne (fun y => hm ⟨rfl, y.symm⟩)]
      · show (t.rows.set k r)[k]? = _
        rw [List.getElem?_set_self lk]
    · exact ⟨u, z, rfl, rfl, rfl, fun _ _ => rfl, fun y => absurd y n⟩
  refine ⟨?_, fun j u e => ?_, fun j u e => ?_, fun j u m r0 h1 h2 => ?_, fun j hj => S.apM j (by rw [← ln]; exact hj), fun j1 j2 h1 h2 e => S.apL j1 j2 (by rw [← ln]; exact h1) (by rw [← ln]; exact h2) e, fun j m j2 m2 u v h1 h2 h3 h4 e => ?_, fun j j2 m u hj h1 h2 e => ?_⟩
  · rw [ln]
    exact kp _ _ (ne_of S.dict L0 (fun y => refs_bl y.symm)) S.dict
  · obtain ⟨u0, a1, a2, a3, _⟩ := old j u e
    obtain ⟨ca, f1, f2⟩ := S.tup j u0 a1
    rw [a2, a3]
    exact ⟨ca, kp _ _ (ne_of f1 L0 (fun y => nomatch y)) f1, tp _ _ f2⟩
  · obtain ⟨u0, a1, a2, a3, a4, _⟩ := old j u e
    rw [a4]
    exact kp _ _ (fun y => S.apX j i k t (List.getElem?_eq_some_iff.mp a1).1 ht lk y) (S.lst j u0 a1)
  · obtain ⟨u0, a1, a2, a3, a4, a5, a6⟩ := old j u h1
    by_cases z : j = i ∧ m = k
    · obtain ⟨rfl, rfl⟩ := z
      rw [a6 rfl] at h2
      cases h2
      exact ⟨b, eq, eb⟩
    · have lm : m < u0.rows.length := by rw [← a4]; exact (List.getElem?_eq_some_iff.mp h2).1
      rw [a5 m z] at h2
      obtain ⟨b1, f1, f2⟩ := S.row j u0 m r0 a1 h2
      exact ⟨b1, kp _ _ (fun y => z (S.apR j m i k u0 t a1 ht lm lk y)) f1, tp _ _ f2⟩
  · obtain ⟨u0, a1, _, _, a4, _⟩ := old j u h1
    obtain ⟨v0, b1, _, _, b4, _⟩ := old j2 v h2
    exact S.apR j m j2 m2 u0 v0 a1 b1 (by rw [← a4]; exact h3) (by rw [← b4]; exact h4) e
  · obtain ⟨u0, a1, _, _, a4, _⟩ := old j2 u h1
    exact S.apX j j2 m u0 (by rw [← ln]; exact hj) a1 (by rw [← a4]; exact h2) e
end
end K07
end

section
set_option Elab.async false
set_option linter.all false
set_option maxRecDepth 100000
set_option maxHeartbeats 4000000
/-! the law's tables: found by a name; a deed goes into them. -/
namespace K07
open PySem PySem.Spec PyProof.Rows L2 Gd K07t
abbrev sNamed : Stmt := topS 44
abbrev nNamed : List Str := ["_law_state", "_law_title", "_law_one"]
theorem scNamed : FnScope nNamed ["_law_state", "_law_title"] (defScope sNamed) := ⟨rfl, rfl, rfl, by decide +kernel, rfl, by decide +kernel, by decide +kernel⟩
abbrev sFollow : Stmt := topS 49
abbrev nFollow : List Str := ["_law_state", "_law_doing", "_law_word", "_law_title", "_law_rest", "_law_there_too"]
theorem scFollow : FnScope nFollow ["_law_state", "_law_doing"] (defScope sFollow) := ⟨rfl, rfl, rfl, by decide +kernel, rfl, by decide +kernel, by decide +kernel⟩
def spNamed (K : PySem.W.Frag) : Sp := fun vs H Q _ => ∃ (M : Addr) (ts : List Tab) (mt ml : Nat → Addr) (mr : Nat → Nat → Addr) (n : Str), vs = [.ref M, .str n] ∧ ModAt K H M ts mt ml mr ∧ ts.length ≤ 1000 ∧ (ts.map Tab.name).Nodup ∧
  (∀ i t, ts[i]? = some t → t.name = n → ∀ H', Same H H' → Q (.ref (mt i)) H') ∧ ((∀ t ∈ ts, t.name ≠ n) → ∀ H', Same H H' → Q .non H')
def spFollow (K : PySem.W.Frag) : Sp := fun vs H Q _ => ∃ (M t : Addr) (x y : Shelf) (G : Addr → Prop) (d : Deed), vs = [.ref M, .ref t] ∧ ModF K H M x.tabs G ∧ ShelfOk x ∧ DeedAt K H t d ∧ Can x d y ∧
  ∀ H' G', ModF K H' M y.tabs G' → After H G H' G' → Q .non H'
section
variable {P : Program} {w : World} {K : PySem.W.Frag} {mg : Str → Option Value} {base : Heap} {f fN : Addr} {fd dN : FuncData}
theorem ok_named (F : Fun K "_law_named" "_law_named" sNamed f fd) : FnOk P w K mg base CX0 1 f fd ["_law_state", "_law_title"] (spNamed K) := by
  refine F.ok scNamed (fun vs H Q E h => ?_) (fun cdv A outer s H vs Q E hr h => ?_)
  · obtain ⟨M, ts, mt, ml, mr, n, rfl, _⟩ := h
    rfl
  obtain ⟨M, ts, mt, ml, mr, n, rfl, S, l1, ndn, q1, q2⟩ := h
  have nd := scNamed.nd
  refine ⟨_, pss_one (ps_ret (pe_ix ix_list (pe_op op_cat (pe_lc (own := [("_law_one", 2)]) (g := gName 2) rfl nd (pi_list (pv 0)) (blkOk_by (N := nNamed) (sc := defScope sNamed) (by decide +kernel)) (fun _ _ _ _ _ => pg_name (i := 2) nd rfl (Or.inl rfl)) (fun _ _ _ _ _ => (pts_one (pt_cmpR op_eq (pe_ix (ixL K) (pv 2) pe_int (fun _ _ => rfl)) (pv 1) (nomark _)))) (fun _ _ _ _ _ => (pv 2))) (pe_lst (pa_cons pe_non pa_nil))) pe_int (fun _ _ => rfl))), ?_⟩
  refine ⟨_, rfl, M, rfl, ⟨_, SqL.of S.dict⟩, fun D nD => ?_⟩
  have hl : ((List.range ts.length).map fun i => V.ref (mt i)).length = ts.length := by rw [List.length_map, List.length_range]
  refine lc_list (K := K) (a := M) (xs := (List.range ts.length).map fun i => V.ref (mt i)) (fun j G => Same H G ∧ G D = some (.lst (((List.range j).filter fun i => decide ((ts.map Tab.name)[i]? = some n)).map fun i => V.ref (mt i)))) ⟨new_same nD, upd_same⟩ (fun j G _ y => SqL.of (y.1 _ _ S.dict)) ?_ ?_
  · rintro j y G hy ⟨sg, eD⟩
    rw [List.getElem?_map, Option.map_eq_some_iff] at hy
    obtain ⟨i, ei, rfl⟩ := hy
    have hj : j < ts.length := by
      have := (List.getElem?_eq_some_iff.mp ei).1
      rwa [List.length_range] at this
    rw [List.getElem?_range hj] at ei
    cases ei
    obtain ⟨ca, T, _⟩ := S.tup j _ (List.getElem?_eq_getElem hj)
    refine ⟨rfl, ?_⟩
    refine ⟨_, rfl, mt j, _, 0, _, rfl, rfl, SqL.of (sg _ _ T), atI_nat (j := 0) rfl, _, rfl, rfl, _, rfl, ?_⟩
    rw [List.range_succ, List.filter_append]
    have en : (ts.map Tab.name)[j]? = some ts[j].name := by rw [List.getElem?_map, List.getElem?_eq_getElem hj]; rfl
    by_cases z : ts[j].name = n
    · refine iteT' (decide_eq_true (by rw [z])) ?_
      refine ⟨_, rfl, _, eD, ?_, own_same nD sg, ?_⟩
      · rw [List.length_map, sizeLine_eq]
        have := List.length_filter_le (fun i => decide ((ts.map Tab.name)[i]? = some n)) (List.range j)
        rw [List.length_range] at this
        omega
      · rw [upd_same, List.map_append, List.filter_cons_of_pos (by rw [en, z]; exact decide_eq_true rfl)]
        rfl
    · refine iteF' (by rw [decide_eq_true_eq]; exact fun y => z (V.str.inj y)) ?_
      refine ⟨sg, ?_⟩
      rw [eD, List.filter_cons_of_neg (by rw [en, decide_eq_true_eq]; exact fun y => z (Option.some.inj y)), List.filter_nil, List.append_nil]
  rintro G ⟨sg, eD⟩
  rw [hl] at eD
  obtain ⟨fl, hfl⟩ : ∃ fl, fl = (List.range ts.length).filter fun i => decide ((ts.map Tab.name)[i]? = some n) := ⟨_, rfl⟩
  rw [← hfl] at eD
  have lf : fl.length ≤ 1000 := by
    rw [hfl]
    refine Nat.le_trans (List.length_filter_le _ _) ?_
    rw [List.length_range]
    exact l1
  refine ⟨(by show 1 ≤ sizeLine; decide), fun b nb => ?_⟩
  have jb := new_same (o := .lst [.non]) nb
  refine ⟨D, b, _, [.non], rfl, rfl, jb _ _ eD, upd_same, by rw [List.length_map, sizeLine_eq]; show fl.length + 1 ≤ _; omega, fun C nC => ?_⟩
  have jC := new_same (o := .lst (fl.map (fun i => V.ref (mt i)) ++ [.non])) nC
  have sA := (sg.trans jb).trans jC
  cases fl with
  | nil =>
    refine ⟨C, _, 0, .non, rfl, rfl, SqL.of upd_same, atI_nat (j := 0) rfl, q2 (fun t ht e => ?_) _ sA⟩
    obtain ⟨i, hi⟩ := List.mem_iff_getElem?.mp ht
    have m : i ∈ (List.range ts.length).filter fun i => decide ((ts.map Tab.name)[i]? = some n) := List.mem_filter.mpr ⟨List.mem_range.mpr (List.getElem?_eq_some_iff.mp hi).1, decide_eq_true (by rw [List.getElem?_map, hi, ← e]; rfl)⟩
    rw [← hfl] at m
    cases m
  | cons i r =>
    have m : i ∈ (List.range ts.length).filter fun i => decide ((ts.map Tab.name)[i]? = some n) := by rw [← hfl]; exact List.mem_cons_self ..
    obtain ⟨m1, m2⟩ := List.mem_filter.mp m
    have m1 := List.mem_range.mp m1
    have m2 : (ts.map Tab.name)[i]? = some n := of_decide_eq_true m2
    rw [List.getElem?_map, List.getElem?_eq_getElem m1] at m2
    exact ⟨C, _, 0, .ref (mt i), rfl, rfl, SqL.of upd_same, atI_nat (j := 0) rfl, q1 i _ (List.getElem?_eq_getElem m1) (Option.some.inj m2) _ sA⟩
theorem ok_follow (F : Fun K "_law_follow" "_law_follow" sFollow f fd) (FN : Fun K "_law_named" "_law_named" sNamed fN dN) (GN : FnOk P w K mg base CX0 1 fN dN ["_law_state", "_law_title"] (spNamed K)) (gN : mg "_law_named" = some (.ref fN)) (bN : Binds K dN ["_law_state", "_law_title"] []) :
    FnOk P w K mg base CX0 2 f fd ["_law_state", "_law_doing"] (spFollow K) := by
  refine F.ok scFollow (fun vs H Q E h => ?_) (fun cdv A outer s H vs Q E hr h => ?_)
  · obtain ⟨M, t, x, y, G, d, rfl, _⟩ := h
    rfl
  obtain ⟨M, t, x, y, G, d, rfl, hM, ok, hd, can, q⟩ := h
  have nd := scFollow.nd
  refine ⟨_, (pss_cons (ps_asg (pv 1) (pg_tup (n := 3) rfl (pgs_cons (pg_name (i := 2) nd rfl (.inl rfl)) (pgs_cons (pg_name (i := 3) nd rfl (.inl rfl)) (pgs_cons (pg_name (i := 4) nd rfl (.inl rfl)) pgs_nil)))))
    (pss_one (ps_if (pt_cmpR op_eq (pv 2) pe_str (nomark _)) (pss_one (ps_expr (pe_bm PySem.F.plainAttrs_list PySem.F.slot_list_append PySem.F.type_list_append mt_append (pv 0) (pa_cons (pe_lst (pa_cons (pv 3) (pa_cons (pv 4) (pa_cons (pe_lst pa_nil) pa_nil)))) pa_nil))))
      (pss_one (ps_if (pt_cmpR op_eq (pv 2) pe_str (nomark _))
        (pss_one (ps_expr (pe_bm PySem.F.plainAttrs_list PySem.F.slot_list_append PySem.F.type_list_append mt_append (pe_ix ix_list (pe_call GN hr (by rfl) gN FN.kp bN .nil pass0 (pa_cons (pv 0) (pa_cons (pv 3) pa_nil))) pe_int (fun _ _ => rfl)) (pa_cons (pe_lst (pa_cons (pv 4) (pa_cons pe_bl pa_nil))) pa_nil))))
        (pss_cons (ps_set (i := 5) nd rfl (by first | exact .inl rfl | exact .inr rfl) (pe_call GN hr (by rfl) gN FN.kp bN .nil pass0 (pa_cons (pv 0) (pa_cons (pv 3) pa_nil)))) (pss_one (ps_asg pe_bl (pg_sub (pe_ix ix_list (pe_ix ix_list (pv 5) pe_int (fun _ _ => rfl)) (pv 4) (fun _ _ => rfl)) pe_int set_list))))))))), ?_⟩
  obtain ⟨wv, ht, hw⟩ := id hd
  refine ⟨_, rfl, t, _, rfl, ht, rfl, _, _, rfl, _, _, rfl, _, _, rfl, rfl, ?_⟩
  have hM0 := hM
  obtain ⟨mt, ml, mr, S, hG⟩ := hM
  cases d with
  | table n cs =>
    obtain ⟨ac, rfl, hac⟩ := hw
    obtain ⟨c1, c2, rfl⟩ := can
    refine ⟨_, rfl, rfl, _, rfl, iteT' (decide_eq_true rfl) ?_⟩
    refine ⟨_, rfl, .inl ⟨rfl, _, SqL.of S.dict⟩, _, rfl, _, rfl, Nat.zero_le _, fun q1 n1 => ⟨by show 3 ≤ sizeLine; decide, fun q2 n2 => ?_⟩⟩
    have j1 := new_same (o := .lst []) n1
    have j2 := new_same (o := .lst [.str (Deed.table n cs).name, .ref ac, .ref q1]) n2
    have e1 : upd (upd H q1 (.lst [])) q2 (.lst [.str (Deed.table n cs).name, .ref ac, .ref q1]) q1 = some (.lst []) := j2 _ _ upd_same
    have e2 : upd (upd H q1 (.lst [])) q2 (.lst [.str (Deed.table n cs).name, .ref ac, .ref q1]) q2 = some (.lst [.str (Deed.table n cs).name, .ref ac, .ref q1]) := upd_same
    have s2 := j1.trans j2
    have n20 : H q2 = none := j1.free n2
    generalize upd (upd H q1 (.lst [])) q2 (.lst [.str (Deed.table n cs).name, .ref ac, .ref q1]) = H2 at e1 e2 s2 ⊢
    have dM := s2 _ _ S.dict
    have x6 := ok.tabs
    refine ⟨M, _, _, rfl, rfl, dM, by rw [List.length_map, List.length_range, sizeLine_eq]; omega, ?_⟩
    have nq1 : q1 ≠ M := fun z => by rw [z, S.dict] at n1; cases n1
    have nq2 : q2 ≠ M := fun z => by rw [z, S.dict] at n20; cases n20
    have tpM : Tups K H2 (upd H2 M (.lst ((List.range x.tabs.length).map (fun i => V.ref (mt i)) ++ [.ref q2]))) := .upd_lst dM
    have kp : ∀ b o, b ≠ M → H b = some o → upd H2 M (.lst ((List.range x.tabs.length).map (fun i => V.ref (mt i)) ++ [.ref q2])) b = some o := fun b o nb e => by rw [upd_ne nb]; exact s2 _ _ e
    refine q _ (mfoot M (x.tabs ++ [⟨n, cs, x.deeds.length, []⟩]) (fun i => if i = x.tabs.length then q2 else mt i) (fun i => if i = x.tabs.length then q1 else ml i) mr) ⟨_, _, _, S.table (t := ⟨n, cs, x.deeds.length, []⟩) rfl n1 n20 upd_same (by rw [upd_ne nq1]; exact e1) (by rw [upd_ne nq2]; exact e2) (tpM _ _ (Tups.of_same s2 _ _ hac)) kp, fun _ => .rfl⟩ ⟨fun b o nf e => kp b o (fun z => nf ((hG b).mpr (.inl z))) e, fun b hb => ?_⟩
    rcases hb with rfl | ⟨i, hi, hb⟩ | ⟨i, t0, k, h1, h2, rfl⟩
    · exact .inl ((hG _).mpr (.inl rfl))
    · rw [List.length_append, List.length_singleton] at hi
      by_cases z : i = x.tabs.length
      · simp only [if_pos z] at hb
        rcases hb with rfl | rfl
        · exact .inr n20
        · exact .inr n1
      · simp only [if_neg z] at hb
        exact .inl ((hG _).mpr (.inr (.inl ⟨i, by omega, hb⟩)))
    · rcases snoc_at h1 with ⟨l1, z1⟩ | ⟨l1, z1⟩
      · exact .inl ((hG _).mpr (.inr (.inr ⟨i, t0, k, z1, h2, rfl⟩)))
      · subst z1
        cases h2
  | row n ws =>
    obtain ⟨aw, rfl, haw⟩ := hw
    obtain ⟨i, tb, c1, rfl, c3, c4, rfl⟩ := can
    have x6 := ok.tabs
    refine ⟨_, rfl, rfl, _, rfl, iteF' (by rw [decide_eq_true_eq]; intro z; exact absurd (V.str.inj z) (show ¬ ("row" : Str) = "table" by decide)) ?_⟩
    refine ⟨_, rfl, rfl, _, rfl, iteT' (decide_eq_true rfl) ?_⟩
    have li : i < x.tabs.length := (List.getElem?_eq_some_iff.mp c1).1
    refine ⟨_, rfl, _, rfl, M, x.tabs, mt, ml, mr, tb.name, rfl, S, by omega, ok.nd, fun i' t' hi' ht' H0 s0 => ?_, fun no => absurd rfl (no tb (List.mem_of_getElem? c1))⟩
    obtain rfl : i' = i := name_inj ok.nd hi' c1 ht'
    obtain ⟨ca, hT, hC⟩ := S.tup i' tb c1
    have L0 := s0 _ _ (S.lst i' tb c1)
    refine ⟨mt i', _, 2, _, rfl, rfl, SqL.of (s0 _ _ hT), atI_nat (j := 2) rfl, .inl ⟨rfl, _, SqL.of L0⟩, _, rfl, by show 2 ≤ sizeLine; decide, fun qn nq => ?_⟩
    have jq := s0.trans (new_same (o := .lst [.ref aw, .bl true]) nq)
    have nq0 : H qn = none := s0.free nq
    have L1 := jq _ _ (S.lst i' tb c1)
    have eq1 : upd H0 qn (.lst [.ref aw, .bl true]) qn = some (.lst (mRow ⟨ws, x.deeds.length, none⟩ aw)) := upd_same
    generalize upd H0 qn (.lst [.ref aw, .bl true]) = H1 at jq eq1 L1 ⊢
    have nql : qn ≠ ml i' := fun z => by rw [z, L0] at nq; cases nq
    refine ⟨ml i', _, _, rfl, rfl, L1, by rw [List.length_map, List.length_range, sizeLine_eq]; omega, ?_⟩
    have kp : ∀ b o, b ≠ ml i' → H b = some o → upd H1 (ml i') (.lst ((List.range tb.rows.length).map (fun k => V.ref (mr i' k)) ++ [.ref qn])) b = some o := fun b o nb e => by rw [upd_ne nb]; exact jq _ _ e
    have tp : Tups K H1 (upd H1 (ml i') (.lst ((List.range tb.rows.length).map (fun k => V.ref (mr i' k)) ++ [.ref qn]))) := .upd_lst L1
    refine q _ (mfoot M (x.onRows tb.name fun rs => rs ++ [⟨ws, x.deeds.length, none⟩]).tabs mt ml fun j k => if j = i' ∧ k = tb.rows.length then qn else mr j k) ⟨mt, ml, _, S.put ok.nd c1 ⟨ws, x.deeds.length, none⟩ (b := aw) nq0 (by rw [upd_ne nql]; exact eq1) (tp _ _ (Tups.of_same jq _ _ haw)) upd_same kp, fun _ => .rfl⟩
      ⟨fun b o nf e => kp b o (fun z => nf ((hG b).mpr (.inr (.inl ⟨i', li, .inr z⟩)))) e, fun b hb => ?_⟩
    rcases hb with rfl | ⟨j, hj, hb⟩ | ⟨j, t0, k, h1, h2, rfl⟩
    · exact .inl ((hG _).mpr (.inl rfl))
    · refine .inl ((hG _).mpr (.inr (.inl ⟨j, ?_, hb⟩)))
      rw [show (x.onRows tb.name fun rs => rs ++ [⟨ws, x.deeds.length, none⟩]).tabs.length = x.tabs.length from List.length_map _] at hj
      exact hj
    · by_cases z : j = i' ∧ k = tb.rows.length
      · simp only [if_pos z]
        exact .inr nq0
      · simp only [if_neg z]
        rcases on_at ok.nd c1 _ h1 with ⟨rfl, rfl⟩ | ⟨n1, z1⟩
        · refine .inl ((hG _).mpr (.inr (.inr ⟨j, tb, k, c1, ?_, rfl⟩)))
          have h2 : k < (tb.rows ++ [_]).length := h2
          rw [List.length_append, List.length_singleton] at h2
          have : k ≠ tb.rows.length := fun y => z ⟨rfl, y⟩
          omega
        · exact .inl ((hG _).mpr (.inr (.inr ⟨j, t0, k, z1, h2, rfl⟩)))
  | out n k =>
    obtain rfl := hw
    obtain ⟨i, tb, r, c1, rfl, c3, c4, rfl⟩ := can
    have x6 := ok.tabs
    refine ⟨_, rfl, rfl, _, rfl, iteF' (by rw [decide_eq_true_eq]; intro z; exact absurd (V.str.inj z) (show ¬ ("out" : Str) = "table" by decide)) ?_⟩
    refine ⟨_, rfl, rfl, _, rfl, iteF' (by rw [decide_eq_true_eq]; intro z; exact absurd (V.str.inj z) (show ¬ ("out" : Str) = "row" by decide)) ?_⟩
    have li : i < x.tabs.length := (List.getElem?_eq_some_iff.mp c1).1
    have lk : k < tb.rows.length := (List.getElem?_eq_some_iff.mp c3).1
    refine ⟨_, rfl, _, rfl, M, x.tabs, mt, ml, mr, tb.name, rfl, S, by omega, ok.nd, fun i' t' hi' ht' H0 s0 => ?_, fun no => absurd rfl (no tb (List.mem_of_getElem? c1))⟩
    obtain rfl : i' = i := name_inj ok.nd hi' c1 ht'
    obtain ⟨ca, hT, hC⟩ := S.tup i' tb c1
    have L0 := s0 _ _ (S.lst i' tb c1)
    obtain ⟨b, R0, W0⟩ := S.row i' tb k r c1 c3
    have R1 := s0 _ _ R0
    have ak : atI ((List.range tb.rows.length).map fun k => V.ref (mr i' k)) ((k : Nat) : Int) = some (.ref (mr i' k)) := atI_nat (by
      rw [List.getElem?_map, List.getElem?_range lk]
      rfl)
    refine ⟨_, rfl, mt i', _, 2, _, rfl, rfl, SqL.of (s0 _ _ hT), atI_nat (j := 2) rfl, _, rfl, ml i', _, _, _, rfl, rfl, SqL.of L0, ak, mr i' k, _, 1, 1, rfl, rfl, R1, rfl, ?_⟩
    have kp : ∀ b0 o, b0 ≠ mr i' k → H b0 = some o → upd H0 (mr i' k) (.lst ((mRow r b).set 1 (.bl false))) b0 = some o := fun b0 o nb e => by rw [upd_ne nb]; exact s0 _ _ e
    have tp : Tups K H0 (upd H0 (mr i' k) (.lst ((mRow r b).set 1 (.bl false)))) := .upd_lst R1
    refine q _ G ⟨mt, ml, mr, S.out ok.nd c1 lk ⟨r.ws, r.put, some x.deeds.length⟩ (b := b) (by rw [upd_same]; rfl) (tp _ _ (Tups.of_same s0 _ _ W0)) kp, fun b0 => ?_⟩ ⟨fun b0 o nf e => kp b0 o (fun z => nf ((hG b0).mpr (.inr (.inr ⟨i', tb, k, c1, lk, z⟩)))) e, fun b0 h0 => .inl h0⟩
    rw [hG]
    have ln : (x.onRows tb.name fun rs => rs.set k ⟨r.ws, r.put, some x.deeds.length⟩).tabs.length = x.tabs.length := List.length_map _
    unfold mfoot
    rw [ln]
    refine or_congr .rfl (or_congr .rfl ⟨fun ⟨j, t0, m, h1, h2, h3⟩ => ?_, fun ⟨j, t0, m, h1, h2, h3⟩ => ?_⟩)
    · by_cases z : j = i'
      · subst z
        rw [c1] at h1
        cases h1
        refine ⟨j, { tb with rows := tb.rows.set k ⟨r.ws, r.put, some x.deeds.length⟩ }, m, ?_, by show m < (tb.rows.set k _).length; rw [List.length_set]; exact h2, h3⟩
        show (x.tabs.map (onTab tb.name fun t => { t with rows := t.rows.set k _ }))[j]? = _
        rw [List.getElem?_map, c1]
        show some (onTab tb.name _ tb) = _
        unfold onTab
        rw [if_pos rfl]
      · refine ⟨j, t0, m, ?_, h2, h3⟩
        show (x.tabs.map (onTab tb.name fun t => { t with rows := t.rows.set k _ }))[j]? = _
        rw [List.getElem?_map, h1]
        show some (onTab tb.name _ t0) = _
        unfold onTab
        rw [if_neg (fun y => z (name_inj ok.nd h1 c1 y))]
    · rcases on_at ok.nd c1 _ h1 with ⟨rfl, rfl⟩ | ⟨n1, z1⟩
      · refine ⟨j, tb, m, c1, ?_, h3⟩
        have h2 : m < (tb.rows.set k _).length := h2
        rw [List.length_set] at h2
        exact h2
      · exact ⟨j, t0, m, z1, h2, h3⟩
end
end K07
end

section
set_option Elab.async false
set_option linter.all false
set_option maxRecDepth 100000
set_option maxHeartbeats 4000000
/-! what the law deems a deed; what is due of one. -/
namespace K07
open PySem PySem.Spec PyProof.Rows L2 Gd K07t
abbrev sName7 : Stmt := topS 45
abbrev nName : List Str := ["_law_thing", "_law_letters", "_law_sign"]
theorem scName7 : FnScope nName ["_law_thing"] (defScope sName7) := ⟨rfl, rfl, rfl, by decide +kernel, rfl, by decide +kernel, by decide +kernel⟩
abbrev sWhole7 : Stmt := topS 46
theorem scWhole7 : FnScope ["_law_thing"] ["_law_thing"] (defScope sWhole7) := ⟨rfl, rfl, rfl, by decide +kernel, rfl, by decide +kernel, by decide +kernel⟩
abbrev sFormed : Stmt := topS 47
abbrev nFormed : List Str := ["_law_thing", "_law_rest", "_law_odd", "_law_one"]
theorem scFormed : FnScope nFormed ["_law_thing"] (defScope sFormed) := ⟨rfl, rfl, rfl, by decide +kernel, rfl, by decide +kernel, by decide +kernel⟩
abbrev sLDue : Stmt := topS 48
abbrev nLDue : List Str := ["_law_state", "_law_doing", "_law_word", "_law_title", "_law_rest", "_law_table"]
theorem scLDue : FnScope nLDue ["_law_state", "_law_doing"] (defScope sLDue) := ⟨rfl, rfl, rfl, by decide +kernel, rfl, by decide +kernel, by decide +kernel⟩
def spName7 : Sp := fun vs H Q _ => ∃ x : Str, vs = [.str x] ∧ isLab x = true ∧ ∀ H', Same H H' → Q (.bl true) H'
def spWhole7 : Sp := fun vs H Q _ => ∃ i : Int, vs = [.int i] ∧ ∀ H', Same H H' → Q (.bl true) H'
def spFormed (K : PySem.W.Frag) : Sp := fun vs H Q _ => ∃ (t : Addr) (d : Deed), vs = [.ref t] ∧ DeedAt K H t d ∧ DeedOk d ∧ ∀ H', Same H H' → Q (.bl true) H'
def tabNamed (x : Shelf) (n : Str) : Option Tab := x.tabs.find? fun t => decide (t.name = n)
/-- what is due of a deed -/
def dueL (x : Shelf) : Deed → List V
  | .table n _ => if n ∈ x.tabs.map Tab.name then [.str "taken", .str n] else if 5 < x.tabs.length then [.str "many", .int 6] else [.str "told", .non]
  | .row n ws => match tabNamed x n with
    | none => [.str "unknown", .str n]
    | some t => if 59 < t.rows.length then [.str "many", .int 60] else if ws.length ≠ t.cols.length then [.str "deed"] else [.str "told", .int t.rows.length]
  | .out n k => match tabNamed x n with
    | none => [.str "unknown", .str n]
    | some t => if (t.rows[k]?.bind Rw.out).isNone ∧ k < t.rows.length then [.str "told", .non] else [.str "place", .int k]
def spLDue (K : PySem.W.Frag) : Sp := fun vs H Q _ => ∃ (M t : Addr) (x : Shelf) (G : Addr → Prop) (d : Deed), vs = [.ref M, .ref t] ∧ ModF K H M x.tabs G ∧ ShelfOk x ∧ DeedAt K H t d ∧ DeedOk d ∧
  ∀ (r : Addr) H', Same H H' → SqT K H' r (dueL x d) → Q (.ref r) H'
theorem named_of {x : Shelf} (nd : (x.tabs.map Tab.name).Nodup) {i : Nat} {t : Tab} (h : x.tabs[i]? = some t) : tabNamed x t.name = some t := by
  unfold tabNamed
  cases e : x.tabs.find? fun u => decide (u.name = t.name) with
  | none => exact absurd (decide_eq_true rfl) (List.find?_eq_none.mp e t (List.mem_of_getElem? h))
  | some u =>
    have z : u.name = t.name := of_decide_eq_true (List.find?_some (p := fun u : Tab => decide (u.name = t.name)) e)
    obtain ⟨j, hj⟩ := List.mem_iff_getElem?.mp (List.mem_of_find?_eq_some e)
    obtain rfl := name_inj nd hj h z
    rw [h] at hj
    exact hj.symm
theorem named_at {x : Shelf} {n : Str} {t : Tab} (h : tabNamed x n = some t) : ∃ i : Nat, x.tabs[i]? = some t ∧ t.name = n := by
  obtain ⟨j, hj⟩ := List.mem_iff_getElem?.mp (List.mem_of_find?_eq_some h)
  exact ⟨j, hj, of_decide_eq_true (List.find?_some (p := fun u : Tab => decide (u.name = n)) h)⟩
theorem named_no {x : Shelf} {n : Str} (h : tabNamed x n = none) : ∀ t ∈ x.tabs, t.name ≠ n := fun t ht e => absurd (decide_eq_true e) (List.find?_eq_none.mp h t ht)
/-- just what can be done is told -/
theorem not_told {s : Str} {l : List V} (h : (V.str s :: l)[0]? = some (.str "told")) (n : ¬ s = "told") : False := n (V.str.inj (Option.some.inj h))
theorem due_can {x : Shelf} {d : Deed} (h : (dueL x d)[0]? = some (.str "told")) : ∃ y, Can x d y := by
  cases d with
  | table n cs =>
    simp only [dueL] at h
    by_cases a : n ∈ x.tabs.map Tab.name
    · rw [if_pos a] at h
      exact (not_told h (by decide)).elim
    · rw [if_neg a] at h
      by_cases b : 5 < x.tabs.length
      · rw [if_pos b] at h
        exact (not_told h (by decide)).elim
      · exact ⟨_, a, by omega, rfl⟩
  | row n ws =>
    simp only [dueL] at h
    cases e : tabNamed x n with
    | none =>
      rw [e] at h
      exact (not_told h (by decide)).elim
    | some t =>
      rw [e] at h
      dsimp only at h
      obtain ⟨i, hi, rfl⟩ := named_at e
      by_cases a : 59 < t.rows.length
      · rw [if_pos a] at h
        exact (not_told h (by decide)).elim
      · rw [if_neg a] at h
        by_cases b : ws.length ≠ t.cols.length
        · rw [if_pos b] at h
          exact (not_told h (by decide)).elim
        · exact ⟨_, i, t, hi, rfl, by omega, by simpa using b, rfl⟩
  | out n k =>
    simp only [dueL] at h
    cases e : tabNamed x n with
    | none =>
      rw [e] at h
      exact (not_told h (by decide)).elim
    | some t =>
      rw [e] at h
      dsimp only at h
      obtain ⟨i, hi, rfl⟩ := named_at e
      by_cases a : (t.rows[k]?.bind Rw.out).isNone = true ∧ k < t.rows.length
      · obtain ⟨a1, a2⟩ := a
        have er : t.rows[k]? = some t.rows[k] := List.getElem?_eq_getElem a2
        rw [er] at a1
        exact ⟨_, i, t, t.rows[k], hi, rfl, er, by simpa using a1, rfl⟩
      · rw [if_neg a] at h
        exact (not_told h (by decide)).elim
section
variable {P : Program} {w : World} {K : PySem.W.Frag} {mg : Str → Option Value} {base : Heap} {f fN fW fF fD pS : Addr} {fd dN dW dF dD : FuncData}
theorem ok_name7 (F : Fun K "_law_is_name" "_law_is_name" sName7 f fd) (C : Cs K mg pS) : FnOk P w K mg base CX0 1 f fd ["_law_thing"] spName7 := by
  refine F.ok scName7 (fun vs H Q E h => ?_) (fun cdv A outer s H vs Q E hr h => ?_)
  · obtain ⟨x, rfl, _⟩ := h
    rfl
  obtain ⟨x, rfl, lab, q⟩ := h
  have nd := scName7.nd
  have hu := Nat.lt_of_succ_lt (hu_of hr)
  refine ⟨_, pss_cons (ps_set (i := 1) nd rfl (by first | exact .inl rfl | exact .inr rfl) pe_str)
      (pss_one (ps_ret (pe_and (pe_callB call_isi (by rfl) C.isi (by decide +kernel) (pa_cons (pv 0) (pa_cons (pe_bltn (v := .ty "str") (by rfl) C.str (by decide +kernel) rfl) pa_nil))) (pe_and (pe_chain op_lt op_lt pe_int (pe_callB call_len_str (by rfl) C.len PySem.boot_len (pa_cons (pv 0) pa_nil)) pe_int) (pe_one (pe_cmpR (op_eqL0 hu) (pe_lc (own := [("_law_sign", 2)]) (g := gName 2) rfl nd (pi_str (pv 0)) (blkOk_by (N := nName) (sc := defScope sName7) (by decide +kernel)) (fun _ _ _ _ _ => pg_name (i := 2) nd rfl (Or.inl rfl)) (fun _ _ _ _ _ => (pts_one (pt_cmpR op_notIn_sign (pv 2) (pv 1) (by rfl)))) (fun _ _ _ _ _ => (pv 2))) (pe_lst pa_nil) (nomark _))))))), ?_⟩
  have lb := lab
  unfold isLab at lb
  simp only [Bool.and_eq_true, decide_eq_true_eq, List.all_eq_true] at lb
  obtain ⟨⟨l1, l8⟩, al⟩ := lb
  have hd : Dd K H (fun _ => False) (.str x) (.str x) := .str _
  refine ⟨_, rfl, _, _, _, _, true, rfl, .ty _, hd.kind, kit_ty (k_str _), _, rfl, iteT' rfl ?_⟩
  refine ⟨_, rfl, x, rfl, by rw [sizeLine_eq]; omega, _, _, rfl, rfl, _, rfl, iteT' (decide_eq_true (by omega)) ?_⟩
  refine ⟨_, _, rfl, rfl, _, rfl, iteT' (decide_eq_true (by omega)) ?_⟩
  refine ⟨_, rfl, x, rfl, fun D nD => ?_⟩
  refine lc_it walk_str (fun i H' => Same H H' ∧ H' D = some (.lst [])) ⟨new_same nD, upd_same⟩ (fun _ _ _ _ => trivial) ?_ ?_
  · rintro i v H1 H2 hi ⟨sm, eD⟩ ⟨rfl, c, ec, rfl⟩
    refine ⟨rfl, ?_⟩
    have hc : c ∈ ("abcdefghijklmnopqrstuvwxyz" : Str).cps.toList := al c (by rw [← Array.getElem?_toList] at ec; exact List.mem_of_getElem? ec)
    exact ⟨_, rfl, _, rfl, c, _, rfl, rfl, _, rfl, iteF' (by rw [decide_eq_true hc]; simp) ⟨sm, eD⟩⟩
  rintro H1 ⟨sm, eD⟩
  refine ⟨Nat.zero_le _, fun b nb => ?_⟩
  have jb := new_same (o := .lst []) nb
  refine ⟨D, b, [], rfl, rfl, SqL.of (jb _ _ eD), SqL.of upd_same, ?_⟩
  exact q _ (sm.trans jb)
theorem ok_whole7 (F : Fun K "_law_is_whole" "_law_is_whole" sWhole7 f fd) (C : Cs K mg pS) : FnOk P w K mg base CX0 1 f fd ["_law_thing"] spWhole7 := by
  refine F.ok scWhole7 (fun vs H Q E h => ?_) (fun cdv A outer s H vs Q E hr h => ?_)
  · obtain ⟨x, rfl, _⟩ := h
    rfl
  obtain ⟨i, rfl, q⟩ := h
  have nd := scWhole7.nd
  refine ⟨_, pss_one (ps_ret (pe_and (pe_callB call_isi (by rfl) C.isi (by decide +kernel) (pa_cons (pv 0) (pa_cons (pe_bltn (v := .ty "int") (by rfl) C.int (by decide +kernel) rfl) pa_nil))) (pe_one (pe_not (pe_callB call_isi (by rfl) C.isi (by decide +kernel) (pa_cons (pv 0) (pa_cons (pe_bltn (v := .ty "bool") (by rfl) C.bool (by decide +kernel) rfl) pa_nil))))))), ?_⟩
  have hd : Dd K H (fun _ => False) (.int i) (.int i) := .int _
  refine ⟨_, rfl, _, _, _, _, true, rfl, .ty _, hd.kind, kit_ty (k_int _), _, rfl, iteT' rfl ?_⟩
  refine ⟨_, rfl, _, _, _, _, false, rfl, .ty _, hd.kind, kit_ty (k_bool _), _, rfl, ?_⟩
  exact q _ fun _ _ e => e
theorem ok_formed (F : Fun K "_law_is_formed" "_law_is_formed" sFormed f fd) (C : Cs K mg pS) (M : Ct mg) (ma : mg "abs" = none)
    (FN : Fun K "_law_is_name" "_law_is_name" sName7 fN dN) (GN : FnOk P w K mg base CX0 1 fN dN ["_law_thing"] spName7) (gN : mg "_law_is_name" = some (.ref fN)) (bN : Binds K dN ["_law_thing"] [])
    (FW : Fun K "_law_is_whole" "_law_is_whole" sWhole7 fW dW) (GW : FnOk P w K mg base CX0 1 fW dW ["_law_thing"] spWhole7) (gW : mg "_law_is_whole" = some (.ref fW)) (bW : Binds K dW ["_law_thing"] []) :
    FnOk P w K mg base CX0 2 f fd ["_law_thing"] (spFormed K) := by
  refine F.ok scFormed (fun vs H Q E h => ?_) (fun cdv A outer s H vs Q E hr h => ?_)
  · obtain ⟨t, d, rfl, _⟩ := h
    rfl
  obtain ⟨t, d, rfl, ⟨v, ht, hv⟩, ok, q⟩ := h
  have nd := scFormed.nd
  have hu := Nat.lt_of_succ_lt (hu_of hr)
  have r1 := hr.mono (show 1 ≤ 1 by decide)
  refine ⟨_, pss_cons (ps_if (PW.pt (pw_or (pt_not (pt_val (pe_callB call_isi (by rfl) C.isi (by decide +kernel) (pa_cons (pv 0) (pa_cons (pe_bltn (v := .ty "tuple") (by rfl) M.tup (by decide +kernel) rfl) pa_nil))))) (pw_or (pt_cmpR op_ne (pe_callB call_len_seq (by rfl) C.len PySem.boot_len (pa_cons (pv 0) pa_nil)) pe_int (nomark _)) (pw_or (pt_not (pt_val (pe_callB call_isi (by rfl) C.isi (by decide +kernel) (pa_cons (pe_ix ix_tup (pv 0) pe_int (fun _ _ => rfl)) (pa_cons (pe_bltn (v := .ty "str") (by rfl) C.str (by decide +kernel) rfl) pa_nil))))) (pw_or1 (pt_not (pt_val (pe_call GN r1 (by rfl) gN FN.kp bN .nil pass0 (pa_cons (pe_ix ix_tup (pv 0) pe_int (fun _ _ => rfl)) pa_nil))))))))) (pss_one (ps_ret pe_bl)) pss_nil)
      (pss_cons (ps_set (i := 1) nd rfl (by first | exact .inl rfl | exact .inr rfl) (pe_ix ix_tup (pv 0) pe_int (fun _ _ => rfl)))
      (pss_cons (ps_if (pt_cmpR op_eq (pe_ix ix_tup (pv 0) pe_int (fun _ _ => rfl)) pe_str (nomark _)) (pss_one (ps_ret (pe_and (pe_call GW r1 (by rfl) gW FW.kp bW .nil pass0 (pa_cons (pv 1) pa_nil)) (pe_one (pe_cmpR op_ge (pv 1) pe_int (nomark _)))))) pss_nil)
      (pss_cons (ps_if (pt_not (pt_val (pe_callB call_isi (by rfl) C.isi (by decide +kernel) (pa_cons (pv 1) (pa_cons (pe_bltn (v := .ty "tuple") (by rfl) M.tup (by decide +kernel) rfl) pa_nil))))) (pss_one (ps_ret pe_bl)) pss_nil)
      (pss_cons (ps_if (pt_cmpR op_eq (pe_ix ix_tup (pv 0) pe_int (fun _ _ => rfl)) pe_str (nomark _)) (pss_one (ps_ret (pe_cmpR (op_eqL0 hu) (pe_lc (own := [("_law_one", 3)]) (g := gName 3) rfl nd (pi_tup (pv 1)) (blkOk_by (N := nFormed) (sc := defScope sFormed) (by decide +kernel)) (fun _ _ _ _ _ => pg_name (i := 3) nd rfl (Or.inl rfl)) (fun _ _ _ _ _ => (pts_one (PW.pt (pw_or (pt_not (pt_val (pe_call GW r1 (by rfl) gW FW.kp bW .nil pass0 (pa_cons (pv 3) pa_nil)))) (pw_or1 (pt_cmpR op_ge (pe_callB call_abs (by rfl) ma (by decide +kernel) (pa_cons (pv 3) pa_nil)) (pe_op op_pow pe_int pe_int) (nomark _))))))) (fun _ _ _ _ _ => (pv 3))) (pe_lst pa_nil) (nomark _)))) pss_nil)
      (pss_cons (ps_setLc (i := 2) (own := [("_law_one", 3)]) (g := gName 3) rfl nd rfl rfl (by rfl) (pi_tup (pv 1)) (blkOk_by (N := nFormed) (sc := defScope sFormed) (by decide +kernel)) (fun _ _ _ _ _ => pg_name (i := 3) nd rfl (Or.inl rfl)) (fun _ _ _ _ _ => (pts_one (pt_not (pt_val (pe_call GN r1 (by rfl) gN FN.kp bN .nil pass0 (pa_cons (pv 3) pa_nil)))))) (fun _ _ _ _ _ => (pv 3)))
      (pss_one (ps_ret (pe_and (pe_cmpR op_eq (pe_ix ix_tup (pv 0) pe_int (fun _ _ => rfl)) pe_str (nomark _)) (pe_and (pe_chain op_lt op_lt pe_int (pe_callB call_len_seq (by rfl) C.len PySem.boot_len (pa_cons (pv 1) pa_nil)) pe_int) (pe_and (pe_cmpR (op_eqL0 hu) (pv 2) (pe_lst pa_nil) (nomark _)) (pe_one (pe_cmpR op_eq (Sk.pe_lenSetK rfl (by rfl) C.len (by rfl) M.set_ (pv 1)) (pe_callB call_len_seq (by rfl) C.len PySem.boot_len (pa_cons (pv 1) pa_nil)) (nomark _))))))))))))), ?_⟩
  have at0 : atI [V.str d.word, V.str d.name, v] 0 = some (.str d.word) := atI_nat (j := 0) rfl
  have at1 : atI [V.str d.word, V.str d.name, v] 1 = some (.str d.name) := atI_nat (j := 1) rfl
  have at2 : atI [V.str d.word, V.str d.name, v] 2 = some v := atI_nat (j := 2) rfl
  have hs : Dd K H (fun _ => False) (.str d.word) (.str d.word) := .str _
  have z30 : (10 ^ 30 : Int) = 1000000000000000000000000000000 := by decide
  refine ⟨_, rfl, _, _, _, _, true, rfl, .ty _, tyT ht, kit_ty (by decide +kernel), _, rfl, iteF' (by simp) ?_⟩
  refine ⟨_, rfl, t, _, rfl, .inr ht, rfl, _, rfl, iteF' (by simp) ?_⟩
  refine ⟨_, rfl, t, _, 0, _, rfl, rfl, ht, at0, _, _, _, _, true, rfl, .ty _, hs.kind, kit_ty (k_str _), _, rfl, iteF' (by simp) ?_⟩
  refine ⟨_, rfl, t, _, 1, _, rfl, rfl, ht, at1, d.name, rfl, ok.lab, fun H1 s1 => ⟨_, rfl, iteF' (by simp) ?_⟩⟩
  have ht1 := Tups.of_same s1 _ _ ht
  have hv1 := hv.tups (Tups.of_same s1)
  refine ⟨_, rfl, t, _, 2, _, rfl, rfl, ht1, at2, ?_⟩
  refine ⟨_, rfl, t, _, 0, _, rfl, rfl, ht1, at0, rfl, _, rfl, ?_⟩
  cases d with
  | out n k =>
    obtain rfl := hv1
    refine iteT' (decide_eq_true rfl) ?_
    refine ⟨_, rfl, _, rfl, fun H2 s2 => ⟨_, rfl, iteT' rfl ?_⟩⟩
    refine ⟨_, rfl, _, _, rfl, rfl, ?_⟩
    show Q (.bl (decide ((0 : Int) ≤ (k : Int)))) H2
    rw [show decide ((0 : Int) ≤ (k : Int)) = true from decide_eq_true (by omega)]
    exact q _ (s1.trans s2)
  | row n ws =>
    obtain ⟨a, rfl, ha⟩ := hv1
    refine iteF' (by rw [decide_eq_true_eq]; intro z; exact absurd (V.str.inj z) (show ¬ ("row" : Str) = "out" by decide)) ?_
    refine ⟨_, rfl, _, _, _, _, true, rfl, .ty _, tyT ha, kit_ty (by decide +kernel), _, rfl, iteF' (by simp) ?_⟩
    refine ⟨_, rfl, t, _, 0, _, rfl, rfl, ht1, at0, rfl, _, rfl, iteT' (decide_eq_true rfl) ?_⟩
    refine ⟨_, rfl, a, rfl, ⟨_, ha⟩, fun D nD => ?_⟩
    refine lc_tup (K := K) (a := a) (xs := ws.map V.int) (fun i H' => Same H1 H' ∧ H' D = some (.lst [])) ⟨new_same nD, upd_same⟩ (fun i H' _ y => Tups.of_same y.1 _ _ ha) ?_ ?_
    · rintro i x H' hx ⟨sm, eD⟩
      rw [List.getElem?_map, Option.map_eq_some_iff] at hx
      obtain ⟨c, hc, rfl⟩ := hx
      obtain ⟨c0, c1⟩ := ok.2.1 c (List.mem_of_getElem? hc)
      refine ⟨rfl, ?_⟩
      refine ⟨_, rfl, c, rfl, fun H2 s2 => ⟨_, rfl, iteF' (by simp) ?_⟩⟩
      refine ⟨_, rfl, c, rfl, 10, 30, rfl, rfl, ⟨by decide, by decide, by decide⟩, _, _, rfl, rfl, _, rfl, iteF' ?_ ⟨sm.trans s2, s2 _ _ eD⟩⟩
      rw [decide_eq_true_eq]
      show ¬ (10 ^ 30 : Int) ≤ if c < 0 then -c else c
      split <;> omega
    rintro H2 ⟨sm, eD⟩
    refine ⟨Nat.zero_le _, fun b nb => ?_⟩
    have jb := new_same (o := .lst []) nb
    exact ⟨D, b, [], rfl, rfl, SqL.of (jb _ _ eD), SqL.of upd_same, q _ (s1.trans (sm.trans jb))⟩
  | table n cs =>
    obtain ⟨a, rfl, ha⟩ := hv1
    obtain ⟨_, o1, o4, ond, olab⟩ := ok
    refine iteF' (by rw [decide_eq_true_eq]; intro z; exact absurd (V.str.inj z) (show ¬ ("table" : Str) = "out" by decide)) ?_
    refine ⟨_, rfl, _, _, _, _, true, rfl, .ty _, tyT ha, kit_ty (by decide +kernel), _, rfl, iteF' (by simp) ?_⟩
    refine ⟨_, rfl, t, _, 0, _, rfl, rfl, ht1, at0, rfl, _, rfl, iteF' (by rw [decide_eq_true_eq]; intro z; exact absurd (V.str.inj z) (show ¬ ("table" : Str) = "row" by decide)) ?_⟩
    refine ⟨_, rfl, a, rfl, ⟨_, ha⟩, fun D nD => ?_⟩
    refine lc_tup (K := K) (a := a) (xs := cs.map V.str) (fun i H' => Same H1 H' ∧ H' D = some (.lst [])) ⟨new_same nD, upd_same⟩ (fun i H' _ y => Tups.of_same y.1 _ _ ha) ?_ ?_
    · rintro i x H' hx ⟨sm, eD⟩
      rw [List.getElem?_map, Option.map_eq_some_iff] at hx
      obtain ⟨c, hc, rfl⟩ := hx
      refine ⟨rfl, ?_⟩
      exact ⟨_, rfl, c, rfl, olab c (List.mem_of_getElem? hc), fun H2 s2 => ⟨_, rfl, iteF' (by simp) ⟨sm.trans s2, s2 _ _ eD⟩⟩⟩
    rintro H2 ⟨sm, eD⟩
    have hl : (cs.map V.str).length = cs.length := List.length_map _
    have ht2 := Tups.of_same sm _ _ ht1
    have ha2 := Tups.of_same sm _ _ ha
    refine ⟨_, rfl, t, _, 0, _, rfl, rfl, ht2, at0, rfl, _, rfl, iteT' (decide_eq_true rfl) ?_⟩
    refine ⟨_, rfl, a, _, rfl, .inr ha2, _, _, rfl, rfl, _, rfl, iteT' (decide_eq_true (by rw [hl]; omega)) ?_⟩
    refine ⟨_, _, rfl, rfl, _, rfl, iteT' (decide_eq_true (by rw [hl]; omega)) ?_⟩
    refine ⟨_, rfl, Nat.zero_le _, fun b nb => ?_⟩
    have jb := new_same (o := .lst []) nb
    refine ⟨D, b, [], rfl, rfl, SqL.of (jb _ _ eD), SqL.of upd_same, _, rfl, iteT' rfl ?_⟩
    have ha3 := Tups.of_same jb _ _ ha2
    have hk : (cs.map (Sum.inr : Str → Key)).map kV = cs.map V.str := by rw [List.map_map]; rfl
    have ndk : (cs.map (Sum.inr : Str → Key)).Nodup := List.Pairwise.map Sum.inr (fun x y h z => h (Sum.inr.inj z)) ond
    refine ⟨_, rfl, a, cs.map Sum.inr, rfl, .inr (by rw [hk]; exact ha3), by rw [List.length_map]; omega, ?_⟩
    rw [uniq_nd ndk]
    refine ⟨_, rfl, a, _, rfl, .inr ha3, rfl, ?_⟩
    rw [show decide (V.int (((cs.map (Sum.inr : Str → Key)).length : Nat) : Int) = V.int (((cs.map V.str).length : Nat) : Int)) = true from decide_eq_true (by rw [List.length_map, List.length_map])]
    exact q _ (s1.trans (sm.trans jb))
theorem ok_ldue (F : Fun K "_law_due" "_law_due" sLDue f fd) (C : Cs K mg pS)
    (FF : Fun K "_law_is_formed" "_law_is_formed" sFormed fF dF) (GF : FnOk P w K mg base CX0 2 fF dF ["_law_thing"] (spFormed K)) (gF : mg "_law_is_formed" = some (.ref fF)) (bF : Binds K dF ["_law_thing"] [])
    (FD : Fun K "_law_named" "_law_named" sNamed fD dD) (GD : FnOk P w K mg base CX0 1 fD dD ["_law_state", "_law_title"] (spNamed K)) (gD : mg "_law_named" = some (.ref fD)) (bD : Binds K dD ["_law_state", "_law_title"] []) :
    FnOk P w K mg base CX0 3 f fd ["_law_state", "_law_doing"] (spLDue K) := by
  refine F.ok scLDue (fun vs H Q E h => ?_) (fun cdv A outer s H vs Q E hr h => ?_)
  · obtain ⟨M, t, x, G, d, rfl, _⟩ := h
    rfl
  obtain ⟨M, t, x, G, d, rfl, hM, ok, hd, dok, q⟩ := h
  have nd := scLDue.nd
  have r1 := hr.mono (show 1 ≤ 2 by decide)
  refine ⟨_, pss_cons (ps_if (pt_not (pt_val (pe_call GF hr (by rfl) gF FF.kp bF .nil pass0 (pa_cons (pv 1) pa_nil)))) (pss_one (ps_ret (pe_tup (pa_cons pe_str pa_nil)))) pss_nil)
      (pss_cons (ps_asg (pv 1) (pg_tup (n := 3) rfl (pgs_cons (pg_name (i := 2) nd rfl (.inl rfl)) (pgs_cons (pg_name (i := 3) nd rfl (.inl rfl)) (pgs_cons (pg_name (i := 4) nd rfl (.inl rfl)) pgs_nil)))))
      (pss_cons (ps_set (i := 5) nd rfl (by first | exact .inl rfl | exact .inr rfl) (pe_call GD r1 (by rfl) gD FD.kp bD .nil pass0 (pa_cons (pv 0) (pa_cons (pv 3) pa_nil))))
      (pss_cons (ps_if (pt_cmpR op_eq (pv 2) pe_str (nomark _)) (pss_cons (ps_if (pt_cmp (pc_notN (pv 5))) (pss_one (ps_ret (pe_tup (pa_cons pe_str (pa_cons (pv 3) pa_nil))))) pss_nil) (pss_one (ps_ret (pe_ifExp (pt_cmpR op_gt (pe_callB call_len_seq (by rfl) C.len PySem.boot_len (pa_cons (pv 0) pa_nil)) pe_int (nomark _)) (pe_tup (pa_cons pe_str (pa_cons pe_int pa_nil))) (pe_tup (pa_cons pe_str (pa_cons pe_non pa_nil))))))) pss_nil)
      (pss_cons (ps_if (pt_cmp (pc_isN (pv 5))) (pss_one (ps_ret (pe_tup (pa_cons pe_str (pa_cons (pv 3) pa_nil))))) pss_nil)
      (pss_cons (ps_if (pt_cmpR op_eq (pv 2) pe_str (nomark _)) (pss_cons (ps_if (pt_cmpR op_gt (pe_callB call_len_seq (by rfl) C.len PySem.boot_len (pa_cons (pe_ix ix_list (pv 5) pe_int (fun _ _ => rfl)) pa_nil)) pe_int (nomark _)) (pss_one (ps_ret (pe_tup (pa_cons pe_str (pa_cons pe_int pa_nil))))) pss_nil) (pss_one (ps_ret (pe_ifExp (pt_cmpR op_ne (pe_callB call_len_seq (by rfl) C.len PySem.boot_len (pa_cons (pv 4) pa_nil)) (pe_callB call_len_seq (by rfl) C.len PySem.boot_len (pa_cons (pe_ix ix_list (pv 5) pe_int (fun _ _ => rfl)) pa_nil)) (nomark _)) (pe_tup (pa_cons pe_str pa_nil)) (pe_tup (pa_cons pe_str (pa_cons (pe_callB call_len_seq (by rfl) C.len PySem.boot_len (pa_cons (pe_ix ix_list (pv 5) pe_int (fun _ _ => rfl)) pa_nil)) pa_nil))))))) pss_nil)
      (pss_cons (ps_if (PW.pt (pw_or (pt_cmpR op_ge (pv 4) (pe_callB call_len_seq (by rfl) C.len PySem.boot_len (pa_cons (pe_ix ix_list (pv 5) pe_int (fun _ _ => rfl)) pa_nil)) (nomark _)) (pw_or1 (pt_not (pt_val (pe_ix ix_list (pe_ix ix_list (pe_ix ix_list (pv 5) pe_int (fun _ _ => rfl)) (pv 4) (fun _ _ => rfl)) pe_int (fun _ _ => rfl))))))) (pss_one (ps_ret (pe_tup (pa_cons pe_str (pa_cons (pv 4) pa_nil))))) pss_nil)
      (pss_one (ps_ret (pe_tup (pa_cons pe_str (pa_cons pe_non pa_nil))))))))))), ?_⟩
  obtain ⟨mt, ml, mr, S, hG⟩ := hM
  have x6 := ok.tabs
  refine ⟨_, rfl, t, d, rfl, hd, dok, fun H1 s1 => ⟨_, rfl, iteF' (by simp) ?_⟩⟩
  obtain ⟨wv, ht, hw⟩ := hd.tups (Tups.of_same s1)
  refine ⟨_, rfl, t, _, rfl, ht, rfl, _, _, rfl, _, _, rfl, _, _, rfl, rfl, ?_⟩
  have tw : ∀ {G : Hp} {a : Addr} {u v : V}, (H1 a = none → True) → SqT K (upd G a (.tup [u, v])) a [u, v] := fun _ => SqT.of upd_same
  have eqs : ∀ {u v : Str}, ¬ u = v → ¬ decide (V.str u = V.str v) = true := fun n => by rw [decide_eq_true_eq]; exact fun z => n (V.str.inj z)
  have S1 : ModAt K H1 M x.tabs mt ml mr := by
    have tp := Tups.of_same (K := K) s1
    refine ⟨s1 _ _ S.dict, fun i t0 e => ?_, fun i t0 e => s1 _ _ (S.lst i t0 e), fun i t0 k r e1 e2 => ?_, S.apM, S.apL, S.apR, S.apX⟩
    · obtain ⟨ca, f1, f2⟩ := S.tup i t0 e
      exact ⟨ca, s1 _ _ f1, tp _ _ f2⟩
    · obtain ⟨b, f1, f2⟩ := S.row i t0 k r e1 e2
      exact ⟨b, s1 _ _ f1, tp _ _ f2⟩
  refine ⟨_, rfl, _, rfl, M, x.tabs, mt, ml, mr, d.name, rfl, S1, by omega, ok.nd, fun i tb hi hn H2 s2 => ?_, fun no H2 s2 => ?_⟩
  · have s12 := s1.trans s2
    have en : tabNamed x d.name = some tb := by rw [← hn]; exact named_of ok.nd hi
    obtain ⟨ca, T0, C0⟩ := S1.tup i tb hi
    have T2 := s2 _ _ T0
    have C2 := Tups.of_same s2 _ _ C0
    have L2 := s2 _ _ (S1.lst i tb hi)
    have hl : ((List.range tb.rows.length).map fun k => V.ref (mr i k)).length = tb.rows.length := by rw [List.length_map, List.length_range]
    cases d with
    | table n cs =>
      have hn : tb.name = n := hn
      have mem : n ∈ x.tabs.map Tab.name := List.mem_map.mpr ⟨tb, List.mem_of_getElem? hi, hn⟩
      refine ⟨_, rfl, rfl, _, rfl, iteT' (decide_eq_true rfl) ?_⟩
      refine ⟨_, rfl, _, rfl, iteT' rfl ?_⟩
      refine ⟨_, rfl, by show 2 ≤ sizeLine; decide, fun r nr => q r _ (s12.trans (new_same nr)) ?_⟩
      simp only [dueL]
      rw [if_pos mem]
      exact SqT.of upd_same
    | row n ws =>
      obtain ⟨aw, rfl, haw⟩ := hw
      have hd0 : dueL x (.row n ws) = if 59 < tb.rows.length then [.str "many", .int 60] else if ws.length ≠ tb.cols.length then [.str "deed"] else [.str "told", .int tb.rows.length] := by
        simp only [dueL]
        rw [show tabNamed x n = some tb from en]
      rw [hd0] at q
      refine ⟨_, rfl, rfl, _, rfl, iteF' (eqs (show ¬ ("row" : Str) = "table" by decide)) ?_⟩
      refine ⟨_, rfl, _, rfl, iteF' (by simp) ?_⟩
      refine ⟨_, rfl, rfl, _, rfl, iteT' (decide_eq_true rfl) ?_⟩
      refine ⟨_, rfl, mt i, _, 2, _, rfl, rfl, SqL.of T2, atI_nat (j := 2) rfl, ml i, _, rfl, .inl (SqL.of L2), _, _, rfl, rfl, _, rfl, ?_⟩
      rw [hl]
      by_cases z : 59 < tb.rows.length
      · rw [if_pos z] at q
        refine iteT' (decide_eq_true (by show (59 : Int) < (tb.rows.length : Int); omega)) ?_
        exact ⟨by show 2 ≤ sizeLine; decide, fun r nr => q r _ (s12.trans (new_same nr)) (SqT.of upd_same)⟩
      · rw [if_neg z] at q
        refine iteF' (by rw [decide_eq_true_eq]; show ¬ (59 : Int) < (tb.rows.length : Int); omega) ?_
        have haw2 := Tups.of_same s2 _ _ haw
        refine ⟨_, rfl, aw, _, rfl, .inr haw2, _, rfl, mt i, _, 1, _, rfl, rfl, SqL.of T2, atI_nat (j := 1) rfl, ca, _, rfl, .inr C2, rfl, _, rfl, ?_⟩
        rw [List.length_map, List.length_map]
        by_cases z2 : ws.length ≠ tb.cols.length
        · rw [if_pos z2] at q
          refine iteT' (by simp; omega) ?_
          exact ⟨by show 1 ≤ sizeLine; decide, fun r nr => q r _ (s12.trans (new_same nr)) (SqT.of upd_same)⟩
        · rw [if_neg z2] at q
          refine iteF' (by simp; omega) ?_
          refine ⟨_, rfl, mt i, _, 2, _, rfl, rfl, SqL.of T2, atI_nat (j := 2) rfl, ml i, _, rfl, .inl (SqL.of L2), by show 2 ≤ sizeLine; decide, fun r nr => ?_⟩
          rw [hl]
          exact q r _ (s12.trans (new_same nr)) (SqT.of upd_same)
    | out n k =>
      obtain rfl := hw
      have hd0 : dueL x (.out n k) = if (tb.rows[k]?.bind Rw.out).isNone ∧ k < tb.rows.length then [.str "told", .non] else [.str "place", .int k] := by
        simp only [dueL]
        rw [show tabNamed x n = some tb from en]
      rw [hd0] at q
      refine ⟨_, rfl, rfl, _, rfl, iteF' (eqs (show ¬ ("out" : Str) = "table" by decide)) ?_⟩
      refine ⟨_, rfl, _, rfl, iteF' (by simp) ?_⟩
      refine ⟨_, rfl, rfl, _, rfl, iteF' (eqs (show ¬ ("out" : Str) = "row" by decide)) ?_⟩
      refine ⟨_, rfl, _, rfl, mt i, _, 2, _, rfl, rfl, SqL.of T2, atI_nat (j := 2) rfl, ml i, _, rfl, .inl (SqL.of L2), _, _, rfl, rfl, _, rfl, ?_⟩
      rw [hl]
      by_cases z : k < tb.rows.length
      · refine iteF' (by rw [decide_eq_true_eq]; show ¬ (tb.rows.length : Int) ≤ (k : Int); omega) ?_
        obtain ⟨b, R0, _⟩ := S1.row i tb k _ hi (List.getElem?_eq_getElem z)
        have ak : atI ((List.range tb.rows.length).map fun k => V.ref (mr i k)) ((k : Nat) : Int) = some (.ref (mr i k)) := atI_nat (by
          rw [List.getElem?_map, List.getElem?_range z]
          rfl)
        refine ⟨_, rfl, mt i, _, 2, _, rfl, rfl, SqL.of T2, atI_nat (j := 2) rfl, _, rfl, ml i, _, _, _, rfl, rfl, SqL.of L2, ak, mr i k, _, 1, _, rfl, rfl, SqL.of (s2 _ _ R0), atI_nat (j := 1) rfl, _, rfl, ?_⟩
        have e1 : (tb.rows[k]?.bind Rw.out).isNone = tb.rows[k].out.isNone := by rw [List.getElem?_eq_getElem z]; rfl
        rw [e1] at q
        cases ho : tb.rows[k].out.isNone with
        | true =>
          rw [if_pos ⟨ho, z⟩] at q
          refine iteF' (by simp) ?_
          exact ⟨by show 2 ≤ sizeLine; decide, fun r nr => q r _ (s12.trans (new_same nr)) (SqT.of upd_same)⟩
        | false =>
          rw [if_neg (fun y => by rw [ho] at y; exact Bool.noConfusion y.1)] at q
          refine iteT' (by simp) ?_
          exact ⟨_, rfl, by show 2 ≤ sizeLine; decide, fun r nr => q r _ (s12.trans (new_same nr)) (SqT.of upd_same)⟩
      · rw [if_neg (fun y => z y.2)] at q
        refine iteT' (decide_eq_true (by show (tb.rows.length : Int) ≤ (k : Int); omega)) ?_
        exact ⟨_, rfl, by show 2 ≤ sizeLine; decide, fun r nr => q r _ (s12.trans (new_same nr)) (SqT.of upd_same)⟩
  · have s12 := s1.trans s2
    have en : tabNamed x d.name = none := List.find?_eq_none.mpr fun t ht => by
      rw [decide_eq_true_eq]
      exact no t ht
    cases d with
    | table n cs =>
      have mem : n ∉ x.tabs.map Tab.name := fun m => by
        obtain ⟨t, ht, e⟩ := List.mem_map.mp m
        exact no t ht e
      simp only [dueL] at q
      rw [if_neg mem] at q
      refine ⟨_, rfl, rfl, _, rfl, iteT' (decide_eq_true rfl) ?_⟩
      refine ⟨_, rfl, _, rfl, iteF' (by simp) ?_⟩
      refine ⟨_, rfl, M, _, rfl, .inl (SqL.of (s2 _ _ S1.dict)), _, _, rfl, rfl, _, rfl, ?_⟩
      rw [List.length_map, List.length_range]
      by_cases z : 5 < x.tabs.length
      · rw [if_pos z] at q
        refine iteT' (decide_eq_true (by show (5 : Int) < (x.tabs.length : Int); omega)) ?_
        exact ⟨by show 2 ≤ sizeLine; decide, fun r nr => q r _ (s12.trans (new_same nr)) (SqT.of upd_same)⟩
      · rw [if_neg z] at q
        refine iteF' (by rw [decide_eq_true_eq]; show ¬ (5 : Int) < (x.tabs.length : Int); omega) ?_
        exact ⟨by show 2 ≤ sizeLine; decide, fun r nr => q r _ (s12.trans (new_same nr)) (SqT.of upd_same)⟩
    | row n ws =>
      have hd0 : dueL x (.row n ws) = [.str "unknown", .str n] := by
        simp only [dueL]
        rw [show tabNamed x n = none from en]
      rw [hd0] at q
      refine ⟨_, rfl, rfl, _, rfl, iteF' (eqs (show ¬ ("row" : Str) = "table" by decide)) ?_⟩
      refine ⟨_, rfl, _, rfl, iteT' rfl ?_⟩
      exact ⟨_, rfl, by show 2 ≤ sizeLine; decide, fun r nr => q r _ (s12.trans (new_same nr)) (SqT.of upd_same)⟩
    | out n k =>
      have hd0 : dueL x (.out n k) = [.str "unknown", .str n] := by
        simp only [dueL]
        rw [show tabNamed x n = none from en]
      rw [hd0] at q
      refine ⟨_, rfl, rfl, _, rfl, iteF' (eqs (show ¬ ("out" : Str) = "table" by decide)) ?_⟩
      refine ⟨_, rfl, _, rfl, iteT' rfl ?_⟩
      exact ⟨_, rfl, by show 2 ≤ sizeLine; decide, fun r nr => q r _ (s12.trans (new_same nr)) (SqT.of upd_same)⟩
end
end K07
end

section
set_option Elab.async false
set_option linter.all false
set_option maxRecDepth 100000
set_option maxHeartbeats 4000000
namespace Szg
open PySem PySem.Spec PyProof.Rows L2 Gd
/-! sizes of data -/
structure Sm (w n : Nat) (d : PyData) : Prop where
  lf : d.leavesShort 100 = true
  sh : d.showable = true
  wt : d.weight ≤ w
  dp : d.depth ≤ n
structure Sms (w n : Nat) (ds : List PyData) : Prop where
  lf : PyData.leavesShortAll 100 ds = true
  sh : PyData.showableAll ds = true
  wt : PyData.weightAll ds ≤ w
  dp : PyData.depthAll ds ≤ n
theorem Sm.mono {w n w' n' : Nat} {d : PyData} (h : Sm w n d) (a : w ≤ w') (b : n ≤ n') : Sm w' n' d := ⟨h.lf, h.sh, Nat.le_trans h.wt a, Nat.le_trans h.dp b⟩
theorem Sms.mono {w n w' n' : Nat} {ds : List PyData} (h : Sms w n ds) (a : w ≤ w') (b : n ≤ n') : Sms w' n' ds := ⟨h.lf, h.sh, Nat.le_trans h.wt a, Nat.le_trans h.dp b⟩
theorem Sms.nil {n : Nat} : Sms 0 n [] := ⟨rfl, rfl, Nat.le_refl _, Nat.zero_le _⟩
theorem Sms.cons {w v n : Nat} {d : PyData} {ds : List PyData} (h : Sm w n d) (g : Sms v n ds) : Sms (w + 1 + v) n (d :: ds) := by
  refine ⟨?_, ?_, ?_, ?_⟩
  · simp only [PyData.leavesShortAll, h.lf, g.lf, Bool.and_self]
  · simp only [PyData.showableAll, h.sh, g.sh, Bool.and_self]
  · have := h.wt
    have := g.wt
    simp only [PyData.weightAll]
    omega
  · have := h.dp
    have := g.dp
    simp only [PyData.depthAll]
    omega
theorem Sms.tup {w n : Nat} {ds : List PyData} (g : Sms w n ds) : Sm (w + 1) (n + 1) (.tuple ds) := by
  refine ⟨by simp only [PyData.leavesShort, g.lf], by simp only [PyData.showable, g.sh], ?_, ?_⟩
  · have := g.wt
    simp only [PyData.weight]
    omega
  · have := g.dp
    simp only [PyData.depth]
    omega
theorem Sms.lst {w n : Nat} {ds : List PyData} (g : Sms w n ds) : Sm (w + 1) (n + 1) (.list ds) := by
  refine ⟨by simp only [PyData.leavesShort, g.lf], by simp only [PyData.showable, g.sh], ?_, ?_⟩
  · have := g.wt
    simp only [PyData.weight]
    omega
  · have := g.dp
    simp only [PyData.depth]
    omega
theorem Sm.shown {w n : Nat} {d : PyData} (h : Sm w n d) (a : w ≤ 160000) (b : n ≤ 60) : d.showable = true ∧ d.shown.length ≤ sizeLine ∧ d.depth ≤ 60 := by
  have x := PyData.shown_le 100 (by decide) d h.lf
  have y := h.wt
  have z : sizeLine = 16777216 := rfl
  exact ⟨h.sh, by omega, Nat.le_trans h.dp b⟩
theorem sm_none : Sm 5 0 .none := ⟨rfl, rfl, by decide, by decide⟩
theorem sm_bool (b : Bool) : Sm 5 0 (.bool b) := by cases b <;> exact ⟨rfl, rfl, by decide, by decide⟩
theorem int_log {i : Int} (h : i.natAbs ≤ 10 ^ 62) : i.natAbs.log2 < 207 := by
  by_cases z : i.natAbs = 0
  · rw [z]; decide
  · exact (Nat.log2_lt z).mpr (Nat.lt_of_le_of_lt h (by decide +kernel))
theorem sm_int {i : Int} (h : i.natAbs ≤ 10 ^ 62) : Sm 212 0 (.int i) := by
  have h1 : i.natAbs < 10 ^ 63 := Nat.lt_of_le_of_lt h (by decide)
  have hl := int_log h
  refine ⟨?_, ?_, ?_, Nat.le_refl _⟩
  · have e := int_text_length_le10 (k := 63) (by decide) h1
    have e2 : (PyData.int i).shown.length = (toString i).length := by
      show (Str.ofString (toString i)).length = _
      rw [PySem.ofString_length]
    simp only [PyData.leavesShort, decide_eq_true_eq]
    omega
  · have : i.natAbs.log2 < 1920 := by omega
    simpa [PyData.showable] using this
  · simp only [PyData.weight]
    split <;> omega
/-- a plain text: codes under 128, no longer than 30 -/
def Pl (s : Str) : Prop := (∀ c ∈ s.cps.toList, c < 128) ∧ s.length ≤ 30
theorem sm_str {s : Str} (h : Pl s) : Sm 30 0 (.str s) := by
  refine ⟨?_, ?_, ?_, Nat.le_refl _⟩
  · simp only [PyData.leavesShort, List.all_eq_true, decide_eq_true_eq]
    intro c hc
    exact Nat.lt_of_lt_of_le (h.1 c hc) (by decide)
  · simp [PyData.showable]
  · have w : (PyData.str s).weight = s.length := by simp only [PyData.weight]; rfl
    have := h.2
    omega
theorem Sms.all {w n : Nat} {ds : List PyData} (h : ∀ d ∈ ds, Sm w n d) : Sms ((w + 1) * ds.length) n ds := by
  induction ds with
  | nil => exact Sms.nil
  | cons d ds ih =>
    refine (Sms.cons (h d (by simp)) (ih fun e m => h e (by simp [m]))).mono ?_ (Nat.le_refl _)
    rw [List.length_cons, Nat.mul_add]
    omega
end Szg
end

section
set_option Elab.async false
set_option linter.all false
set_option maxRecDepth 100000
set_option maxHeartbeats 4000000
/-! tables by deeds done one behind another; what stood at an elder moment: mathematics. -/
namespace K07
open PySem PySem.Spec PyProof.Rows L2 Gd K07t
structure Chain (ds : List Deed) (xs : Nat → Shelf) : Prop where
  z : xs 0 = ⟨[], []⟩
  s : ∀ (k : Nat) (d : Deed), ds[k]? = some d → DeedOk d ∧ ∃ y, Can (xs k) d y ∧ xs (k + 1) = { y with deeds := (xs k).deeds ++ [d] }
theorem Chain.deeds {ds : List Deed} {xs : Nat → Shelf} (c : Chain ds xs) : ∀ k, k ≤ ds.length → (xs k).deeds = ds.take k
  | 0, _ => by rw [c.z]; rfl
  | k + 1, h => by
    have e : ds[k]? = some ds[k] := List.getElem?_eq_getElem (by omega)
    obtain ⟨_, y, _, e2⟩ := c.s k _ e
    rw [e2, List.take_add_one, e, ← c.deeds k (by omega)]
    rfl
theorem Chain.len {ds : List Deed} {xs : Nat → Shelf} (c : Chain ds xs) (k : Nat) (h : k ≤ ds.length) : (xs k).deeds.length = k := by
  rw [c.deeds k h, List.length_take]
  omega
theorem ok_none : ShelfOk ⟨[], []⟩ := ⟨List.Pairwise.nil, fun _ h => (nomatch h), Nat.zero_le _, Nat.zero_le _, fun _ h => (nomatch h), fun _ h => (nomatch h)⟩
theorem Chain.ok {ds : List Deed} {xs : Nat → Shelf} (c : Chain ds xs) (h4 : ds.length ≤ 4000) : ∀ k, k ≤ ds.length → ShelfOk (xs k)
  | 0, _ => by rw [c.z]; exact ok_none
  | k + 1, h => by
    have e : ds[k]? = some ds[k] := List.getElem?_eq_getElem (by omega)
    obtain ⟨dok, y, can, e2⟩ := c.s k _ e
    rw [e2]
    exact (c.ok h4 k (by omega)).next dok can (by rw [c.len k (by omega)]; omega)
/-- one deed more -/
theorem Chain.snoc {ds : List Deed} {xs : Nat → Shelf} (c : Chain ds xs) {d : Deed} {y : Shelf} (ok : DeedOk d) (can : Can (xs ds.length) d y) :
    Chain (ds ++ [d]) (fun k => if k = ds.length + 1 then { y with deeds := (xs ds.length).deeds ++ [d] } else xs k) := by
  refine ⟨by rw [if_neg (by omega)]; exact c.z, fun k e h => ?_⟩
  have lk : k < ds.length + 1 := by
    have := (List.getElem?_eq_some_iff.mp h).1
    rwa [List.length_append, List.length_singleton] at this
  rw [if_neg (by omega)]
  by_cases z : k = ds.length
  · subst z
    rw [List.getElem?_append_right (Nat.le_refl _), Nat.sub_self] at h
    cases (show some d = some e from h)
    exact ⟨ok, y, can, by rw [if_pos rfl]⟩
  · rw [if_neg (by omega)]
    rw [List.getElem?_append_left (by omega)] at h
    exact c.s k e h
/-! ### what was put, what was taken out -/
def Past (x : Shelf) : Prop := ∀ t ∈ x.tabs, t.made < x.deeds.length ∧ ∀ r ∈ t.rows, r.put < x.deeds.length ∧ ∀ o, r.out = some o → o < x.deeds.length
/-- small tables -/
def Sized (x : Shelf) : Prop := ∀ t ∈ x.tabs, ColsOk t.cols ∧ ∀ r ∈ t.rows, r.ws.length ≤ 4 ∧ WsOk r.ws
theorem past_none : Past ⟨[], []⟩ := fun _ h => nomatch h
theorem sized_none : Sized ⟨[], []⟩ := fun _ h => nomatch h
theorem Past.next {x y : Shelf} {d : Deed} (p : Past x) (can : Can x d y) : Past { y with deeds := x.deeds ++ [d] } := by
  have l : (x.deeds ++ [d]).length = x.deeds.length + 1 := by rw [List.length_append, List.length_singleton]
  have up : ∀ t ∈ x.tabs, t.made < (x.deeds ++ [d]).length ∧ ∀ r ∈ t.rows, r.put < (x.deeds ++ [d]).length ∧ ∀ o, r.out = some o → o < (x.deeds ++ [d]).length := fun t ht => by
    rw [l]
    obtain ⟨a, b⟩ := p t ht
    refine ⟨by omega, fun r hr => ?_⟩
    obtain ⟨c, e⟩ := b r hr
    exact ⟨by omega, fun o ho => by have := e o ho; omega⟩
  cases d with
  | table n cs =>
    obtain ⟨_, _, rfl⟩ := can
    intro t ht
    rcases List.mem_append.mp (show t ∈ x.tabs ++ [(⟨n, cs, x.deeds.length, []⟩ : Tab)] from ht) with m | m
    · exact up t m
    · rw [List.mem_singleton.mp m]
      exact ⟨by show x.deeds.length < (x.deeds ++ _).length; rw [l]; omega, fun r hr => nomatch hr⟩
  | row n ws =>
    obtain ⟨i, t0, _, _, _, _, rfl⟩ := can
    intro u hu
    have hu : u ∈ (x.onRows n fun rs => rs ++ [⟨ws, x.deeds.length, none⟩]).tabs := hu
    obtain ⟨t, ht, _, _, em, (⟨_, er⟩ | ⟨_, er⟩)⟩ := onRows_mem hu
    · rw [em, er]
      exact up t ht
    · rw [em, er]
      obtain ⟨a, b⟩ := up t ht
      refine ⟨a, fun r hr => ?_⟩
      rcases List.mem_append.mp hr with m | m
      · exact b r m
      · rw [List.mem_singleton.mp m]
        exact ⟨by show x.deeds.length < (x.deeds ++ _).length; rw [l]; omega, fun o ho => nomatch ho⟩
  | out n k =>
    obtain ⟨i, t0, r0, h0, h1, h2, h3, rfl⟩ := can
    intro u hu
    have hu : u ∈ (x.onRows n fun rs => rs.set k ⟨r0.ws, r0.put, some x.deeds.length⟩).tabs := hu
    obtain ⟨t, ht, _, _, em, (⟨_, er⟩ | ⟨_, er⟩)⟩ := onRows_mem hu
    · rw [em, er]
      exact up t ht
    · rw [em, er]
      obtain ⟨a, b⟩ := up t ht
      refine ⟨a, fun r hr => ?_⟩
      rcases List.mem_or_eq_of_mem_set hr with m | m
      · exact b r m
      · rw [m]
        refine ⟨((up t0 (List.mem_of_getElem? h0)).2 r0 (List.mem_of_getElem? h2)).1, fun o ho => ?_⟩
        cases (show some x.deeds.length = some o from ho)
        show x.deeds.length < (x.deeds ++ _).length
        rw [l]
        omega
theorem Sized.next {x y : Shelf} {d : Deed} (p : Sized x) (ok : DeedOk d) (can : Can x d y) (ds : List Deed) : Sized { y with deeds := ds } := by
  cases d with
  | table n cs =>
    obtain ⟨_, _, rfl⟩ := can
    intro t ht
    rcases List.mem_append.mp (show t ∈ x.tabs ++ [(⟨n, cs, x.deeds.length, []⟩ : Tab)] from ht) with m | m
    · exact p t m
    · rw [List.mem_singleton.mp m]
      exact ⟨ok.2, fun r hr => nomatch hr⟩
  | row n ws =>
    obtain ⟨i, t0, h0, h1, _, h3, rfl⟩ := can
    intro u hu
    have hu : u ∈ (x.onRows n fun rs => rs ++ [⟨ws, x.deeds.length, none⟩]).tabs := hu
    obtain ⟨t, ht, _, ec, em, (⟨_, er⟩ | ⟨_, er⟩)⟩ := onRows_mem hu
    · rw [ec, er]
      exact p t ht
    · rw [ec, er]
      obtain ⟨a, b⟩ := p t ht
      refine ⟨a, fun r hr => ?_⟩
      rcases List.mem_append.mp hr with m | m
      · exact b r m
      · rw [List.mem_singleton.mp m]
        have := (p t0 (List.mem_of_getElem? h0)).1.four
        exact ⟨by show ws.length ≤ 4; omega, ok.2.1⟩
  | out n k =>
    obtain ⟨i, t0, r0, h0, h1, h2, h3, rfl⟩ := can
    intro u hu
    have hu : u ∈ (x.onRows n fun rs => rs.set k ⟨r0.ws, r0.put, some x.deeds.length⟩).tabs := hu
    obtain ⟨t, ht, _, ec, em, (⟨_, er⟩ | ⟨_, er⟩)⟩ := onRows_mem hu
    · rw [ec, er]
      exact p t ht
    · rw [ec, er]
      obtain ⟨a, b⟩ := p t ht
      refine ⟨a, fun r hr => ?_⟩
      rcases List.mem_or_eq_of_mem_set hr with m | m
      · exact b r m
      · rw [m]
        exact (p t0 (List.mem_of_getElem? h0)).2 r0 (List.mem_of_getElem? h2)
theorem Chain.past {ds : List Deed} {xs : Nat → Shelf} (c : Chain ds xs) : ∀ k, k ≤ ds.length → Past (xs k)
  | 0, _ => by rw [c.z]; exact past_none
  | k + 1, h => by
    have e : ds[k]? = some ds[k] := List.getElem?_eq_getElem (by omega)
    obtain ⟨dok, y, can, e2⟩ := c.s k _ e
    rw [e2]
    exact (c.past k (by omega)).next can
theorem Chain.sized {ds : List Deed} {xs : Nat → Shelf} (c : Chain ds xs) : ∀ k, k ≤ ds.length → Sized (xs k)
  | 0, _ => by rw [c.z]; exact sized_none
  | k + 1, h => by
    have e : ds[k]? = some ds[k] := List.getElem?_eq_getElem (by omega)
    obtain ⟨dok, y, can, e2⟩ := c.s k _ e
    rw [e2]
    exact (c.sized k (by omega)).next dok can _
/-! ### an elder moment -/
structure Ago (m : Nat) (u t : Tab) : Prop where
  name : t.name = u.name
  cols : t.cols = u.cols
  made : t.made = u.made
  len : u.rows.length ≤ t.rows.length
  old : ∀ (k : Nat) (r : Rw), u.rows[k]? = some r → ∃ s, t.rows[k]? = some s ∧ s.ws = r.ws ∧ stands m s = r.out.isNone
  new : ∀ (k : Nat) (s : Rw), u.rows.length ≤ k → t.rows[k]? = some s → stands m s = false
structure Elder (m : Nat) (x z : Shelf) : Prop where
  old : ∀ (i : Nat) (u : Tab), x.tabs[i]? = some u → ∃ t, z.tabs[i]? = some t ∧ Ago m u t
  new : ∀ (i : Nat) (t : Tab), z.tabs[i]? = some t → x.tabs.length ≤ i → m ≤ t.made
theorem Elder.self {x : Shelf} (p : Past x) : Elder x.deeds.length x x := by
  refine ⟨fun i u h => ⟨u, h, rfl, rfl, rfl, Nat.le_refl _, fun k r hr => ⟨r, hr, rfl, ?_⟩, fun k s h1 h2 => ?_⟩, fun i t h1 h2 => ?_⟩
  · obtain ⟨a, b⟩ := (p u (List.mem_of_getElem? h)).2 r (List.mem_of_getElem? hr)
    unfold stands
    rw [decide_eq_true a, Bool.true_and]
    cases e : r.out with
    | none => rfl
    | some o => exact decide_eq_false (by have := b o e; omega)
  · have := (List.getElem?_eq_some_iff.mp h2).1
    omega
  · have := (List.getElem?_eq_some_iff.mp h1).1
    omega
theorem on_at' {x : Shelf} {n : Str} {g : List Rw → List Rw} {i : Nat} {t : Tab} (h : x.tabs[i]? = some t) : (x.onRows n g).tabs[i]? = some (if t.name = n then { t with rows := g t.rows } else t) := by
  show (x.tabs.map (onTab n fun t => { t with rows := g t.rows }))[i]? = _
  rw [List.getElem?_map, h]
  rfl
theorem on_back {x : Shelf} {n : Str} {g : List Rw → List Rw} {i : Nat} {t : Tab} (h : (x.onRows n g).tabs[i]? = some t) : ∃ t0, x.tabs[i]? = some t0 ∧ t = if t0.name = n then { t0 with rows := g t0.rows } else t0 := by
  have h : (x.tabs.map (onTab n fun t => { t with rows := g t.rows }))[i]? = some t := h
  rw [List.getElem?_map, Option.map_eq_some_iff] at h
  obtain ⟨t0, h0, e⟩ := h
  exact ⟨t0, h0, e.symm⟩
theorem Ago.rows {m : Nat} {u t : Tab} (a : Ago m u t) {rs : List Rw} (l : t.rows.length ≤ rs.length) (old : ∀ (k : Nat) (s : Rw), t.rows[k]? = some s → ∃ s', rs[k]? = some s' ∧ s'.ws = s.ws ∧ stands m s' = stands m s) (new : ∀ (k : Nat) (s : Rw), t.rows.length ≤ k → rs[k]? = some s → stands m s = false) : Ago m u { t with rows := rs } := by
  refine ⟨a.name, a.cols, a.made, Nat.le_trans a.len l, fun k r hr => ?_, fun k s hk hs => ?_⟩
  · obtain ⟨s, h1, h2, h3⟩ := a.old k r hr
    obtain ⟨s', g1, g2, g3⟩ := old k s h1
    exact ⟨s', g1, g2.trans h2, g3.trans h3⟩
  · by_cases z : k < t.rows.length
    · obtain ⟨s', g1, g2, g3⟩ := old k _ (List.getElem?_eq_getElem z)
      have hs : rs[k]? = some s := hs
      rw [hs] at g1
      cases g1
      rw [g3]
      exact a.new k _ hk (List.getElem?_eq_getElem z)
    · exact new k s (by omega) hs
theorem Elder.next {m : Nat} {x z y : Shelf} {d : Deed} (e : Elder m x z) (nd : (z.tabs.map Tab.name).Nodup) (h : m ≤ z.deeds.length) (can : Can z d y) (ds : List Deed) : Elder m x { y with deeds := ds } := by
  cases d with
  | table n cs =>
    obtain ⟨_, _, rfl⟩ := can
    refine ⟨fun i u hu => ?_, fun i t ht hi => ?_⟩
    · obtain ⟨t, h1, h2⟩ := e.old i u hu
      exact ⟨t, by show (z.tabs ++ _)[i]? = _; rw [List.getElem?_append_left (List.getElem?_eq_some_iff.mp h1).1]; exact h1, h2⟩
    · rcases snoc_at (show (z.tabs ++ [(⟨n, cs, z.deeds.length, []⟩ : Tab)])[i]? = some t from ht) with ⟨_, g⟩ | ⟨_, rfl⟩
      · exact e.new i t g hi
      · exact h
  | row n ws =>
    obtain ⟨_, _, _, _, _, _, rfl⟩ := can
    have ag : ∀ {u t : Tab}, Ago m u t → Ago m u { t with rows := t.rows ++ [⟨ws, z.deeds.length, none⟩] } := fun {u t} a => by
      refine a.rows (by rw [List.length_append]; omega) (fun k s hs => ⟨s, by rw [List.getElem?_append_left (List.getElem?_eq_some_iff.mp hs).1]; exact hs, rfl, rfl⟩) fun k s hk hs => ?_
      rw [List.getElem?_append_right hk] at hs
      have : s = ⟨ws, z.deeds.length, none⟩ := by
        have := List.mem_of_getElem? hs
        simpa using this
      rw [this]
      unfold stands
      rw [decide_eq_false (show ¬ z.deeds.length < m by omega)]
      rfl
    refine ⟨fun i u hu => ?_, fun i t ht hi => ?_⟩
    · obtain ⟨t, h1, h2⟩ := e.old i u hu
      refine ⟨_, on_at' (n := n) (g := fun rs => rs ++ [⟨ws, z.deeds.length, none⟩]) h1, ?_⟩
      split
      · exact ag h2
      · exact h2
    · obtain ⟨t0, h0, rfl⟩ := on_back (x := z) (n := n) (g := fun rs => rs ++ [⟨ws, z.deeds.length, none⟩]) ht
      have := e.new i t0 h0 hi
      split <;> exact this
  | out n k0 =>
    obtain ⟨i0, t0, r0, g0, g1, g2, g3, rfl⟩ := can
    have ag : ∀ {u t : Tab}, t.rows[k0]? = some r0 → Ago m u t → Ago m u { t with rows := t.rows.set k0 ⟨r0.ws, r0.put, some z.deeds.length⟩ } := fun {u t} hr a => by
      refine a.rows (by rw [List.length_set]; omega) (fun k s hs => ?_) fun k s hk hs => ?_
      · by_cases q : k0 = k
        · subst q
          rw [hs] at hr
          cases hr
          refine ⟨_, List.getElem?_set_self (List.getElem?_eq_some_iff.mp hs).1, rfl, ?_⟩
          unfold stands
          rw [g3]
          show (decide (r0.put < m) && decide (m ≤ z.deeds.length)) = (decide (r0.put < m) && true)
          rw [decide_eq_true h]
        · exact ⟨s, by rw [List.getElem?_set_ne q]; exact hs, rfl, rfl⟩
      · have := (List.getElem?_eq_some_iff.mp hs).1
        rw [List.length_set] at this
        omega
    refine ⟨fun i u hu => ?_, fun i t ht hi => ?_⟩
    · obtain ⟨t, h1, h2⟩ := e.old i u hu
      refine ⟨_, on_at' (n := n) (g := fun rs => rs.set k0 ⟨r0.ws, r0.put, some z.deeds.length⟩) h1, ?_⟩
      by_cases q : t.name = n
      · rw [if_pos q]
        obtain rfl := tab_one nd g0 (List.mem_of_getElem? h1) (q.trans g1.symm)
        exact ag g2 h2
      · rw [if_neg q]
        exact h2
    · obtain ⟨t1, h1, rfl⟩ := on_back (x := z) (n := n) (g := fun rs => rs.set k0 ⟨r0.ws, r0.put, some z.deeds.length⟩) ht
      have := e.new i t1 h1 hi
      split <;> exact this
theorem Chain.elder {ds : List Deed} {xs : Nat → Shelf} (c : Chain ds xs) (h4 : ds.length ≤ 4000) {m : Nat} : ∀ k, m + k ≤ ds.length → Elder m (xs m) (xs (m + k))
  | 0, h => by
    have := Elder.self (c.past m h)
    rw [c.len m h] at this
    exact this
  | k + 1, h => by
    have e : ds[m + k]? = some ds[m + k] := List.getElem?_eq_getElem (by omega)
    obtain ⟨dok, y, can, e2⟩ := c.s (m + k) _ e
    show Elder m (xs m) (xs (m + k + 1))
    rw [e2]
    exact (c.elder h4 k (by omega)).next (c.ok h4 (m + k) (by omega)).nd (by rw [c.len (m + k) (by omega)]; omega) can _
/-- what is there of a table, as data -/
def liveD (u : Tab) (k : Nat) : List PyData := ((u.rows.take k).zipIdx.filter fun p => p.1.out.isNone).map fun p => .tuple [.int p.2, .tuple (p.1.ws.map PyData.int)]
theorem live_succ (u : Tab) (k : Nat) (r : Rw) (h : u.rows[k]? = some r) : liveD u (k + 1) = if r.out.isNone = true then liveD u k ++ [.tuple [.int k, .tuple (r.ws.map PyData.int)]] else liveD u k := by
  have hk : k < u.rows.length := (List.getElem?_eq_some_iff.mp h).1
  unfold liveD
  rw [List.take_add_one, h]
  show List.map _ (List.filter _ ((u.rows.take k ++ [r]).zipIdx)) = _
  have e : (u.rows.take k).length = k := by rw [List.length_take]; omega
  rw [List.zipIdx_append, List.filter_append, List.map_append, e, Nat.zero_add]
  show _ ++ List.map _ (List.filter _ [(r, k)]) = _
  by_cases z : r.out.isNone = true
  · rw [if_pos z]
    simp [z]
  · rw [if_neg z]
    simp [z]
theorem Ago.told {m : Nat} {u t : Tab} (a : Ago m u t) : (t.at m t.rows.length).map rowD = liveD u u.rows.length := by
  have low : ∀ k, k ≤ u.rows.length → (t.at m k).map rowD = liveD u k := fun k => by
    induction k with
    | zero => intro _; rfl
    | succ k ih =>
      intro hk
      have hr : u.rows[k]? = some u.rows[k] := List.getElem?_eq_getElem (by omega)
      obtain ⟨s, h1, h2, h3⟩ := a.old k _ hr
      rw [at_succ t m k s h1, live_succ u k _ hr, h3]
      split
      · rw [List.map_append, ih (by omega)]
        show _ ++ [PyData.tuple [.int k, .tuple (s.ws.map PyData.int)]] = _
        rw [h2]
      · exact ih (by omega)
  have high : ∀ j, u.rows.length + j ≤ t.rows.length → (t.at m (u.rows.length + j)).map rowD = liveD u u.rows.length := fun j => by
    induction j with
    | zero => intro _; exact low _ (Nat.le_refl _)
    | succ j ih =>
      intro hj
      have hs : t.rows[u.rows.length + j]? = some t.rows[u.rows.length + j] := List.getElem?_eq_getElem (by omega)
      show (t.at m (u.rows.length + j + 1)).map rowD = _
      rw [at_succ t m _ _ hs, if_neg (by rw [a.new _ _ (by omega) hs]; decide)]
      exact ih (by omega)
  have l := a.len
  have := high (t.rows.length - u.rows.length) (by omega)
  rwa [show u.rows.length + (t.rows.length - u.rows.length) = t.rows.length by omega] at this
/-- what is seen at a moment -/
theorem Elder.sees {m : Nat} {x z : Shelf} (e : Elder m x z) (p : Past x) (hm : x.deeds.length = m) {o : Option Nat} (ho : z.mo o = m) (hz : m ≤ z.deeds.length) (nd : (z.tabs.map Tab.name).Nodup) {n : Str} {u : Tab} (h : tabNamed x n = some u) :
    ∃ (i : Nat) (t : Tab), Sees z n o i t ∧ Ago m u t ∧ ∀ i' t', Sees z n o i' t' → t' = t := by
  obtain ⟨i, hi, rfl⟩ := named_at h
  obtain ⟨t, h1, a⟩ := e.old i u hi
  refine ⟨i, t, ⟨h1, a.name, by omega, by rw [a.made, ho, ← hm]; exact (p u (List.mem_of_getElem? hi)).1⟩, a, fun i' t' z' => ?_⟩
  exact tab_one nd h1 (List.mem_of_getElem? z'.1) (z'.2.1.trans a.name.symm)
theorem Elder.blind {m : Nat} {x z : Shelf} (e : Elder m x z) {o : Option Nat} (ho : z.mo o = m) {n : Str} (h : tabNamed x n = none) : ∀ i t, ¬ Sees z n o i t := by
  rintro i t ⟨h1, h2, _, h4⟩
  by_cases q : i < x.tabs.length
  · obtain ⟨t', g1, a⟩ := e.old i _ (List.getElem?_eq_getElem q)
    rw [h1] at g1
    cases g1
    exact named_no h _ (List.getElem_mem q) (a.name.symm.trans h2)
  · have := e.new i t h1 (by omega)
    omega
/-! ### the names of a moment -/
theorem Elder.names {m : Nat} {x z : Shelf} (e : Elder m x z) (p : Past x) (hm : x.deeds.length = m) : namesAt z.tabs m = x.tabs.map Tab.name := by
  unfold namesAt
  have l : x.tabs.length ≤ z.tabs.length := by
    by_cases q : x.tabs.length = 0
    · omega
    · obtain ⟨t, g1, _⟩ := e.old (x.tabs.length - 1) _ (List.getElem?_eq_getElem (by omega))
      have := (List.getElem?_eq_some_iff.mp g1).1
      omega
  have s : z.tabs = z.tabs.take x.tabs.length ++ z.tabs.drop x.tabs.length := (List.take_append_drop _ _).symm
  rw [s, List.filter_append]
  have d0 : (z.tabs.drop x.tabs.length).filter (fun t => decide (t.made < m)) = [] := by
    rw [List.filter_eq_nil_iff]
    intro t ht
    obtain ⟨i, hi⟩ := List.mem_iff_getElem?.mp ht
    rw [List.getElem?_drop] at hi
    have := e.new _ t hi (by omega)
    simp only [decide_eq_true_eq]
    omega
  have t0 : (z.tabs.take x.tabs.length).filter (fun t => decide (t.made < m)) = z.tabs.take x.tabs.length := by
    rw [List.filter_eq_self]
    intro t ht
    obtain ⟨i, hi⟩ := List.mem_iff_getElem?.mp ht
    rw [List.getElem?_take] at hi
    by_cases q : i < x.tabs.length
    · rw [if_pos q] at hi
      obtain ⟨t', g1, a⟩ := e.old i _ (List.getElem?_eq_getElem q)
      rw [hi] at g1
      cases g1
      rw [decide_eq_true_eq, a.made, ← hm]
      exact (p _ (List.getElem_mem q)).1
    · rw [if_neg q] at hi
      cases hi
  rw [d0, t0, List.append_nil]
  refine List.ext_getElem? fun i => ?_
  rw [List.getElem?_map, List.getElem?_map, List.getElem?_take]
  by_cases q : i < x.tabs.length
  · rw [if_pos q]
    obtain ⟨t', g1, a⟩ := e.old i _ (List.getElem?_eq_getElem q)
    rw [g1, List.getElem?_eq_getElem q]
    show some t'.name = _
    rw [a.name]
    rfl
  · rw [if_neg q, List.getElem?_eq_none (by omega)]
/-! ### the deeds of a name -/
def rowsN (x : Shelf) (n : Str) : Option (List Rw) := (tabNamed x n).map Tab.rows
theorem named_on {x : Shelf} {a n : Str} {g : List Rw → List Rw} : tabNamed (x.onRows a g) n = (tabNamed x n).map fun t => if t.name = a then { t with rows := g t.rows } else t := by
  unfold tabNamed
  show (x.tabs.map (onTab a fun t => { t with rows := g t.rows })).find? _ = _
  rw [List.find?_map]
  congr 1
  congr 1
  funext t
  show decide ((onTab a (fun t => { t with rows := g t.rows }) t).name = n) = _
  rw [(onTab_same a g t).1]
theorem named_name {x : Shelf} {n : Str} {t : Tab} (h : tabNamed x n = some t) : t.name = n := (named_at h).choose_spec.2
theorem rows_next {x y : Shelf} {d : Deed} (nd : (x.tabs.map Tab.name).Nodup) (can : Can x d y) (ds : List Deed) (n : Str) : rowsN { y with deeds := ds } n = match d with
    | .table a _ => if a = n then some [] else rowsN x n
    | .row a ws => if a = n then (rowsN x n).map (fun rs => rs ++ [⟨ws, x.deeds.length, none⟩]) else rowsN x n
    | .out a k => if a = n then (rowsN x n).map (fun rs => rs.set k ⟨(rs.getD k ⟨[], 0, none⟩).ws, (rs.getD k ⟨[], 0, none⟩).put, some x.deeds.length⟩) else rowsN x n := by
  cases d with
  | table a cs =>
    obtain ⟨na, _, rfl⟩ := can
    show ((x.tabs ++ [(⟨a, cs, x.deeds.length, []⟩ : Tab)]).find? fun t => decide (t.name = n)).map Tab.rows = _
    rw [List.find?_append]
    show _ = if a = n then some [] else rowsN x n
    unfold rowsN tabNamed
    by_cases q : a = n
    · rw [if_pos q]
      have e : x.tabs.find? (fun t => decide (t.name = n)) = none := by
        rw [List.find?_eq_none]
        intro t ht
        rw [decide_eq_true_eq]
        exact fun z => na (List.mem_map.mpr ⟨t, ht, z.trans q.symm⟩)
      rw [e]
      simp [q]
    · rw [if_neg q]
      cases e : x.tabs.find? (fun t => decide (t.name = n)) with
      | some t => rfl
      | none => simp [q]
  | row a ws =>
    obtain ⟨i, t, _, _, _, _, rfl⟩ := can
    show (tabNamed (x.onRows a fun rs => rs ++ [⟨ws, x.deeds.length, none⟩]) n).map Tab.rows = if a = n then (rowsN x n).map _ else rowsN x n
    rw [named_on]
    unfold rowsN
    cases e : tabNamed x n with
    | none => split <;> rfl
    | some u =>
      have := named_name e
      by_cases q : a = n
      · rw [if_pos q]
        show some (Tab.rows (if u.name = a then _ else _)) = _
        rw [if_pos (by rw [this, q])]
        rfl
      · rw [if_neg q]
        show some (Tab.rows (if u.name = a then _ else _)) = _
        rw [if_neg (fun z => q (z.symm.trans this))]
        rfl
  | out a k =>
    obtain ⟨i, t, r, g0, g1, g2, g3, rfl⟩ := can
    show (tabNamed (x.onRows a fun rs => rs.set k ⟨r.ws, r.put, some x.deeds.length⟩) n).map Tab.rows = if a = n then (rowsN x n).map _ else rowsN x n
    rw [named_on]
    unfold rowsN
    cases e : tabNamed x n with
    | none => split <;> rfl
    | some u =>
      have := named_name e
      by_cases q : a = n
      · rw [if_pos q]
        show some (Tab.rows (if u.name = a then _ else _)) = _
        rw [if_pos (by rw [this, q])]
        obtain ⟨j, hj, _⟩ := named_at e
        obtain rfl := tab_one nd g0 (List.mem_of_getElem? hj) (by rw [this, g1, q])
        show some (u.rows.set k _) = some (u.rows.set k _)
        rw [List.getD_eq_getElem?_getD, g2]
        rfl
      · rw [if_neg q]
        show some (Tab.rows (if u.name = a then _ else _)) = _
        rw [if_neg (fun z => q (z.symm.trans this))]
        rfl
/-- the columns of a name are those of the deeds that make it -/
theorem Chain.cols {ds : List Deed} {xs : Nat → Shelf} (c : Chain ds xs) (h4 : ds.length ≤ 4000) (n : Str) : ∀ k, k ≤ ds.length →
    (∀ (j : Nat) (cs : List Str), j < k → ds[j]? = some (.table n cs) → ∃ t, tabNamed (xs k) n = some t ∧ t.cols = cs) ∧ (∀ t, tabNamed (xs k) n = some t → ∃ j, j < k ∧ ds[j]? = some (.table n t.cols))
  | 0, _ => ⟨fun j _ h => absurd h (Nat.not_lt_zero _), fun t h => by rw [c.z] at h; cases h⟩
  | k + 1, h => by
    obtain ⟨i1, i2⟩ := c.cols h4 n k (by omega)
    have e : ds[k]? = some ds[k] := List.getElem?_eq_getElem (by omega)
    obtain ⟨dok, y, can, e2⟩ := c.s k _ e
    have ok := c.ok h4 k (by omega)
    rw [e2]
    have on : ∀ (a : Str) (g : List Rw → List Rw), y = (xs k).onRows a g → (∀ cs, ds[k] ≠ .table n cs) → (∀ (j : Nat) (cs : List Str), j < k + 1 → ds[j]? = some (.table n cs) → ∃ t, tabNamed { y with deeds := (xs k).deeds ++ [ds[k]] } n = some t ∧ t.cols = cs) ∧ (∀ t, tabNamed { y with deeds := (xs k).deeds ++ [ds[k]] } n = some t → ∃ j, j < k + 1 ∧ ds[j]? = some (.table n t.cols)) := fun a g hy no => by
      subst hy
      have nm : tabNamed { (xs k).onRows a g with deeds := (xs k).deeds ++ [ds[k]] } n = (tabNamed (xs k) n).map fun t => if t.name = a then { t with rows := g t.rows } else t := named_on (x := xs k)
      rw [nm]
      refine ⟨fun j cs hj hd => ?_, fun t ht => ?_⟩
      · have : j ≠ k := fun z => by subst z; rw [e] at hd; exact no cs (Option.some.inj hd)
        obtain ⟨t, h1, h2⟩ := i1 j cs (by omega) hd
        rw [h1]
        refine ⟨_, rfl, ?_⟩
        show (if t.name = a then _ else _ : Tab).cols = _
        split <;> exact h2
      · rw [Option.map_eq_some_iff] at ht
        obtain ⟨t0, h0, rfl⟩ := ht
        obtain ⟨j, hj, hd⟩ := i2 t0 h0
        refine ⟨j, by omega, ?_⟩
        split <;> exact hd
    cases hd : ds[k] with
    | table a cs =>
      rw [hd] at can e
      obtain ⟨na, _, rfl⟩ := can
      have nm : ∀ zs, tabNamed ⟨zs, (xs k).tabs ++ [(⟨a, cs, (xs k).deeds.length, []⟩ : Tab)]⟩ n = (tabNamed (xs k) n).or (if a = n then some ⟨a, cs, (xs k).deeds.length, []⟩ else none) := fun zs => by
        unfold tabNamed
        rw [List.find?_append]
        congr 1
        by_cases q : a = n
        · rw [if_pos q]; simp [q]
        · rw [if_neg q]; simp [q]
      show (∀ (j : Nat) (cs' : List Str), j < k + 1 → ds[j]? = some (.table n cs') → ∃ t, tabNamed ⟨_, (xs k).tabs ++ _⟩ n = some t ∧ t.cols = cs') ∧ (∀ t, tabNamed ⟨_, (xs k).tabs ++ _⟩ n = some t → ∃ j, j < k + 1 ∧ ds[j]? = some (.table n t.cols))
      rw [nm]
      refine ⟨fun j cs' hj hd' => ?_, fun t ht => ?_⟩
      · by_cases z : j = k
        · subst z
          rw [e] at hd'
          cases hd'
          have q : tabNamed (xs j) n = none := by
            cases w : tabNamed (xs j) n with
            | none => rfl
            | some t =>
              obtain ⟨i, hi, e⟩ := named_at w
              exact absurd (List.mem_map.mpr ⟨t, List.mem_of_getElem? hi, e⟩) na
          rw [q, if_pos rfl]
          exact ⟨_, rfl, rfl⟩
        · obtain ⟨t, h1, h2⟩ := i1 j cs' (by omega) hd'
          rw [h1]
          exact ⟨t, rfl, h2⟩
      · cases w : tabNamed (xs k) n with
        | some t0 =>
          rw [w] at ht
          cases (show some t0 = some t from ht)
          obtain ⟨j, hj, hd'⟩ := i2 _ w
          exact ⟨j, by omega, hd'⟩
        | none =>
          rw [w] at ht
          by_cases q : a = n
          · rw [if_pos q] at ht
            cases (show some _ = some t from ht)
            exact ⟨k, by omega, by rw [e, q]⟩
          · rw [if_neg q] at ht
            cases ht
    | row a ws =>
      rw [hd] at can
      obtain ⟨_, _, _, _, _, _, hy⟩ := can
      have := on a _ hy (fun cs z => by rw [hd] at z; cases z)
      rwa [hd] at this
    | out a k' =>
      rw [hd] at can
      obtain ⟨_, _, _, _, _, _, _, hy⟩ := can
      have := on a _ hy (fun cs z => by rw [hd] at z; cases z)
      rwa [hd] at this
end K07
end

section
set_option Elab.async false
set_option linter.all false
set_option maxRecDepth 100000
set_option maxHeartbeats 4000000
/-! names, columns, worths drawn. -/
namespace K07
open PySem PySem.Spec PyProof.Rows L2 Gd K07t
abbrev sPool : Stmt := topS 41
theorem scPool : FnScope [] [] (defScope sPool) := ⟨rfl, rfl, rfl, by decide +kernel, rfl, by decide +kernel, by decide +kernel⟩
abbrev sCols : Stmt := topS 42
abbrev nCols : List Str := ["_law_pen_here", "_law_many", "_law_first", "_law_k"]
theorem scCols : FnScope nCols ["_law_pen_here"] (defScope sCols) := ⟨rfl, rfl, rfl, by decide +kernel, rfl, by decide +kernel, by decide +kernel⟩
abbrev sWor : Stmt := topS 43
theorem scWor : FnScope ["_law_pen_here", "_law_far", "_law_some"] ["_law_pen_here"] (defScope sWor) := ⟨rfl, rfl, rfl, by decide +kernel, rfl, by decide +kernel, by decide +kernel⟩
abbrev poolL : List Str := ["a", "aa", "ab", "b", "zz", "zzzzzzzz", "zzzzzzza", "row", "out", "table", "none"]
theorem pool_lab : ∀ n ∈ poolL, isLab n = true := by decide +kernel
theorem pool_nd : poolL.Nodup := by decide +kernel
def colsL (f m : Nat) : List Str := (List.range m).map fun k => poolL.getD ((f + 3 * k) % 11) ""
theorem cols_ok : ∀ f, f < 11 → ∀ m, m < 5 → 1 ≤ m → 1 ≤ (colsL f m).length ∧ (colsL f m).length ≤ 4 ∧ (colsL f m).Nodup ∧ ∀ c ∈ colsL f m, isLab c = true := by decide +kernel
def spPool : Sp := fun vs H Q _ => vs = [] ∧ ∀ (a : Addr) (H' : Hp), H a = none → H' = upd H a (.lst (poolL.map V.str)) → Q (.ref a) H'
def spCols (K : PySem.W.Frag) : Sp := fun vs H Q _ => ∃ (l c : Addr) (S : Int), vs = [.ref l] ∧ Pen H l c S ∧ S ≤ 90000 ∧
  ∀ (t : Addr) (cs : List Str) (H' : Hp), SqT K H' t (cs.map V.str) → ColsOk cs → Pen H' l c (S + 2) → Ex1 l H H' → Q (.ref t) H'
def spWor : Sp := fun vs H Q _ => ∃ (l c : Addr) (S : Int), vs = [.ref l] ∧ Pen H l c S ∧ S ≤ 90000 ∧
  ∀ (w : Int) (H' : Hp), -(10 ^ 30 : Int) < w → w < 10 ^ 30 → Pen H' l c (S + 2) → Ex1 l H H' → Q (.int w) H'
theorem ex1_same {l : Addr} {H H' : Hp} (s : Same H H') : Ex1 l H H' := fun a o _ e => s a o e
theorem upto {n : Nat} : Walk (Itr 0 n) n (fun _ => True) (YFn fun i => .int ((i : Nat) : Int)) :=
  walk_range.mono (fun _ _ => trivial) (fun i H x H' _ _ y => ⟨y.1, y.2.trans (by show V.int (0 + ((i : Nat) : Int)) = V.int ((i : Nat) : Int); rw [Int.zero_add])⟩)
theorem wor_at {r u : Int} (h0 : 0 ≤ r) (h1 : r < 8) (u0 : 0 ≤ u) (u1 : u < 10 ^ 6) : ∃ w : Int, atI ([0, 1, -1, u.fmod 7 - 3, u.fmod 5, u - 500000, 10 ^ 30 - 1 - u, u + 1 - 10 ^ 30].map V.int) r = some (.int w) ∧ -(10 ^ 30 : Int) < w ∧ w < 10 ^ 30 := by
  obtain ⟨v, hv, e⟩ := at_list (f := V.int) (xs := [0, 1, -1, u.fmod 7 - 3, u.fmod 5, u - 500000, 10 ^ 30 - 1 - u, u + 1 - 10 ^ 30]) h0 (by simpa using h1)
  refine ⟨v, e, ?_⟩
  obtain ⟨a0, a1⟩ := fmod_in u (b := 7) (by omega)
  obtain ⟨b0, b1⟩ := fmod_in u (b := 5) (by omega)
  simp only [List.mem_cons, List.not_mem_nil, or_false] at hv
  have z : (10 ^ 30 : Int) = 1000000000000000000000000000000 := by decide
  have z6 : (10 ^ 6 : Int) = 1000000 := by decide
  rcases hv with rfl | rfl | rfl | rfl | rfl | rfl | rfl | rfl <;> constructor <;> omega
section
variable {P : Program} {w : World} {K : PySem.W.Frag} {mg : Str → Option Value} {base : Heap} {f fD fP : Addr} {fd dD dP : FuncData}
theorem ok_pool (F : Fun K "_law_pool" "_law_pool" sPool f fd) : FnOk P w K mg base CX0 1 f fd [] spPool := by
  refine F.ok scPool (fun vs H Q E h => ?_) (fun cdv A outer s H vs Q E hr h => ?_)
  · obtain ⟨rfl, _⟩ := h
    rfl
  obtain ⟨rfl, q⟩ := h
  refine ⟨_, pss_one (ps_ret (pe_lst (pa_cons pe_str (pa_cons pe_str (pa_cons pe_str (pa_cons pe_str (pa_cons pe_str (pa_cons pe_str (pa_cons pe_str (pa_cons pe_str (pa_cons pe_str (pa_cons pe_str (pa_cons pe_str pa_nil))))))))))))), ?_⟩
  exact ⟨by show 11 ≤ sizeLine; decide, fun b nb => q b _ nb rfl⟩
theorem ok_cols (F : Fun K "_law_columns" "_law_columns" sCols f fd) (mr : mg "range" = none) (mt : mg "tuple" = none)
    (FD : Fun K "_law_draw" "_law_draw" sDraw fD dD) (GD : FnOk P w K mg base CX0 1 fD dD ["_law_pen_here", "_law_many"] spDraw) (bD : Binds K dD ["_law_pen_here", "_law_many"] []) (gD : mg "_law_draw" = some (.ref fD))
    (FP : Fun K "_law_pool" "_law_pool" sPool fP dP) (GP : FnOk P w K mg base CX0 1 fP dP [] spPool) (bP : Binds K dP [] []) (gP : mg "_law_pool" = some (.ref fP)) :
    FnOk P w K mg base CX0 2 f fd ["_law_pen_here"] (spCols K) := by
  refine F.ok scCols (fun vs H Q E h => ?_) (fun cdv A outer s H vs Q E hr h => ?_)
  · obtain ⟨l, c, S, rfl, _⟩ := h
    rfl
  obtain ⟨l, c, S, rfl, hP, hS, q⟩ := h
  have nd := scCols.nd
  have r1 := hr.mono (show 1 ≤ 1 by decide)
  refine ⟨_, pss_cons (ps_set (i := 1) nd rfl (by first | exact .inl rfl | exact .inr rfl) (pe_op op_add pe_int (pe_call GD r1 (by rfl) gD FD.kp bD .nil pass0 (pa_cons (pv 0) (pa_cons pe_int pa_nil)))))
      (pss_cons (ps_set (i := 2) nd rfl (by first | exact .inl rfl | exact .inr rfl) (pe_call GD r1 (by rfl) gD FD.kp bD .nil pass0 (pa_cons (pv 0) (pa_cons pe_int pa_nil))))
      (pss_one (ps_ret (pe_tupleOf (by rfl) mt (pe_lc (own := [("_law_k", 3)]) (g := gName 3) (tt := tYes) rfl nd (pi_range1 (by rfl) mr (pa_cons (pv 1) pa_nil)) (blkOk_by (N := nCols) (sc := defScope sCols) (by decide +kernel)) (fun _ _ _ _ _ => pg_name (i := 3) nd rfl (Or.inl rfl)) (fun _ _ _ _ _ => pts_nil) (fun _ _ _ _ _ => (pe_ix (ixL K) (pe_call0 GP r1 (by rfl) gP FP.kp bP .nil pass0) (pe_op op_modN (pe_op op_add (pv 2) (pe_op op_mul pe_int (pv 3))) pe_int) (fun _ _ => rfl)))))))), ?_⟩
  refine ⟨_, rfl, l, c, 4, _, rfl, hP, by decide, by decide, by omega, fun r H1 r0 r1' p1 x1 => ?_⟩
  obtain ⟨j, rfl⟩ : ∃ j : Nat, r = ((j : Nat) : Int) := ⟨r.toNat, by omega⟩
  refine ⟨_, _, rfl, rfl, ?_⟩
  show gName 1 (V.int (1 + ((j : Nat) : Int))) _ _ _
  rw [show (1 : Int) + ((j : Nat) : Int) = ((1 + j : Nat) : Int) by omega]
  refine ⟨_, rfl, l, c, 11, _, rfl, p1, by decide, by decide, by omega, fun u H2 u0 u1 p2 x2 => ?_⟩
  obtain ⟨v, rfl⟩ : ∃ v : Nat, u = ((v : Nat) : Int) := ⟨u.toNat, by omega⟩
  refine ⟨_, rfl, _, rfl, by omega, by omega, fun D nD => ?_⟩
  have nDl := p2.not nD
  have x12 := x1.trans x2
  refine lc_it (upto (n := 1 + j)) (fun k G => Same H2 G ∧ G D = some (.lst ((colsL v k).map V.str))) ⟨new_same nD, upd_same⟩ (fun _ _ _ _ => trivial) ?_ ?_
  · rintro k wv G G2 hk ⟨sg, eD⟩ ⟨rfl, rfl⟩
    refine ⟨rfl, ?_⟩
    refine ⟨rfl, fun b G3 nb e3 => ?_⟩
    subst e3
    have jb := new_same (o := .lst (poolL.map V.str)) nb
    refine ⟨_, rfl, _, rfl, _, _, rfl, rfl, .inl ⟨by decide, by decide⟩, _, _, rfl, rfl, _, _, rfl, rfl, by omega, ?_⟩
    have e11 : (((v : Nat) : Int) + 3 * ((k : Nat) : Int)).fmod 11 = (((v + 3 * k) % 11 : Nat) : Int) := by
      rw [show ((v : Nat) : Int) + 3 * ((k : Nat) : Int) = ((v + 3 * k : Nat) : Int) by omega]
      exact (Int.fmod_eq_emod_of_nonneg _ (by decide)).trans (by omega)
    have lt11 : (v + 3 * k) % 11 < 11 := Nat.mod_lt _ (by decide)
    have at11 : atI (poolL.map V.str) ((((v : Nat) : Int) + 3 * ((k : Nat) : Int)).fmod 11) = some (.str (poolL.getD ((v + 3 * k) % 11) "")) := by
      rw [e11]
      refine atI_nat ?_
      rw [List.getElem?_map, List.getElem?_eq_getElem (show (v + 3 * k) % 11 < poolL.length from lt11), List.getD_eq_getElem?_getD, List.getElem?_eq_getElem (show (v + 3 * k) % 11 < poolL.length from lt11)]
      rfl
    refine ⟨b, _, _, _, rfl, rfl, SqL.of upd_same, at11, ?_⟩
    refine ⟨_, jb _ _ eD, by rw [List.length_map]; unfold colsL; rw [List.length_map, List.length_range, sizeLine_eq]; omega, own_same nD (sg.trans jb), ?_⟩
    rw [upd_same]
    unfold colsL
    rw [List.range_succ, List.map_append, List.map_append]
    rfl
  rintro G ⟨sg, eD⟩
  refine .inl ⟨D, _, rfl, SqL.of eD, fun t nt => ?_⟩
  obtain ⟨o1, o2, o3, o4⟩ := cols_ok v (by omega) (1 + j) (by omega) (by omega)
  have jt := new_same (o := .tup ((colsL v (1 + j)).map V.str)) nt
  exact q t _ _ (SqT.of upd_same) ⟨o1, o2, o3, o4⟩ (((p2.same sg).same jt).le (by omega)) (x12.trans (ex1_same (sg.trans jt)))
theorem ok_wor (F : Fun K "_law_worth" "_law_worth" sWor f fd)
    (FD : Fun K "_law_draw" "_law_draw" sDraw fD dD) (GD : FnOk P w K mg base CX0 1 fD dD ["_law_pen_here", "_law_many"] spDraw) (bD : Binds K dD ["_law_pen_here", "_law_many"] []) (gD : mg "_law_draw" = some (.ref fD)) :
    FnOk P w K mg base CX0 2 f fd ["_law_pen_here"] spWor := by
  refine F.ok scWor (fun vs H Q E h => ?_) (fun cdv A outer s H vs Q E hr h => ?_)
  · obtain ⟨l, c, S, rfl, _⟩ := h
    rfl
  obtain ⟨l, c, S, rfl, hP, hS, q⟩ := h
  have nd := scWor.nd
  refine ⟨_, pss_cons (ps_set (i := 1) nd rfl (by first | exact .inl rfl | exact .inr rfl) (pe_call GD hr (by rfl) gD FD.kp bD .nil pass0 (pa_cons (pv 0) (pa_cons (pe_op op_pow pe_int pe_int) pa_nil))))
      (pss_cons (ps_set (i := 2) nd rfl (by first | exact .inl rfl | exact .inr rfl) (pe_lst (pa_cons pe_int (pa_cons pe_int (pa_cons (pe_un un_neg pe_int) (pa_cons (pe_op op_sub (pe_op op_modN (pv 1) pe_int) pe_int) (pa_cons (pe_op op_modN (pv 1) pe_int) (pa_cons (pe_op op_sub (pv 1) pe_int) (pa_cons (pe_op op_sub (pe_op op_sub (pe_op op_pow pe_int pe_int) pe_int) (pv 1)) (pa_cons (pe_op op_sub (pe_op op_add (pv 1) pe_int) (pe_op op_pow pe_int pe_int)) pa_nil))))))))))
      (pss_one (ps_ret (pe_ix ix_list (pv 2) (pe_call GD hr (by rfl) gD FD.kp bD .nil pass0 (pa_cons (pv 0) (pa_cons pe_int pa_nil))) (fun _ _ => rfl))))), ?_⟩
  have z6 : (10 ^ 6 : Int) = 1000000 := by decide
  refine ⟨_, rfl, 10, 6, rfl, rfl, ⟨by decide, by decide, by decide⟩, l, c, _, _, rfl, hP, by decide, by decide, by omega, fun u H1 u0 u1 p1 x1 => ?_⟩
  refine ⟨_, rfl, _, rfl, _, _, rfl, rfl, (by show (7 : Int) ≠ 0; decide), _, _, rfl, rfl, _, rfl, _, _, rfl, rfl, (by show (5 : Int) ≠ 0; decide), _, rfl, _, _, rfl, rfl, 10, 30, rfl, rfl, ⟨by decide, by decide, by decide⟩, _, _, rfl, rfl, _, rfl, _, _, rfl, rfl, _, rfl, _, _, rfl, rfl, 10, 30, rfl, rfl, ⟨by decide, by decide, by decide⟩, _, _, rfl, rfl, ?_⟩
  refine ⟨(by show 8 ≤ sizeLine; decide), fun b nb => ?_⟩
  have j1 := new_same (o := .lst ([0, 1, -1, u.fmod 7 - 3, u.fmod 5, u - 500000, 10 ^ 30 - 1 - u, u + 1 - 10 ^ 30].map V.int)) nb
  have nbl := (p1.not nb).1
  refine ⟨_, rfl, _, rfl, l, c, 8, _, rfl, p1.same j1, by decide, by decide, by omega, fun r H2 r0 r1 p2 x2 => ?_⟩
  obtain ⟨wv, ew, w0, w1⟩ := wor_at r0 r1 u0 u1
  exact ⟨b, _, _, _, rfl, rfl, SqL.of (x2 _ _ nbl (upd_same (o := .lst ([0, 1, -1, u.fmod 7 - 3, u.fmod 5, u - 500000, 10 ^ 30 - 1 - u, u + 1 - 10 ^ 30].map V.int)))), ew, q wv H2 w0 w1 (p2.le (by omega)) ((x1.trans (Ex1.new nb)).trans x2)⟩
end
end K07
end

section
set_option Elab.async false
set_option linter.all false
set_option maxRecDepth 100000
set_option maxHeartbeats 4000000
/-! a deed drawn by the law. -/
namespace K07
open PySem PySem.Spec PyProof.Rows L2 Gd K07t
abbrev sDd : Stmt := topS 50
abbrev nDd : List Str := ["_law_pen_here", "_law_state", "_law_way", "_law_pool_here", "_law_title", "_law_table", "_law_fresh", "_law_many", "_law_one", "_law_k"]
theorem scDd : FnScope nDd ["_law_pen_here", "_law_state"] (defScope sDd) := ⟨rfl, rfl, rfl, by decide +kernel, rfl, by decide +kernel, by decide +kernel⟩
theorem len_sub {α : Type} [DecidableEq α] : ∀ {l m : List α}, l.Nodup → (∀ a ∈ l, a ∈ m) → l.length ≤ m.length
  | [], _, _, _ => Nat.zero_le _
  | a :: l, m, nd, h => by
    rw [List.nodup_cons] at nd
    have ha : a ∈ m := h a (List.mem_cons_self ..)
    have z := len_sub (l := l) (m := m.erase a) nd.2 fun b hb => (List.mem_erase_of_ne (fun e => nd.1 (by rw [← e]; exact hb))).mpr (h b (List.mem_cons_of_mem _ hb))
    have e := List.length_erase_of_mem ha
    have p : 0 < m.length := List.length_pos_of_mem ha
    rw [List.length_cons]
    omega
theorem ModAt.keep {K : PySem.W.Frag} {H H' : Hp} {M : Addr} {ts : List Tab} {mt ml : Nat → Addr} {mr : Nat → Nat → Addr} (S : ModAt K H M ts mt ml mr) (t : Tups K H H') (k : ∀ b o, mfoot M ts mt ml mr b → H b = some o → H' b = some o) : ModAt K H' M ts mt ml mr := by
  refine ⟨k _ _ (.inl rfl) S.dict, fun i t0 e => ?_, fun i t0 e => ?_, fun i t0 j r e1 e2 => ?_, S.apM, S.apL, S.apR, S.apX⟩
  · obtain ⟨ca, h1, h2⟩ := S.tup i t0 e
    exact ⟨ca, k _ _ (.inr (.inl ⟨i, (List.getElem?_eq_some_iff.mp e).1, .inl rfl⟩)) h1, t _ _ h2⟩
  · exact k _ _ (.inr (.inl ⟨i, (List.getElem?_eq_some_iff.mp e).1, .inr rfl⟩)) (S.lst i t0 e)
  · obtain ⟨b, h1, h2⟩ := S.row i t0 j r e1 e2
    exact ⟨b, k _ _ (.inr (.inr ⟨i, t0, j, e1, (List.getElem?_eq_some_iff.mp e2).1, rfl⟩)) h1, t _ _ h2⟩
theorem ex1_pen {K : PySem.W.Frag} {H H' : Hp} {l c : Addr} {S : Int} (p : Pen H l c S) (x : Ex1 l H H') : Tups K H H' := by
  obtain ⟨ns, t, ov, el, _⟩ := p
  exact x.tups el
theorem ModAt.ex1 {K : PySem.W.Frag} {H H' : Hp} {M l c : Addr} {S0 : Int} {ts : List Tab} {mt ml : Nat → Addr} {mr : Nat → Nat → Addr} (S : ModAt K H M ts mt ml mr) (p : Pen H l c S0) (x : Ex1 l H H') (nl : ¬ mfoot M ts mt ml mr l) : ModAt K H' M ts mt ml mr :=
  S.keep (ex1_pen p x) fun b o hb e => x b o (fun z => nl (by rw [← z]; exact hb)) e
theorem ModAt.same {K : PySem.W.Frag} {H H' : Hp} {M : Addr} {ts : List Tab} {mt ml : Nat → Addr} {mr : Nat → Nat → Addr} (S : ModAt K H M ts mt ml mr) (x : Same H H') : ModAt K H' M ts mt ml mr :=
  S.keep (Tups.of_same x) fun b o _ e => x b o e
theorem ModF.ex1 {K : PySem.W.Frag} {H H' : Hp} {M l c : Addr} {S0 : Int} {ts : List Tab} {G : Addr → Prop} (h : ModF K H M ts G) (p : Pen H l c S0) (x : Ex1 l H H') (nl : ¬ G l) : ModF K H' M ts G :=
  h.keep (ex1_pen p x) fun b o hb e => x b o (fun z => nl (by rw [← z]; exact hb)) e
/-- few columns in each table -/
def Neat (x : Shelf) : Prop := ∀ t ∈ x.tabs, t.cols.length ≤ 4
theorem Neat.next {x y : Shelf} {d : Deed} (n : Neat x) (ok : DeedOk d) (can : Can x d y) (ds : List Deed) : Neat { y with deeds := ds } := by
  cases d with
  | table a cs =>
    obtain ⟨_, _, rfl⟩ := can
    intro t ht
    rcases List.mem_append.mp (show t ∈ x.tabs ++ [(⟨a, cs, x.deeds.length, []⟩ : Tab)] from ht) with m | m
    · exact n t m
    · rw [List.mem_singleton.mp m]
      exact ok.2.four
  | row a ws =>
    obtain ⟨i, t, _, _, _, _, rfl⟩ := can
    intro u hu
    have hu : u ∈ (x.onRows a fun rs => rs ++ [⟨ws, x.deeds.length, none⟩]).tabs := hu
    obtain ⟨t0, h0, _, e, _⟩ := onRows_mem hu
    rw [e]
    exact n t0 h0
  | out a k =>
    obtain ⟨i, t, r, _, _, _, _, rfl⟩ := can
    intro u hu
    have hu : u ∈ (x.onRows a fun rs => rs.set k ⟨r.ws, r.put, some x.deeds.length⟩).tabs := hu
    obtain ⟨t0, h0, _, e, _⟩ := onRows_mem hu
    rw [e]
    exact n t0 h0
def tWay : TT := fun σ H Q => ∃ (M : Addr) (way : Int) (xs : List V), σ[1]? = some (some (.ref M)) ∧ σ[2]? = some (some (.int way)) ∧ H M = some (.lst xs) ∧ ∀ H', Same H H' → Q (decide (way < 2) || (xs.isEmpty && decide (way < 8))) H'
/-- what the table's columns are, or one -/
def tWide (K : PySem.W.Frag) : TE := fun σ H Q => ∃ v5, σ[5]? = some (some v5) ∧ (v5 = .non ∨ ∃ (a ca lm : Addr) (n : Str) (cs : List Str), v5 = .ref a ∧ H a = some (.lst [.str n, .ref ca, .ref lm]) ∧ SqT K H ca (cs.map V.str) ∧ cs.length ≤ 4) ∧ ∀ (m : Nat) H', m ≤ 4 → Same H H' → Q (.int m) H'
def tHigh (K : PySem.W.Frag) : TE := fun σ H Q => ∃ v5, σ[5]? = some (some v5) ∧ (v5 = .non ∨ ∃ (a ca lm : Addr) (n : Str) (rs : List V), v5 = .ref a ∧ H a = some (.lst [.str n, .ref ca, .ref lm]) ∧ H lm = some (.lst rs) ∧ rs.length ≤ 60) ∧ ∀ (m : Nat) H', m ≤ 60 → Same H H' → Q (.int m) H'
def spDd (K : PySem.W.Frag) : Sp := fun vs H Q _ => ∃ (l c M : Addr) (S : Int) (x : Shelf) (G : Addr → Prop), vs = [.ref l, .ref M] ∧ Pen H l c S ∧ S ≤ 80000 ∧ ModF K H M x.tabs G ∧ ShelfOk x ∧ Neat x ∧ ¬ G l ∧
  ∀ (t : Addr) (d : Deed) (H' : Hp), DeedAt K H' t d → DeedOk d → Pen H' l c (S + 30) → Ex1 l H H' → Q (.ref t) H'
theorem pen_upd {H : Hp} {l c D : Addr} {S : Int} {xs : List V} {o : HO} (p : Pen H l c S) (_ : H D = some (.lst xs)) (nl : D ≠ l) (nc : D ≠ c) : Pen (upd H D o) l c S := by
  obtain ⟨ns, t, ov, el, ec, h⟩ := p
  exact ⟨ns, t, ov, by rw [upd_ne nl.symm]; exact el, by rw [upd_ne nc.symm]; exact ec, h⟩
theorem fdiv_two {r : Int} {a b : Int} (ha : 0 < a) (h0 : 0 ≤ r) (h1 : r < b) (hb : b ≤ 2 * a) : 0 ≤ r / a ∧ r / a < 2 := by
  refine ⟨Int.ediv_nonneg h0 (Int.le_of_lt ha), ?_⟩
  exact Int.ediv_lt_of_lt_mul ha (by omega)
section
variable {P : Program} {w : World} {K : PySem.W.Frag} {mg : Str → Option Value} {base : Heap} {f fD fP fN fC fW : Addr} {fd dD dP dN dC dW : FuncData}
theorem ok_dd (F : Fun K "_law_deed" "_law_deed" sDd f fd) (mn : mg "len" = none) (mi : mg "int" = none) (mr : mg "range" = none) (mt : mg "tuple" = none) (mx : mg "max" = none)
    (FD : Fun K "_law_draw" "_law_draw" sDraw fD dD) (GD : FnOk P w K mg base CX0 1 fD dD ["_law_pen_here", "_law_many"] spDraw) (bD : Binds K dD ["_law_pen_here", "_law_many"] []) (gD : mg "_law_draw" = some (.ref fD))
    (FP : Fun K "_law_pool" "_law_pool" sPool fP dP) (GP : FnOk P w K mg base CX0 1 fP dP [] spPool) (bP : Binds K dP [] []) (gP : mg "_law_pool" = some (.ref fP))
    (FN : Fun K "_law_named" "_law_named" sNamed fN dN) (GN : FnOk P w K mg base CX0 1 fN dN ["_law_state", "_law_title"] (spNamed K)) (bN : Binds K dN ["_law_state", "_law_title"] []) (gN : mg "_law_named" = some (.ref fN))
    (FC : Fun K "_law_columns" "_law_columns" sCols fC dC) (GC : FnOk P w K mg base CX0 2 fC dC ["_law_pen_here"] (spCols K)) (bC : Binds K dC ["_law_pen_here"] []) (gC : mg "_law_columns" = some (.ref fC))
    (FW : Fun K "_law_worth" "_law_worth" sWor fW dW) (GW : FnOk P w K mg base CX0 2 fW dW ["_law_pen_here"] spWor) (bW : Binds K dW ["_law_pen_here"] []) (gW : mg "_law_worth" = some (.ref fW)) :
    FnOk P w K mg base CX0 3 f fd ["_law_pen_here", "_law_state"] (spDd K) := by
  refine F.ok scDd (fun vs H Q E h => ?_) (fun cdv A outer s H vs Q E hr h => ?_)
  · obtain ⟨l, c, M, S, x, G, rfl, _⟩ := h
    rfl
  obtain ⟨l, c, M, S0, x, G, rfl, hP, hS0, hM, ok, neat, nGl, q⟩ := h
  have nd := scDd.nd
  have hu := Nat.lt_of_succ_lt (hu_of hr)
  have r1 := hr.mono (show 1 ≤ 2 by decide)
  refine ⟨_, pss_cons (ps_set (i := 2) nd rfl (by first | exact .inl rfl | exact .inr rfl) (pe_call GD r1 (by rfl) gD FD.kp bD .nil pass0 (pa_cons (pv 0) (pa_cons pe_int pa_nil))))
    (pss_cons (ps_set (i := 3) nd rfl (by first | exact .inl rfl | exact .inr rfl) (pe_call0 GP r1 (by rfl) gP FP.kp bP .nil pass0))
    (pss_cons (ps_set (i := 4) nd rfl (by first | exact .inl rfl | exact .inr rfl) (pe_ix ix_list (pv 3) (pe_call GD r1 (by rfl) gD FD.kp bD .nil pass0 (pa_cons (pv 0) (pa_cons pe_int pa_nil))) (fun _ _ => rfl)))
    (C8.pss_cut (ps_if (PW.pt (pw_and (pt_cmpR (op_neL0 hu) (pv 1) (pe_lst pa_nil) (nomark _)) (pw_and1 (pt_cmpR op_gt (pe_call GD r1 (by rfl) gD FD.kp bD .nil pass0 (pa_cons (pv 0) (pa_cons pe_int pa_nil))) pe_int (nomark _)))))
        (pss_one (ps_set (i := 4) nd rfl (by first | exact .inl rfl | exact .inr rfl) (pe_ix ix_list (pe_ix ix_list (pv 1) (pe_call GD r1 (by rfl) gD FD.kp bD .nil pass0 (pa_cons (pv 0) (pa_cons (pe_callB call_len_seq (by rfl) mn PySem.boot_len (pa_cons (pv 1) pa_nil)) pa_nil))) (fun _ _ => rfl)) pe_int (fun _ _ => rfl)))) pss_nil)
    (C8.pss_cut (ps_set (i := 5) nd rfl (by first | exact .inl rfl | exact .inr rfl) (pe_call GN r1 (by rfl) gN FN.kp bN .nil pass0 (pa_cons (pv 1) (pa_cons (pv 4) pa_nil))))
    (pss_cons (ps_if (ptBy (u := tWay) (PW.pt (pw_or (pt_cmpR op_lt (pv 2) pe_int (nomark _)) (pw_or1 (PW.pt (pw_and (pt_cmpR (op_eqL0 hu) (pv 1) (pe_lst pa_nil) (nomark _)) (pw_and1 (pt_cmpR op_lt (pv 2) pe_int (nomark _)))))))) ?_)
        (pss_cons (ps_setLc (i := 6) (own := [("_law_one", 8)]) (g := gName 8) rfl nd rfl rfl (by rfl) (pi_list (pv 3)) (blkOk_by (N := nDd) (sc := defScope sDd) (by decide +kernel)) (fun _ _ _ _ _ => pg_name (i := 8) nd rfl (Or.inl rfl)) (fun _ _ _ _ _ => (pts_one (pt_cmpR op_isN (pe_call GN r1 (by rfl) gN FN.kp bN .nil pass0 (pa_cons (pv 1) (pa_cons (pv 8) pa_nil))) pe_non (nomark _)))) (fun _ _ _ _ _ => (pv 8)))
      (pss_one (ps_ret (pe_tup (pa_cons pe_str (pa_cons (pe_ix ix_list (pe_lst (pa_cons (pe_ix ix_list (pv 6) (pe_call GD r1 (by rfl) gD FD.kp bD .nil pass0 (pa_cons (pv 0) (pa_cons (pe_callB call_len_seq (by rfl) mn PySem.boot_len (pa_cons (pv 6) pa_nil)) pa_nil))) (fun _ _ => rfl)) (pa_cons (pv 4) pa_nil))) (pe_op op_fdiv (pe_call GD r1 (by rfl) gD FD.kp bD .nil pass0 (pa_cons (pv 0) (pa_cons pe_int pa_nil))) pe_int) (fun _ _ => rfl)) (pa_cons (pe_call GC hr (by rfl) gC FC.kp bC .nil pass0 (pa_cons (pv 0) pa_nil)) pa_nil))))))) pss_nil)
    (pss_cons (ps_if (pt_cmpR op_lt (pv 2) pe_int (nomark _))
        (pss_cons (ps_set (i := 7) nd rfl (by first | exact .inl rfl | exact .inr rfl) (pe_ix ix_list (pe_lst (pa_cons (pe_op op_add pe_int (pe_call GD r1 (by rfl) gD FD.kp bD .nil pass0 (pa_cons (pv 0) (pa_cons pe_int pa_nil)))) (pa_cons (peBy (u := tWide K) (pe_callB call_len_seq (by rfl) mn PySem.boot_len (pa_cons (pe_ix ix_list (pe_orT (pv 5) (pe_one (pe_lst (pa_cons pe_int (pa_cons (pe_tup (pa_cons pe_int pa_nil)) pa_nil))))) pe_int (fun _ _ => rfl)) pa_nil)) ?_) pa_nil))) (pe_callTy call_int1 (by rfl) mi (by decide +kernel) (pa_cons (pe_cmpR op_gt (pe_call GD r1 (by rfl) gD FD.kp bD .nil pass0 (pa_cons (pv 0) (pa_cons pe_int pa_nil))) pe_int (nomark _)) pa_nil)) (fun _ _ => rfl)))
      (pss_one (ps_ret (pe_tup (pa_cons pe_str (pa_cons (pv 4) (pa_cons (pe_tupleOf (by rfl) mt (pe_lc (own := [("_law_k", 9)]) (g := gName 9) (tt := tYes) rfl nd (pi_range1 (by rfl) mr (pa_cons (pv 7) pa_nil)) (blkOk_by (N := nDd) (sc := defScope sDd) (by decide +kernel)) (fun _ _ _ _ _ => pg_name (i := 9) nd rfl (Or.inl rfl)) (fun _ _ _ _ _ => pts_nil) (fun _ _ _ _ _ => (pe_call GW hr (by rfl) gW FW.kp bW .nil pass0 (pa_cons (pv 0) pa_nil))))) pa_nil))))))) pss_nil)
    (pss_cons (ps_set (i := 7) nd rfl (by first | exact .inl rfl | exact .inr rfl) (peBy (u := tHigh K) (pe_callB call_len_seq (by rfl) mn PySem.boot_len (pa_cons (pe_ix ix_list (pe_orT (pv 5) (pe_one (pe_lst (pa_cons pe_int (pa_cons pe_int (pa_cons (pe_lst (pa_cons pe_int pa_nil)) pa_nil)))))) pe_int (fun _ _ => rfl)) pa_nil)) ?_))
    (pss_one (ps_ret (pe_tup (pa_cons pe_str (pa_cons (pv 4) (pa_cons (pe_ix ix_list (pe_lst (pa_cons (pe_call GD r1 (by rfl) gD FD.kp bD .nil pass0 (pa_cons (pv 0) (pa_cons (pe_op op_add (pv 7) pe_int) pa_nil))) (pa_cons (pe_callB (call_max2 rfl) (by rfl) mx (by decide +kernel) (pa_cons pe_int (pa_cons (pe_op op_sub (pv 7) pe_int) pa_nil))) pa_nil))) (pe_op op_fdiv (pe_call GD r1 (by rfl) gD FD.kp bD .nil pass0 (pa_cons (pv 0) (pa_cons pe_int pa_nil))) pe_int) (fun _ _ => rfl)) pa_nil))))))))))))), ?_⟩
  · rintro σ H Q ⟨M, way, xs, e1, e2, eM, q⟩
    refine ⟨_, e2, _, _, rfl, rfl, _, rfl, ?_⟩
    by_cases z : way < 2
    · refine iteT' (decide_eq_true z) ?_
      have := q H (fun _ _ e => e)
      rw [decide_eq_true z, Bool.true_or] at this
      exact this
    · refine iteF' (by rw [decide_eq_true_eq]; exact z) ?_
      rw [decide_eq_false z, Bool.false_or] at q
      refine ⟨_, e1, Nat.zero_le _, fun b nb => ?_⟩
      have jb := new_same (o := .lst []) nb
      have qq := q _ jb
      refine ⟨M, b, xs, rfl, rfl, SqL.of (jb _ _ eM), SqL.of upd_same, _, rfl, ?_⟩
      cases xs with
      | cons y ys => exact iteF' (by simp) qq
      | nil =>
        refine iteT' (by simp) ?_
        exact ⟨_, e2, _, _, rfl, rfl, _, rfl, qq⟩
  · rintro σ H Q ⟨v5, e5, way, q⟩
    rcases way with rfl | ⟨a, ca, lm, n, cs, rfl, ea, hca, l4⟩
    · refine ⟨_, e5, _, rfl, iteF ?_⟩
      refine ⟨(by show 1 ≤ sizeLine; decide), fun t nt => ⟨(by show 2 ≤ sizeLine; decide), fun b nb => ?_⟩⟩
      have jt := new_same (o := .tup [.int 0]) nt
      have jb := new_same (o := .lst [.int 0, .ref t]) nb
      refine ⟨b, _, 1, _, rfl, rfl, SqL.of upd_same, atI_nat (j := 1) rfl, t, _, rfl, .inr (Tups.of_same jb _ _ (SqT.of upd_same)), ?_⟩
      exact q 1 _ (by decide) (jt.trans jb)
    · refine ⟨_, e5, true, .inl ⟨_, SqL.of ea, rfl⟩, iteT ?_⟩
      refine ⟨a, _, 1, _, rfl, rfl, SqL.of ea, atI_nat (j := 1) rfl, ca, _, rfl, .inr hca, ?_⟩
      rw [List.length_map]
      exact q _ _ l4 (fun _ _ e => e)
  · rintro σ H Q ⟨v5, e5, way, q⟩
    rcases way with rfl | ⟨a, ca, lm, n, rs, rfl, ea, hl, l60⟩
    · refine ⟨_, e5, _, rfl, iteF ?_⟩
      refine ⟨(by show 1 ≤ sizeLine; decide), fun t nt => ⟨(by show 3 ≤ sizeLine; decide), fun b nb => ?_⟩⟩
      have jt := new_same (o := .lst [.int 0]) nt
      have jb := new_same (o := .lst [.int 0, .int 0, .ref t]) nb
      refine ⟨b, _, 2, _, rfl, rfl, SqL.of upd_same, atI_nat (j := 2) rfl, t, _, rfl, .inl (SqL.of (jb _ _ upd_same)), ?_⟩
      exact q 1 _ (by decide) (jt.trans jb)
    · refine ⟨_, e5, true, .inl ⟨_, SqL.of ea, rfl⟩, iteT ?_⟩
      refine ⟨a, _, 2, _, rfl, rfl, SqL.of ea, atI_nat (j := 2) rfl, lm, _, rfl, .inl (SqL.of hl), ?_⟩
      exact q _ _ l60 (fun _ _ e => e)
  obtain ⟨mt', ml, mr', S, hG⟩ := hM
  have nfl : ¬ mfoot M x.tabs mt' ml mr' l := fun z => nGl ((hG l).mpr z)
  have x6 := ok.tabs
  have hl : ((List.range x.tabs.length).map fun i => V.ref (mt' i)).length = x.tabs.length := by rw [List.length_map, List.length_range]
  refine ⟨_, rfl, l, c, 9, S0, rfl, hP, by decide, by decide, by omega, fun way H1 w0 w1 p1 x1 => ?_⟩
  refine ⟨rfl, fun pl H2 npl e2 => ?_⟩
  subst e2
  have j2 := new_same (o := .lst (poolL.map V.str)) npl
  have ep2 : upd H1 pl (.lst (poolL.map V.str)) pl = some (.lst (poolL.map V.str)) := upd_same
  have p2 := p1.same j2
  have npll : pl ≠ l := (p1.not npl).1
  have x2 : Ex1 l H _ := x1.trans (ex1_of_same j2)
  generalize upd H1 pl (.lst (poolL.map V.str)) = H2 at ep2 p2 x2 ⊢
  refine ⟨_, rfl, _, rfl, l, c, 11, _, rfl, p2, by decide, by decide, by omega, fun ti H3 t0 t1 p3 x3 => ?_⟩
  obtain ⟨n0, hn0, en0⟩ := at_list (f := V.str) (xs := poolL) t0 t1
  refine ⟨pl, _, _, _, rfl, rfl, SqL.of (x3 _ _ npll ep2), en0, ?_⟩
  have ep3 := x3 _ _ npll ep2
  have x03 := x2.trans x3
  have S3 := S.ex1 hP x03 nfl
  refine ⟨fun σ' H' => ∃ n, isLab n = true ∧ σ' = [some (.ref l), some (.ref M), some (.int way), some (.ref pl), some (.str n), none, none, none, none, none] ∧ Pen H' l c (S0 + 4) ∧ Ex1 l H3 H', ?_, ?_⟩
  · have keep : ∀ H', Pen H' l c (S0 + 4) → Ex1 l H3 H' → ∃ n, isLab n = true ∧ ([some (V.ref l), some (V.ref M), some (V.int way), some (V.ref pl), some (V.str n0), none, none, none, none, none] : L2.St) = ([some (V.ref l), some (V.ref M), some (V.int way), some (V.ref pl), some (V.str n), none, none, none, none, none] : L2.St) ∧ Pen H' l c (S0 + 4) ∧ Ex1 l H3 H' := fun H' p x => ⟨n0, pool_lab n0 hn0, rfl, p, x⟩
    refine ⟨_, rfl, Nat.zero_le _, fun z nz => ?_⟩
    have jz := new_same (o := .lst []) nz
    refine ⟨M, z, _, rfl, rfl, SqL.of (jz _ _ S3.dict), SqL.of upd_same, _, rfl, ite2 (fun e => ?_) (fun e => ?_)⟩
    · have pos : 0 < x.tabs.length := by
        cases h : x.tabs with
        | nil => rw [h] at e; simp at e
        | cons => simp
      refine ⟨_, rfl, l, c, 6, _, rfl, p3.same jz, by decide, by decide, by omega, fun r H5 r0 r1' p5 x5 => ⟨_, _, rfl, rfl, _, rfl, ite2 (fun e => ?_) (fun e => ?_)⟩⟩
      · have S5 := (S3.same jz).ex1 (p3.same jz) x5 nfl
        refine ⟨_, rfl, _, rfl, _, rfl, M, _, rfl, .inl (SqL.of S5.dict), l, c, _, _, rfl, p5, by rw [hl]; omega, by rw [hl]; omega, by omega, fun r6 H6 r60 r61 p6 x6 => ?_⟩
        rw [hl] at r61
        have S6 := S5.ex1 p5 x6 nfl
        obtain ⟨j, rfl⟩ : ∃ j : Nat, r6 = ((j : Nat) : Int) := ⟨r6.toNat, by omega⟩
        have hj : x.tabs[j]? = some x.tabs[j] := List.getElem?_eq_getElem (by omega)
        obtain ⟨ca, T6, C6⟩ := S6.tup j _ hj
        refine ⟨M, _, _, .ref (mt' j), rfl, rfl, SqL.of S6.dict, atI_nat (j := j) (by rw [List.getElem?_map, List.getElem?_range (by omega)]; rfl), mt' j, _, 0, _, rfl, rfl, SqL.of T6, atI_nat (j := 0) rfl, ?_⟩
        exact ⟨_, ok.lab _ (List.mem_of_getElem? hj), rfl, p6.le (by omega), ((ex1_of_same jz).trans x5).trans x6⟩
      · exact keep _ (p5.le (by omega)) ((ex1_of_same jz).trans x5)
    · exact keep _ ((p3.same jz).le (by omega)) (ex1_of_same jz)
  rintro σ4 H4 ⟨n, hn, rfl, p4, x4⟩
  have x04 := x03.trans x4
  have S4 := S.ex1 hP x04 nfl
  have ep4 := x4 _ _ npll ep3
  refine ⟨fun σ' H' => ∃ v5 : V, σ' = [some (.ref l), some (.ref M), some (.int way), some (.ref pl), some (.str n), some v5, none, none, none, none] ∧ Same H4 H' ∧ (v5 = .non ∨ ∃ i t, x.tabs[i]? = some t ∧ v5 = .ref (mt' i)), ?_, ?_⟩
  · refine ⟨_, rfl, _, rfl, M, x.tabs, mt', ml, mr', n, rfl, S4, by omega, ok.nd, fun i tb hi hn H8 s8 => ?_, fun no H8 s8 => ?_⟩
    · exact ⟨_, rfl, s8, .inr ⟨i, tb, hi, rfl⟩⟩
    · exact ⟨_, rfl, s8, .inl rfl⟩
  rintro σ5 H5 ⟨v5, rfl, s5, hv5⟩
  have S5 := S4.same s5
  have p5 := p4.same s5
  have ep5 := s5 _ _ ep4
  have x05 := x04.trans (ex1_of_same s5)
  have emp : ((List.range x.tabs.length).map fun i => V.ref (mt' i)).isEmpty = x.tabs.isEmpty := by
    cases x.tabs with
    | nil => rfl
    | cons a b => simp
  refine ⟨M, way, _, rfl, rfl, S5.dict, fun H6 s6 => ?_⟩
  rw [emp]
  have S6 := S5.same s6
  have p6 := p5.same s6
  have ep6 := s6 _ _ ep5
  have x06 := x05.trans (ex1_of_same s6)
  refine ite2 (fun e => ?_) (fun e => ?_)
  · -- a table
    refine ⟨_, rfl, pl, rfl, ⟨_, SqL.of ep6⟩, fun D nD => ?_⟩
    refine lc_list (K := K) (a := pl) (xs := poolL.map V.str) (fun j G' => Same H6 G' ∧ G' D = some (.lst (((poolL.take j).filter fun n => decide (n ∉ x.tabs.map Tab.name)).map V.str))) ⟨new_same nD, upd_same⟩ (fun j G' _ y => SqL.of (y.1 _ _ ep6)) ?_ ?_
    · rintro j y G' hy ⟨sg, eD⟩
      rw [List.getElem?_map, Option.map_eq_some_iff] at hy
      obtain ⟨nm, en, rfl⟩ := hy
      refine ⟨rfl, ?_⟩
      rw [List.take_add_one, en, List.filter_append]
      refine ⟨_, rfl, _, rfl, M, x.tabs, mt', ml, mr', nm, rfl, S6.same sg, by omega, ok.nd, fun i tb hi hn' H8 s8 => ?_, fun no H8 s8 => ?_⟩
      · have mem : nm ∈ x.tabs.map Tab.name := List.mem_map.mpr ⟨tb, List.mem_of_getElem? hi, hn'⟩
        refine ⟨rfl, _, rfl, iteF' (by simp) ?_⟩
        rw [show (some nm).toList.filter (fun n => decide (n ∉ x.tabs.map Tab.name)) = [] from List.filter_cons_of_neg (by simpa using mem), List.append_nil]
        exact ⟨sg.trans s8, s8 _ _ eD⟩
      · have mem : nm ∉ x.tabs.map Tab.name := fun h => by
          obtain ⟨tb, htb, e⟩ := List.mem_map.mp h
          exact no tb htb e
        refine ⟨rfl, _, rfl, iteT' rfl ?_⟩
        have lf : ((poolL.take j).filter fun n => decide (n ∉ x.tabs.map Tab.name)).length ≤ 11 := by
          refine Nat.le_trans (List.length_filter_le _ _) ?_
          rw [List.length_take]
          exact Nat.min_le_right _ _
        refine ⟨_, rfl, _, s8 _ _ eD, by rw [List.length_map, sizeLine_eq]; omega, own_same nD (sg.trans s8), ?_⟩
        rw [upd_same, List.map_append, show (some nm).toList.filter (fun n => decide (n ∉ x.tabs.map Tab.name)) = [nm] from List.filter_cons_of_pos (by simpa using mem)]
        rfl
    rintro H7 ⟨s7, eD⟩
    rw [List.length_map, List.take_length] at eD
    obtain ⟨fr, hfr⟩ : ∃ fr, fr = poolL.filter fun n => decide (n ∉ x.tabs.map Tab.name) := ⟨_, rfl⟩
    rw [← hfr] at eD
    have fl11 : fr.length ≤ 11 := by rw [hfr]; exact List.length_filter_le _ _
    have fpos : 0 < fr.length := by
      cases h : fr with
      | cons => simp
      | nil =>
        exfalso
        have all : ∀ a ∈ poolL, a ∈ x.tabs.map Tab.name := fun a ha => by
          by_cases z : a ∈ x.tabs.map Tab.name
          · exact z
          · have : a ∈ fr := by rw [hfr]; exact List.mem_filter.mpr ⟨ha, by simpa using z⟩
            rw [h] at this
            cases this
        have := len_sub pool_nd all
        rw [List.length_map, show poolL.length = 11 from rfl] at this
        omega
    have p7 := p6.same s7
    have nDl := (p6.not nD).1
    refine ⟨_, rfl, _, rfl, _, rfl, D, _, rfl, .inl (SqL.of eD), l, c, _, _, rfl, p7, by rw [List.length_map]; omega, by rw [List.length_map]; omega, by omega, fun r8 H8 r80 r81 p8 x8 => ?_⟩
    rw [List.length_map] at r81
    obtain ⟨n1, hn1, en1⟩ := at_list (f := V.str) (xs := fr) r80 r81
    have eD8 := x8 _ _ nDl eD
    have hl1 : isLab n1 = true := pool_lab n1 (by rw [hfr] at hn1; exact (List.mem_filter.mp hn1).1)
    refine ⟨D, _, _, _, rfl, rfl, SqL.of eD8, en1, _, rfl, (by show 2 ≤ sizeLine; decide), fun b nb => ?_⟩
    have jb := new_same (o := .lst ([n1, n].map V.str)) nb
    have nbl := (p8.not nb).1
    have eb : upd H8 b (.lst ([n1, n].map V.str)) b = some (.lst ([n1, n].map V.str)) := upd_same
    refine ⟨_, rfl, l, c, 5, _, rfl, p8.same jb, by decide, by decide, by omega, fun r9 H9 r90 r91 p9 x9 => ?_⟩
    obtain ⟨f0, f1⟩ := fdiv_two (a := 4) (by decide) r90 r91 (by decide)
    obtain ⟨n2, hn2, en2⟩ := at_list (f := V.str) (xs := [n1, n]) f0 (by simpa using f1)
    have hl2 : isLab n2 = true := by
      simp only [List.mem_cons, List.not_mem_nil, or_false] at hn2
      rcases hn2 with rfl | rfl
      · exact hl1
      · exact hn
    refine ⟨_, _, rfl, rfl, ⟨by decide, by decide⟩, ?_⟩
    refine ⟨b, _, _, _, rfl, rfl, SqL.of (x9 _ _ nbl eb), en2, ?_⟩
    refine ⟨_, rfl, l, c, _, rfl, p9, by omega, fun t cs HA ht co pA xA => ?_⟩
    refine ⟨(by show 3 ≤ sizeLine; decide), fun r nr => ?_⟩
    have jr := new_same (o := .tup [.str "table", .str n2, .ref t]) nr
    refine q r (.table n2 cs) _ ⟨.ref t, SqT.of upd_same, t, rfl, Tups.of_same jr _ _ ht⟩ ⟨hl2, co⟩ ((pA.same jr).le (by omega)) ?_
    exact (((((x06.trans (ex1_of_same s7)).trans x8).trans (ex1_of_same jb)).trans x9).trans xA).trans (ex1_of_same jr)
  have wide : v5 = .non ∨ ∃ (a ca lm : Addr) (n : Str) (cs : List Str), v5 = .ref a ∧ H6 a = some (.lst [.str n, .ref ca, .ref lm]) ∧ SqT K H6 ca (cs.map V.str) ∧ cs.length ≤ 4 := by
    rcases hv5 with h | ⟨i, t, hi, h⟩
    · exact .inl h
    · obtain ⟨ca, T, C⟩ := S6.tup i t hi
      exact .inr ⟨mt' i, ca, ml i, t.name, t.cols, h, T, C, neat t (List.mem_of_getElem? hi)⟩
  have high : v5 = .non ∨ ∃ (a ca lm : Addr) (n : Str) (rs : List V), v5 = .ref a ∧ H6 a = some (.lst [.str n, .ref ca, .ref lm]) ∧ H6 lm = some (.lst rs) ∧ rs.length ≤ 60 := by
    rcases hv5 with h | ⟨i, t, hi, h⟩
    · exact .inl h
    · obtain ⟨ca, T, C⟩ := S6.tup i t hi
      exact .inr ⟨mt' i, ca, ml i, t.name, _, h, T, S6.lst i t hi, by rw [List.length_map, List.length_range]; exact ok.rows t (List.mem_of_getElem? hi)⟩
  refine ⟨_, rfl, _, _, rfl, rfl, _, rfl, ite2 (fun e => ?_) (fun e => ?_)⟩
  · -- a row
    refine ⟨_, rfl, l, c, 5, _, rfl, p6, by decide, by decide, by omega, fun r7 H7 r70 r71 p7 x7 => ⟨_, _, rfl, rfl, ?_⟩⟩
    have nls : ∀ {o : HO} {a : Addr}, H6 a = some o → a ≠ l → H7 a = some o := fun e n => x7 _ _ n e
    have wide7 : v5 = .non ∨ ∃ (a ca lm : Addr) (n : Str) (cs : List Str), v5 = .ref a ∧ H7 a = some (.lst [.str n, .ref ca, .ref lm]) ∧ SqT K H7 ca (cs.map V.str) ∧ cs.length ≤ 4 := by
      have S7 := S6.ex1 p6 x7 nfl
      rcases hv5 with h | ⟨i, t, hi, h⟩
      · exact .inl h
      · obtain ⟨ca, T, C⟩ := S7.tup i t hi
        exact .inr ⟨mt' i, ca, ml i, t.name, t.cols, h, T, C, neat t (List.mem_of_getElem? hi)⟩
    refine ⟨v5, rfl, wide7, fun m H8 hm s8 => ?_⟩
    refine ⟨(by show 2 ≤ sizeLine; decide), fun b nb => ?_⟩
    have jb := new_same (o := .lst [.int (1 + r7), .int ((m : Nat) : Int)]) nb
    have p8 := (p7.same s8).same jb
    have nbl := ((p7.same s8).not nb).1
    have eb : upd H8 b (.lst [.int (1 + r7), .int ((m : Nat) : Int)]) b = some (.lst [.int (1 + r7), .int ((m : Nat) : Int)]) := upd_same
    refine ⟨_, rfl, l, c, 6, _, rfl, p8, by decide, by decide, by omega, fun r9 H9 r90 r91 p9 x9 => ⟨_, _, rfl, rfl, .inr ⟨_, rfl, ?_⟩⟩⟩
    obtain ⟨mm, hm5, emm⟩ : ∃ mm : Nat, mm ≤ 5 ∧ atI [V.int (1 + r7), V.int ((m : Nat) : Int)] (if decide ((0 : Int) < r9) = true then 1 else 0) = some (.int ((mm : Nat) : Int)) := by
      by_cases z : decide ((0 : Int) < r9) = true
      · rw [if_pos z]
        exact ⟨m, by omega, atI_nat (j := 1) rfl⟩
      · rw [if_neg z]
        refine ⟨(1 + r7).toNat, by omega, ?_⟩
        rw [show (((1 + r7).toNat : Nat) : Int) = 1 + r7 by omega]
        exact atI_nat (j := 0) rfl
    refine ⟨b, _, _, _, rfl, rfl, SqL.of (x9 _ _ nbl eb), emm, ?_⟩
    refine ⟨_, rfl, ?_⟩
    refine ⟨_, rfl, _, rfl, by omega, by omega, fun D nD => ?_⟩
    have nDl := (p9.not nD).1
    have x09 := (((x06.trans x7).trans (ex1_of_same s8)).trans (ex1_of_same jb)).trans x9
    refine lc_it (upto (n := mm)) (fun k G => Ex1 l H9 G ∧ Pen G l c (S0 + 10 + 2 * (k : Int)) ∧ ∃ ws : List Int, G D = some (.lst (ws.map V.int)) ∧ ws.length = k ∧ WsOk ws) ⟨Ex1.new nD, (p9.same (new_same nD)).le (by omega), [], upd_same, rfl, fun i hi => nomatch hi⟩ (fun _ _ _ _ => trivial) ?_ ?_
    · rintro k wv G G2 hk ⟨xG, pG, ws, eD, lw, wo⟩ ⟨rfl, rfl⟩
      refine ⟨rfl, ?_⟩
      refine ⟨_, rfl, l, c, _, rfl, pG, by omega, fun wn GA w0' w1' pA xA => ?_⟩
      have eDA := xA _ _ nDl eD
      have jD : Ex1 l H9 (upd GA D (.lst (ws.map V.int ++ [.int wn]))) := fun a o na e => by
        rw [upd_ne (ne_of_none e nD)]
        exact (xG.trans xA) a o na e
      refine ⟨_, eDA, by rw [List.length_map, lw, sizeLine_eq]; omega, jD, pen_upd (pA.le (by omega)) eDA nDl (p9.not nD).2, ws ++ [wn], ?_, by rw [List.length_append, lw]; rfl, fun i hi => ?_⟩
      · rw [upd_same, List.map_append]
        rfl
      · rcases List.mem_append.mp hi with h | h
        · exact wo i h
        · rw [List.mem_singleton.mp h]
          exact ⟨w0', w1'⟩
    rintro G ⟨xG, pG, ws, eD, lw, wo⟩
    refine .inl ⟨D, _, rfl, SqL.of eD, fun t nt => ⟨(by show 3 ≤ sizeLine; decide), fun r nr => ?_⟩⟩
    have jt := new_same (o := .tup (ws.map V.int)) nt
    have jr := new_same (o := .tup [.str "row", .str n, .ref t]) nr
    refine q r (.row n ws) _ ⟨.ref t, SqT.of upd_same, t, rfl, Tups.of_same jr _ _ (SqT.of upd_same)⟩ ⟨hn, wo, by omega⟩ (((pG.same jt).same jr).le (by omega)) ?_
    exact ((x09.trans xG).trans (ex1_of_same jt)).trans (ex1_of_same jr)
  -- a row taken out
  refine ⟨v5, rfl, high, fun m H7 hm s7 => ?_⟩
  have p7 := p6.same s7
  refine ⟨_, rfl, ?_⟩
  refine ⟨_, rfl, _, rfl, _, _, rfl, rfl, l, c, _, _, rfl, p7, by omega, by omega, by omega, fun r8 H8 r80 r81 p8 x8 => ?_⟩
  refine ⟨_, rfl, _, _, rfl, rfl, _, _, rfl, (by show 2 ≤ sizeLine; decide), fun b nb => ?_⟩
  have z0 : 0 ≤ (if ((m : Nat) : Int) - 1 > 0 then ((m : Nat) : Int) - 1 else 0) ∧ (if ((m : Nat) : Int) - 1 > 0 then ((m : Nat) : Int) - 1 else 0) ≤ 60 := by
    split <;> omega
  generalize (if ((m : Nat) : Int) - 1 > 0 then ((m : Nat) : Int) - 1 else 0) = mz at z0 nb ⊢
  have jb := new_same (o := .lst ([r8, mz].map V.int)) nb
  have nbl := (p8.not nb).1
  have eb : upd H8 b (.lst ([r8, mz].map V.int)) b = some (.lst ([r8, mz].map V.int)) := upd_same
  refine ⟨_, rfl, l, c, 3, _, rfl, p8.same jb, by decide, by decide, by omega, fun r9 H9 r90 r91 p9 x9 => ?_⟩
  obtain ⟨f0, f1⟩ := fdiv_two (a := 2) (by decide) r90 r91 (by decide)
  obtain ⟨k2, hk2, ek2⟩ := at_list (f := V.int) (xs := [r8, mz]) f0 (by simpa using f1)
  have kz : 0 ≤ k2 ∧ k2 ≤ 100 := by
    simp only [List.mem_cons, List.not_mem_nil, or_false] at hk2
    rcases hk2 with rfl | rfl <;> omega
  obtain ⟨kn, rfl⟩ : ∃ kn : Nat, k2 = ((kn : Nat) : Int) := ⟨k2.toNat, by omega⟩
  refine ⟨_, _, rfl, rfl, ⟨by decide, by decide⟩, ?_⟩
  refine ⟨b, _, _, _, rfl, rfl, SqL.of (x9 _ _ nbl eb), ek2, ?_⟩
  refine ⟨(by show 3 ≤ sizeLine; decide), fun r nr => ?_⟩
  have jr := new_same (o := .tup [.str "out", .str n, .int ((kn : Nat) : Int)]) nr
  refine q r (.out n kn) _ ⟨_, SqT.of upd_same, rfl⟩ ⟨hn, by omega⟩ ((p9.same jr).le (by omega)) ?_
  exact ((((x06.trans (ex1_of_same s7)).trans x8).trans (ex1_of_same jb)).trans x9).trans (ex1_of_same jr)
end
end K07
end

section
set_option Elab.async false
set_option linter.all false
set_option maxRecDepth 100000
set_option maxHeartbeats 4000000
/-! the law's rows and columns of a name behind the first so many deeds. -/
namespace K07
open PySem PySem.Spec PyProof.Rows L2 Gd K07t
abbrev sRo : Stmt := topS 52
abbrev nRo : List Str := ["_law_deeds", "_law_title", "_law_when", "_law_found", "_law_word", "_law_called", "_law_rest", "_law_k"]
theorem scRo : FnScope nRo ["_law_deeds", "_law_title", "_law_when"] (defScope sRo) := ⟨rfl, rfl, rfl, by decide +kernel, rfl, by decide +kernel, by decide +kernel⟩
abbrev sTc : Stmt := topS 53
abbrev nTc : List Str := ["_law_deeds", "_law_title", "_law_word", "_law_called", "_law_rest"]
theorem scTc : FnScope nTc ["_law_deeds", "_law_title"] (defScope sTc) := ⟨rfl, rfl, rfl, by decide +kernel, rfl, by decide +kernel, by decide +kernel⟩
/-- the deeds stand in a list -/
def DeedsAt (K : PySem.W.Frag) (H : Hp) (us : List V) (ds : List Deed) : Prop := PySem.W.EachIs (fun v d => ∃ t, v = .ref t ∧ DeedAt K H t d) us ds
theorem DeedsAt.tups {K : PySem.W.Frag} {H H' : Hp} {us : List V} {ds : List Deed} (h : DeedsAt K H us ds) (t : Tups K H H') : DeedsAt K H' us ds := h.mono fun _ _ ⟨q, e, z⟩ => ⟨q, e, z.tups t⟩
/-- what was found so far: behind the heap H0 -/
def FoundAt (K : PySem.W.Frag) (H0 H : Hp) (v : V) : Option (List Rw) → Prop
  | none => v = .non
  | some rs => ∃ (a : Addr) (mr : Nat → Addr), v = .ref a ∧ H0 a = none ∧ H a = some (.lst ((List.range rs.length).map fun k => V.ref (mr k))) ∧ (∀ k, k < rs.length → H0 (mr k) = none) ∧ (∀ i j, i < rs.length → j < rs.length → mr i = mr j → i = j) ∧
    ∀ k r, rs[k]? = some r → ∃ b, H (mr k) = some (.lst (mRow r b)) ∧ SqT K H0 b (r.ws.map V.int)
def spRo (K : PySem.W.Frag) : Sp := fun vs H Q _ => ∃ (D : Addr) (us : List V) (ds : List Deed) (xs : Nat → Shelf) (n : Str) (m : Nat), vs = [.ref D, .str n, .int ((m : Nat) : Int)] ∧ H D = some (.lst us) ∧ DeedsAt K H us ds ∧ Chain ds xs ∧ ds.length ≤ 1000 ∧
  (tabNamed (xs (min m ds.length)) n = none → ∀ H', Same H H' → Q .non H') ∧ ∀ u, tabNamed (xs (min m ds.length)) n = some u → ∀ (R : Addr) (vs' : List V) H', Same H H' → H R = none → H' R = some (.lst vs') → DpAll K H' vs' (liveD u u.rows.length) → Q (.ref R) H'
def spTc (K : PySem.W.Frag) : Sp := fun vs H Q _ => ∃ (D : Addr) (us : List V) (ds : List Deed) (n : Str) (cs : List Str), vs = [.ref D, .str n] ∧ H D = some (.lst us) ∧ DeedsAt K H us ds ∧ ds.length ≤ 1000 ∧ (∃ j : Nat, ds[j]? = some (.table n cs)) ∧ (∀ (j : Nat) cs', ds[j]? = some (.table n cs') → cs' = cs) ∧
  ∀ (t : Addr) H', Same H H' → SqT K H' t (cs.map V.str) → Q (.ref t) H'
theorem cut_to (xs : List V) (m : Nat) : cutV xs none (some ((m : Nat) : Int)) = xs.take (min m xs.length) := by
  unfold cutV
  rw [HT.sIx_none, HT.sIx_nat, List.drop_zero, Nat.sub_zero]
theorem liveD_len (u : Tab) (k : Nat) : (liveD u k).length ≤ k := by
  unfold liveD
  rw [List.length_map]
  refine Nat.le_trans (List.length_filter_le _ _) ?_
  rw [List.length_zipIdx, List.length_take]
  exact Nat.min_le_left _ _
theorem row_only {k : Int} {ws : List Int} (h : ws.length ≤ 1000) : tupOnly (.tuple [.int k, .tuple (ws.map PyData.int)]) = true := by
  have e : tupOnly (.tuple (ws.map PyData.int)) = true := by
    simp only [tupOnly, Bool.and_eq_true, decide_eq_true_eq]
    exact ⟨by rw [List.length_map]; omega, ints_only _⟩
  simp only [tupOnly, tupOnlyAll, Bool.and_eq_true, decide_eq_true_eq] at e ⊢
  exact ⟨by show 2 ≤ 1000; decide, trivial, e, trivial⟩
theorem live_only (u : Tab) (k : Nat) (h : ∀ r ∈ u.rows, r.ws.length ≤ 1000) : tupOnlyAll (liveD u k) = true := by
  have : ∀ l : List PyData, (∀ d ∈ l, tupOnly d = true) → tupOnlyAll l = true := fun l => by
    induction l with
    | nil => intro _; rfl
    | cons d l ih =>
      intro hl
      show (tupOnly d && tupOnlyAll l) = true
      rw [hl d (by simp), ih fun e he => hl e (by simp [he])]
      rfl
  refine this _ fun d hd => ?_
  unfold liveD at hd
  obtain ⟨p, hp, rfl⟩ := List.mem_map.mp hd
  exact row_only (h p.1 (List.mem_of_mem_take (List.fst_mem_of_mem_zipIdx (List.mem_filter.mp hp).1)))
section
variable {P : Program} {w : World} {K : PySem.W.Frag} {mg : Str → Option Value} {base : Heap} {f : Addr} {fd : FuncData}
theorem ok_ro (F : Fun K "_law_rows" "_law_rows" sRo f fd) (mn : mg "len" = none) (mr : mg "range" = none) : FnOk P w K mg base CX0 1 f fd ["_law_deeds", "_law_title", "_law_when"] (spRo K) := by
  refine F.ok scRo (fun vs H Q E h => ?_) (fun cdv A outer s H vs Q E hr h => ?_)
  · obtain ⟨D, us, ds, xs, n, m, rfl, _⟩ := h
    rfl
  obtain ⟨D, us, ds, xs, n, m, rfl, hD, hds, ch, l1, q1, q2⟩ := h
  have nd := scRo.nd
  have hu := Nat.lt_of_succ_lt (hu_of hr)
  refine ⟨_, pss_cons (ps_set (i := 3) nd rfl (by first | exact .inl rfl | exact .inr rfl) pe_non)
      (pss_cons (ps_for PassesOwn.never rfl (pi_list (pe_slice sl_list (pv 0) po_none (po_some (pv 2)))) (pg_tup rfl (pgs_cons (pg_name (i := 4) nd rfl (.inl rfl)) (pgs_cons (pg_name (i := 5) nd rfl (.inl rfl)) (pgs_cons (pg_name (i := 6) nd rfl (.inl rfl)) pgs_nil))))
      (pss_one (ps_if (PW.pt (pw_and (pt_cmpR op_eq (pv 5) (pv 1) (nomark _)) (pw_and1 (pt_cmpR op_eq (pv 4) pe_str (nomark _)))))
        (pss_one (ps_set (i := 3) nd rfl (by first | exact .inl rfl | exact .inr rfl) (pe_lst pa_nil))) (pss_one (ps_if (PW.pt (pw_and (pt_cmpR op_eq (pv 5) (pv 1) (nomark _)) (pw_and1 (pt_cmpR op_eq (pv 4) pe_str (nomark _)))))
        (pss_one (ps_expr (pe_bm PySem.F.plainAttrs_list PySem.F.slot_list_append PySem.F.type_list_append mt_append (pv 3) (pa_cons (pe_lst (pa_cons (pv 6) (pa_cons pe_bl pa_nil))) pa_nil)))) (pss_one (ps_if (pt_cmpR op_eq (pv 5) (pv 1) (nomark _))
        (pss_one (ps_asg pe_bl (pg_sub (pe_ix ix_list (pv 3) (pv 6) (fun _ _ => rfl)) pe_int set_list))) pss_nil)))))))
      (pss_cons (ps_if (pt_cmpR op_isN (pv 3) pe_non (nomark _))
        (pss_one (ps_ret pe_non)) pss_nil)
      (pss_one (ps_ret (pe_lc (own := [("_law_k", 7)]) (g := gName 7) rfl nd (pi_range1 (by rfl) mr (pa_cons (pe_callB call_len_seq (by rfl) mn PySem.boot_len (pa_cons (pv 3) pa_nil)) pa_nil)) (blkOk_by (N := nRo) (sc := defScope sRo) (by decide +kernel)) (fun _ _ _ _ _ => pg_name (i := 7) nd rfl (Or.inl rfl)) (fun _ _ _ _ _ => (pts_one (pt_val (pe_ix (ixL K) (pe_ix (ixL K) (pv 3) (pv 7) (fun _ _ => rfl)) pe_int (fun _ _ => rfl))))) (fun _ _ _ _ _ => (pe_tup (pa_cons (pv 7) (pa_cons (pe_ix (ixL K) (pe_ix (ixL K) (pv 3) (pv 7) (fun _ _ => rfl)) pe_int (fun _ _ => rfl)) pa_nil))))))))), ?_⟩
  have ldu : us.length = ds.length := hds.length
  refine ⟨_, rfl, _, rfl, _, rfl, D, _, rfl, SqL.of hD, fun D2 nD2 => ?_⟩
  rw [cut_to, ldu]
  have mN : min m ds.length ≤ ds.length := Nat.min_le_right _ _
  generalize min m ds.length = M at mN q1 q2 nD2 ⊢
  have lus : (us.take M).length = M := by rw [List.length_take]; omega
  have jD := new_same (o := .lst (us.take M)) nD2
  have eD2 : upd H D2 (.lst (us.take M)) D2 = some (.lst (us.take M)) := upd_same
  have hds2 : DeedsAt K (upd H D2 (.lst (us.take M))) us ds := hds.tups (Tups.of_same jD)
  have hf2 : ∀ a, upd H D2 (.lst (us.take M)) a = none → H a = none := fun a => jD.free
  generalize upd H D2 (.lst (us.take M)) = H2 at jD eD2 hds2 hf2 ⊢
  refine ⟨D2, rfl, ⟨_, SqL.of eD2⟩, ?_⟩
  have ok := ch.ok (by omega)
  refine for_it (walk_list (K := K) (a := D2) (xs := us.take M)) (fun k σ G => (∃ v3 x4 x5 x6, σ = [some (.ref D), some (.str n), some (.int ((m : Nat) : Int)), some v3, x4, x5, x6, none] ∧ FoundAt K H2 G v3 (rowsN (xs k) n)) ∧ Same H2 G) ⟨⟨.non, none, none, none, rfl, by rw [ch.z]; rfl⟩, fun _ _ e => e⟩ (fun k σ G _ z => SqL.of (z.2 _ _ eD2)) ?_ ?_
  · rintro k y σ G G2 hk ⟨⟨v3, x4, x5, x6, rfl, fa⟩, sm⟩ ⟨rfl, hy⟩
    have hk : k < M := by rw [← lus]; exact hk
    have hy : us[k]? = some y := by
      have hy : (us.take M)[k]? = some y := hy
      rw [List.getElem?_take, if_pos hk] at hy
      exact hy
    obtain ⟨d, ed, t, rfl, hd0⟩ := K07t.each_at hds2 hy
    obtain ⟨wv, ht0, hw0⟩ := hd0
    have ht := Tups.of_same sm _ _ ht0
    obtain ⟨dok, y2, can, e2⟩ := ch.s k d ed
    have okk := ok k (by omega)
    have rn := rows_next okk.nd can ((xs k).deeds ++ [d]) n
    rw [← e2] at rn
    have keep : ∀ {G' : Hp}, Same G2 G' → FoundAt K H2 G' v3 (rowsN (xs k) n) := fun {G'} s => by
      cases h : rowsN (xs k) n with
      | none => rw [h] at fa; exact fa
      | some rs =>
        rw [h] at fa
        obtain ⟨a, mr', f1, f2, f3, f4, f5, f6⟩ := fa
        exact ⟨a, mr', f1, f2, s _ _ f3, f4, f5, fun j r hr => by obtain ⟨b, g1, g2⟩ := f6 j r hr; exact ⟨b, s _ _ g1, g2⟩⟩
    refine ⟨t, _, rfl, ht, rfl, _, _, rfl, _, _, rfl, _, _, rfl, rfl, ?_⟩
    have eqs : ∀ {u v : Str}, ¬ u = v → ¬ decide (V.str u = V.str v) = true := fun n => by rw [decide_eq_true_eq]; exact fun z => n (V.str.inj z)
    by_cases q : d.name = n
    · have qt : decide (V.str d.name = V.str n) = true := by rw [q]; exact decide_eq_true rfl
      refine ⟨_, rfl, _, rfl, rfl, _, rfl, iteT' qt ?_⟩
      cases d with
      | table a cs =>
        refine ⟨_, rfl, rfl, _, rfl, iteT' (decide_eq_true rfl) ?_⟩
        refine ⟨Nat.zero_le _, fun b nb => ?_⟩
        have rn : rowsN (xs (k + 1)) n = some [] := rn.trans (if_pos q)
        rw [rn]
        exact ⟨⟨_, _, _, _, rfl, b, fun _ => 0, rfl, sm.free nb, upd_same, fun _ h => absurd h (Nat.not_lt_zero _), fun _ _ h => absurd h (Nat.not_lt_zero _), fun _ _ h => by simp at h⟩, sm.trans (new_same nb)⟩
      | row a ws =>
        refine ⟨_, rfl, rfl, _, rfl, iteF' (eqs (show ¬ ("row" : Str) = "table" by decide)) ?_⟩
        refine ⟨_, rfl, _, rfl, rfl, _, rfl, iteT' qt ?_⟩
        refine ⟨_, rfl, rfl, _, rfl, iteT' (decide_eq_true rfl) ?_⟩
        obtain ⟨i, tb, c1, c2, c3, c4, _⟩ := id can
        have en : rowsN (xs k) n = some tb.rows := by
          unfold rowsN
          rw [show tabNamed (xs k) n = some tb by rw [← q, ← c2]; exact named_of okk.nd c1]
          rfl
        have rn : rowsN (xs (k + 1)) n = some (tb.rows ++ [⟨ws, (xs k).deeds.length, none⟩]) := rn.trans ((if_pos q).trans (by rw [en]; rfl))
        rw [en] at fa
        rw [rn]
        obtain ⟨aw, rfl, haw⟩ := hw0
        obtain ⟨fa0, mr', rfl, f2, f3, f4, f5, f6⟩ := fa
        refine ⟨_, rfl, .inl ⟨rfl, _, SqL.of f3⟩, _, rfl, (by show 2 ≤ sizeLine; decide), fun b nb => ?_⟩
        have jb := new_same (o := .lst [.ref aw, .bl true]) nb
        have lr : ((List.range tb.rows.length).map fun k => V.ref (mr' k)).length = tb.rows.length := by rw [List.length_map, List.length_range]
        refine ⟨fa0, _, _, rfl, rfl, jb _ _ f3, by rw [lr, sizeLine_eq]; omega, ?_⟩
        have nba : b ≠ fa0 := fun z => by rw [z, f3] at nb; cases nb
        refine ⟨⟨_, _, _, _, rfl, fa0, fun j => if j = tb.rows.length then b else mr' j, rfl, f2, ?_, fun j hj => ?_, fun i j hi hj e => ?_, fun j r hr => ?_⟩, ?_⟩
        · rw [upd_same, List.length_append, List.length_singleton, List.range_succ, List.map_append]
          congr 3
          · refine List.map_congr_left fun j hj => ?_
            rw [List.mem_range] at hj
            dsimp only
            rw [if_neg (by omega)]
          · simp
        · rw [List.length_append, List.length_singleton] at hj
          dsimp only
          by_cases z : j = tb.rows.length
          · rw [if_pos z]
            exact sm.free nb
          · rw [if_neg z]
            exact f4 j (by omega)
        · rw [List.length_append, List.length_singleton] at hi hj
          dsimp only at e
          have nr : ∀ j, j < tb.rows.length → mr' j ≠ b := fun j hj z => by
            obtain ⟨b0, g1, _⟩ := f6 j _ (List.getElem?_eq_getElem hj)
            rw [z, nb] at g1
            cases g1
          by_cases zi : i = tb.rows.length
          · by_cases zj : j = tb.rows.length
            · omega
            · rw [if_pos zi, if_neg zj] at e
              exact absurd e.symm (nr j (by omega))
          · by_cases zj : j = tb.rows.length
            · rw [if_neg zi, if_pos zj] at e
              exact absurd e (nr i (by omega))
            · rw [if_neg zi, if_neg zj] at e
              exact f5 i j (by omega) (by omega) e
        · rcases snoc_at hr with ⟨z, g⟩ | ⟨z, rfl⟩
          · obtain ⟨b0, g1, g2⟩ := f6 j r g
            refine ⟨b0, ?_, g2⟩
            dsimp only
            rw [if_neg (by omega), upd_ne (ne_of g1 f3 (fun y => refs_bl y))]
            exact jb _ _ g1
          · refine ⟨aw, ?_, haw⟩
            dsimp only
            rw [if_pos z, upd_ne nba]
            exact upd_same
        · exact own_same f2 (sm.trans jb)
      | out a kk =>
        refine ⟨_, rfl, rfl, _, rfl, iteF' (eqs (show ¬ ("out" : Str) = "table" by decide)) ?_⟩
        refine ⟨_, rfl, _, rfl, rfl, _, rfl, iteT' qt ?_⟩
        refine ⟨_, rfl, rfl, _, rfl, iteF' (eqs (show ¬ ("out" : Str) = "row" by decide)) ?_⟩
        refine ⟨_, rfl, _, rfl, rfl, _, rfl, iteT' qt ?_⟩
        obtain ⟨i, tb, r0, c1, c2, c3, c4, _⟩ := id can
        have en : rowsN (xs k) n = some tb.rows := by
          unfold rowsN
          rw [show tabNamed (xs k) n = some tb by rw [← q, ← c2]; exact named_of okk.nd c1]
          rfl
        have rn : rowsN (xs (k + 1)) n = some (tb.rows.set kk ⟨r0.ws, r0.put, some (xs k).deeds.length⟩) := rn.trans ((if_pos q).trans (by rw [en]; show some (tb.rows.set kk _) = _; rw [List.getD_eq_getElem?_getD, c3]; rfl))
        rw [en] at fa
        rw [rn]
        obtain rfl := hw0
        obtain ⟨fa0, mr', rfl, f2, f3, f4, f5, f6⟩ := fa
        have lk : kk < tb.rows.length := (List.getElem?_eq_some_iff.mp c3).1
        obtain ⟨b0, g1, g2⟩ := f6 kk r0 c3
        refine ⟨_, rfl, _, rfl, fa0, _, _, .ref (mr' kk), rfl, rfl, SqL.of f3, atI_nat (j := kk) (by rw [List.getElem?_map, List.getElem?_range lk]; rfl), mr' kk, _, 1, 1, rfl, rfl, g1, rfl, ?_⟩
        have nm : fa0 ≠ mr' kk := ne_of f3 g1 (fun y => refs_bl y.symm)
        refine ⟨⟨_, _, _, _, rfl, fa0, mr', rfl, f2, ?_, fun j hj => f4 j (by rw [List.length_set] at hj; exact hj), fun i j hi hj e => f5 i j (by rw [List.length_set] at hi; exact hi) (by rw [List.length_set] at hj; exact hj) e, fun j r hr => ?_⟩, own_same (f4 kk lk) sm⟩
        · rw [upd_ne nm, List.length_set]
          exact f3
        · by_cases z : kk = j
          · subst z
            rw [List.getElem?_set_self lk] at hr
            cases hr
            exact ⟨b0, upd_same, g2⟩
          · rw [List.getElem?_set_ne z] at hr
            obtain ⟨b1, h1, h2⟩ := f6 j r hr
            refine ⟨b1, ?_, h2⟩
            rw [upd_ne (fun y => z (f5 kk j lk (List.getElem?_eq_some_iff.mp hr).1 y.symm))]
            exact h1
    · have qf := eqs q
      have rn : rowsN (xs (k + 1)) n = rowsN (xs k) n := by
        rw [rn]
        cases d with
        | table a cs => exact if_neg q
        | row a ws => exact if_neg q
        | out a kk => exact if_neg q
      refine ⟨_, rfl, _, rfl, rfl, _, rfl, iteF' qf (iteF ?_)⟩
      refine ⟨_, rfl, _, rfl, rfl, _, rfl, iteF' qf (iteF ?_)⟩
      refine ⟨_, rfl, _, rfl, rfl, _, rfl, iteF' qf ?_⟩
      rw [rn]
      exact ⟨⟨_, _, _, _, rfl, keep fun _ _ e => e⟩, sm⟩
  rintro σ G ⟨⟨v3, x4, x5, x6, rfl, fa⟩, sm⟩
  rw [lus] at fa
  have sH : Same H G := jD.trans sm
  cases et : tabNamed (xs M) n with
  | none =>
    have en : rowsN (xs M) n = none := by unfold rowsN; rw [et]; rfl
    rw [en] at fa
    obtain rfl := fa
    exact ⟨_, rfl, rfl, _, rfl, iteT' rfl (q1 et G sH)⟩
  | some u =>
    have en : rowsN (xs M) n = some u.rows := by unfold rowsN; rw [et]; rfl
    rw [en] at fa
    obtain ⟨fa0, mr', rfl, f2, f3, f4, f5, f6⟩ := fa
    have lr : ((List.range u.rows.length).map fun k => V.ref (mr' k)).length = u.rows.length := by rw [List.length_map, List.length_range]
    obtain ⟨iu, hiu, _⟩ := named_at et
    have um := List.mem_of_getElem? hiu
    have l60 := (ok M mN).rows u um
    have wsz := (ch.sized M mN u um).2
    refine ⟨_, rfl, rfl, _, rfl, iteF' (by simp) ?_⟩
    refine ⟨_, rfl, fa0, _, rfl, .inl (SqL.of f3), _, rfl, by omega, by rw [lr]; omega, fun R nR => ?_⟩
    rw [lr]
    refine lc_it (upto (n := u.rows.length)) (fun k G3 => Same G G3 ∧ ∃ vs', G3 R = some (.lst vs') ∧ DpAll K G3 vs' (liveD u k)) ⟨new_same nR, [], upd_same, .nil⟩ (fun _ _ _ _ => trivial) ?_ ?_
    · rintro k wv G3 G4 hk ⟨s3, vs', eR, dA⟩ ⟨rfl, rfl⟩
      have hr : u.rows[k]? = some u.rows[k] := List.getElem?_eq_getElem hk
      obtain ⟨b, g1, g2⟩ := f6 k _ hr
      have hb : SqT K G4 b (u.rows[k].ws.map V.int) := Tups.of_same (sm.trans s3) _ _ g2
      have lv : vs'.length ≤ 60 := by
        rw [DpAll.len dA]
        have := liveD_len u k
        omega
      have at1 : atI ((List.range u.rows.length).map fun k => V.ref (mr' k)) ((k : Nat) : Int) = some (.ref (mr' k)) := atI_nat (by rw [List.getElem?_map, List.getElem?_range hk]; rfl)
      refine ⟨rfl, ?_⟩
      refine ⟨_, rfl, _, rfl, fa0, _, _, _, rfl, rfl, SqL.of (s3 _ _ f3), at1, mr' k, _, 1, _, rfl, rfl, SqL.of (s3 _ _ g1), atI_nat (j := 1) rfl, _, rfl, ?_⟩
      rw [live_succ u k _ hr]
      by_cases z : u.rows[k].out.isNone = true
      · rw [if_pos z]
        refine iteT' z ?_
        refine ⟨_, rfl, _, rfl, _, rfl, fa0, _, _, _, rfl, rfl, SqL.of (s3 _ _ f3), at1, mr' k, _, 0, _, rfl, rfl, SqL.of (s3 _ _ g1), atI_nat (j := 0) rfl, (by show 2 ≤ sizeLine; decide), fun t nt => ?_⟩
        have jt := new_same (o := .tup [.int ((k : Nat) : Int), .ref b]) nt
        have eR1 := jt _ _ eR
        have dr : Dp K (upd G4 t (.tup [.int ((k : Nat) : Int), .ref b])) (.ref t) (.tuple [.int ((k : Nat) : Int), .tuple (u.rows[k].ws.map PyData.int)]) := .tup (SqT.of upd_same) (.cons (.int _) (.cons (.tup (Tups.of_same jt _ _ hb) (dp_ints _)) .nil))
        have dA1 := DpAll.same jt _ dA
        have s4 := s3.trans jt
        generalize upd G4 t (.tup [.int ((k : Nat) : Int), .ref b]) = G5 at eR1 dr dA1 s4 ⊢
        have tp : Tups K G5 (upd G5 R (.lst (vs' ++ [.ref t]))) := .upd_lst eR1
        refine ⟨_, eR1, by rw [sizeLine_eq]; omega, own_same nR s4, _, upd_same, ?_⟩
        exact DpAll.snoc (DpAll.tups tp _ (live_only u k fun r hr => by have := (wsz r hr).1; omega) dA1) (Dp.tups tp _ (row_only (by have := (wsz _ (List.getElem_mem hk)).1; omega)) dr)
      · rw [if_neg z]
        exact iteF' z ⟨s3, vs', eR, dA⟩
    rintro G3 ⟨s3, vs', eR, dA⟩
    exact q2 u et R vs' G3 (sH.trans s3) ((sH).free nR) eR dA
theorem ok_tc (F : Fun K "_law_told_columns" "_law_told_columns" sTc f fd) : FnOk P w K mg base CX0 1 f fd ["_law_deeds", "_law_title"] (spTc K) := by
  refine F.ok scTc (fun vs H Q E h => ?_) (fun cdv A outer s H vs Q E hr h => ?_)
  · obtain ⟨D, us, ds, n, cs, rfl, _⟩ := h
    rfl
  obtain ⟨D, us, ds, n, cs, rfl, hD, hds, l1, ⟨j0, hj0⟩, un, q⟩ := h
  have nd := scTc.nd
  have hu := Nat.lt_of_succ_lt (hu_of hr)
  refine ⟨_, pss_one (ps_ret (pe_ix ix_list (pe_lc (own := [("_law_word", 2), ("_law_called", 3), ("_law_rest", 4)]) (g := gTup K 3 (gCons (gName 2) (gCons (gName 3) (gCons (gName 4) gNil)))) rfl nd (pi_list (pv 0)) (blkOk_by (N := nTc) (sc := defScope sTc) (by decide +kernel)) (fun _ _ _ _ _ => pg_tup rfl (pgs_cons (pg_name (i := 2) nd rfl (Or.inl rfl)) (pgs_cons (pg_name (i := 3) nd rfl (Or.inl rfl)) (pgs_cons (pg_name (i := 4) nd rfl (Or.inl rfl)) pgs_nil)))) (fun _ _ _ _ _ => (pts_one (PW.pt (pw_and (pt_cmpR op_eq (pv 2) pe_str (nomark _)) (pw_and1 (pt_cmpR op_eq (pv 3) (pv 1) (nomark _))))))) (fun _ _ _ _ _ => (pv 4))) pe_int (fun _ _ => rfl))), ?_⟩
  have ldu : us.length = ds.length := hds.length
  refine ⟨_, rfl, D, rfl, ⟨_, SqL.of hD⟩, fun R nR => ?_⟩
  refine lc_list (K := K) (a := D) (xs := us) (fun k G => Same H G ∧ ∃ zs, G R = some (.lst zs) ∧ zs.length ≤ k ∧ (∀ z ∈ zs, ∃ a, z = .ref a ∧ SqT K H a (cs.map V.str)) ∧ (j0 < k → zs ≠ [])) ⟨new_same nR, [], upd_same, Nat.le_refl _, (fun _ h => nomatch h), fun h => absurd h (Nat.not_lt_zero _)⟩ (fun k G _ y => SqL.of (y.1 _ _ hD)) ?_ ?_
  · rintro k y G hy ⟨sm, zs, eR, lz, hz, ne⟩
    obtain ⟨d, ed, t, rfl, hd⟩ := K07t.each_at hds hy
    obtain ⟨wv, ht0, hw0⟩ := hd
    have ht := Tups.of_same sm _ _ ht0
    have hk := (List.getElem?_eq_some_iff.mp ed).1
    have eqs : ∀ {u v : Str}, ¬ u = v → ¬ decide (V.str u = V.str v) = true := fun n => by rw [decide_eq_true_eq]; exact fun z => n (V.str.inj z)
    have skip : (∀ cs', d ≠ .table n cs') → Same H G ∧ ∃ zs, G R = some (.lst zs) ∧ zs.length ≤ k + 1 ∧ (∀ z ∈ zs, ∃ a, z = .ref a ∧ SqT K H a (cs.map V.str)) ∧ (j0 < k + 1 → zs ≠ []) := fun no => by
      refine ⟨sm, zs, eR, by omega, hz, fun h => ne ?_⟩
      have : j0 ≠ k := fun z => by subst z; rw [ed] at hj0; exact no cs (Option.some.inj hj0)
      omega
    refine ⟨t, _, rfl, ht, rfl, _, _, rfl, _, _, rfl, _, _, rfl, rfl, ?_⟩
    refine ⟨rfl, ?_⟩
    cases d with
    | table a cs' =>
      refine ⟨_, rfl, rfl, _, rfl, iteT' (decide_eq_true rfl) ?_⟩
      refine ⟨_, rfl, _, rfl, rfl, _, rfl, ?_⟩
      by_cases q : a = n
      · subst q
        obtain rfl := un k cs' ed
        obtain ⟨ac, rfl, hac⟩ := hw0
        refine iteT' (decide_eq_true rfl) ?_
        refine ⟨_, rfl, zs, eR, by rw [sizeLine_eq]; omega, own_same nR sm, _, upd_same, by rw [List.length_append, List.length_singleton]; omega, fun z hz' => ?_, fun _ => by simp⟩
        rcases List.mem_append.mp hz' with m | m
        · exact hz z m
        · rw [List.mem_singleton.mp m]
          exact ⟨ac, rfl, hac⟩
      · exact iteF' (eqs q) (skip fun cs'' z => by cases z; exact q rfl)
    | row a ws =>
      refine ⟨_, rfl, rfl, _, rfl, iteF' (eqs (show ¬ ("row" : Str) = "table" by decide)) (iteF ?_)⟩
      exact skip fun _ z => nomatch z
    | out a kk =>
      refine ⟨_, rfl, rfl, _, rfl, iteF' (eqs (show ¬ ("out" : Str) = "table" by decide)) (iteF ?_)⟩
      exact skip fun _ z => nomatch z
  rintro G ⟨sm, zs, eR, lz, hz, ne⟩
  have j1 := (List.getElem?_eq_some_iff.mp hj0).1
  cases zs with
  | nil => exact absurd rfl (ne (by omega))
  | cons z zs =>
    obtain ⟨a, rfl, ha⟩ := hz z (List.mem_cons_self ..)
    exact ⟨R, _, 0, _, rfl, rfl, SqL.of eR, atI_nat (j := 0) rfl, q a G sm (Tups.of_same sm _ _ ha)⟩
end
end K07
end

section
set_option Elab.async false
set_option linter.all false
set_option maxRecDepth 100000
set_option maxHeartbeats 4000000
/-! a history: deeds drawn, done on tables and in the law's model. -/
namespace K07
open PySem PySem.Spec PyProof.Rows L2 Gd K07t
abbrev sHi : Stmt := topS 54
abbrev nHi : List Str := ["_law_pen_here", "_law_tables", "_law_many", "_law_state", "_law_found", "_law_k", "_law_deed_here"]
theorem scHi : FnScope nHi ["_law_pen_here", "_law_tables", "_law_many"] (defScope sHi) := ⟨rfl, rfl, rfl, by decide +kernel, rfl, by decide +kernel, by decide +kernel⟩
/-- tables, model, pen and the list of deeds, beside one another -/
structure HiSt (K : PySem.W.Frag) (C : Addr) (H0 : Hp) (F0 : Addr → Prop) (H : Hp) (l c p M D : Addr) (S : Int) (us : List V) (ds : List Deed) (xs : Nat → Shelf) (F G : Addr → Prop) : Prop where
  ch : Chain ds xs
  pen : Pen H l c S
  sh : ShelfF K C H p (xs ds.length) F
  md : ModF K H M (xs ds.length).tabs G
  dl : H D = some (.lst us)
  de : DeedsAt K H us ds
  fg : ∀ q, F q → ¬ G q
  fl : ¬ F l ∧ ¬ F c ∧ ¬ F D
  gl : ¬ G l ∧ ¬ G c ∧ ¬ G D
  ne : D ≠ l ∧ D ≠ c
  off : ∀ b o, H0 b = some o → ¬ F0 b → b ≠ l → H b = some o ∧ ¬ F b ∧ ¬ G b ∧ b ≠ D
section
variable {K : PySem.W.Frag} {C : Addr} {H H' H2 : Hp} {l c p M D : Addr} {S S' : Int} {us : List V} {ds : List Deed} {xs : Nat → Shelf} {F G F' G' F0 : Addr → Prop} {H0 : Hp}
theorem HiSt.ex1 (s : HiSt K C H0 F0 H l c p M D S us ds xs F G) (pn : Pen H' l c S') (x : Ex1 l H H') : HiSt K C H0 F0 H' l c p M D S' us ds xs F G := by
  have tp : Tups K H H' := ex1_pen s.pen x
  exact ⟨s.ch, pn, s.sh.keep tp fun b o hb e => x b o (fun z => s.fl.1 (by rw [← z]; exact hb)) e, s.md.ex1 s.pen x s.gl.1, x _ _ s.ne.1 s.dl, s.de.tups tp, s.fg, s.fl, s.gl, s.ne, fun b o e n nl => ⟨x _ _ nl (s.off b o e n nl).1, (s.off b o e n nl).2⟩⟩
theorem HiSt.same (s : HiSt K C H0 F0 H l c p M D S us ds xs F G) (x : Same H H') : HiSt K C H0 F0 H' l c p M D S us ds xs F G :=
  ⟨s.ch, s.pen.same x, s.sh.same x, s.md.same x, x _ _ s.dl, s.de.tups (Tups.of_same x), s.fg, s.fl, s.gl, s.ne, fun b o e n nl => ⟨x _ _ (s.off b o e n nl).1, (s.off b o e n nl).2⟩⟩
theorem pen_after {F F' : Addr → Prop} (h : Pen H l c S) (a : After H F H' F') (nl : ¬ F l) (nc : ¬ F c) : Pen H' l c S := by
  obtain ⟨ns, t, ov, el, ec, z⟩ := h
  exact ⟨ns, t, ov, a.off _ _ nl el, a.off _ _ nc ec, z⟩
theorem pen_here (h : Pen H l c S) : (∃ o, H l = some o) ∧ ∃ o, H c = some o := by
  obtain ⟨ns, t, ov, el, ec, z⟩ := h
  exact ⟨⟨_, el⟩, _, ec⟩
/-- a deed done here and there, and noted -/
theorem HiSt.done (s : HiSt K C H0 F0 H l c p M D S us ds xs F G) {d : Deed} {y : Shelf} {t : Addr} (dok : DeedOk d) (can : Can (xs ds.length) d y) (hd : DeedAt K H t d)
    (sh : ShelfF K C H' p { y with deeds := (xs ds.length).deeds ++ [d] } F') (a1 : After H F H' F') (md : ModF K H2 M y.tabs G') (a2 : After H' G H2 G') :
    ∃ us', HiSt K C H0 F0 (upd H2 D (.lst (us ++ [.ref t]))) l c p M D S (us ++ [.ref t]) (ds ++ [d]) us' F' G' := by
  have old : ∀ {q o}, H q = some o → ¬ F q → ¬ F' q := fun {q o} e n h => by
    rcases a1.new q h with z | z
    · exact n z
    · rw [e] at z
      cases z
  have old2 : ∀ {q o}, H' q = some o → ¬ G q → ¬ G' q := fun {q o} e n h => by
    rcases a2.new q h with z | z
    · exact n z
    · rw [e] at z
      cases z
  obtain ⟨⟨ol, hl⟩, ⟨oc, hc⟩⟩ := pen_here s.pen
  have md1 : ModF K H' M (xs ds.length).tabs G := s.md.keep (After.tups s.sh a1) fun b o hb e => a1.off b o (fun z => s.fg b z hb) e
  have f'g : ∀ q, F' q → ¬ G q := fun q h g => by
    obtain ⟨o, e⟩ := s.md.here g
    exact old e (fun z => s.fg q z g) h
  have tp1 : Tups K H H' := After.tups s.sh a1
  have tp2 : Tups K H' H2 := md1.tups a2
  have D1 := a1.off _ _ s.fl.2.2 s.dl
  have D2 := a2.off _ _ s.gl.2.2 D1
  have tp3 : Tups K H2 (upd H2 D (.lst (us ++ [.ref t]))) := .upd_lst D2
  have nFD := old s.dl s.fl.2.2
  have nGD := old2 D1 s.gl.2.2
  have fl := old hl s.fl.1
  have fc := old hc s.fl.2.1
  have sh2 : ShelfF K C H2 p { y with deeds := (xs ds.length).deeds ++ [d] } F' := sh.keep tp2 fun b o hb e => a2.off b o (f'g b hb) e
  have ll : (ds ++ [d]).length = ds.length + 1 := by rw [List.length_append, List.length_singleton]
  have tb : ({ y with deeds := (xs ds.length).deeds ++ [d] } : Shelf).tabs = y.tabs := rfl
  refine ⟨_, s.ch.snoc dok can, pen_upd (pen_after (pen_after s.pen a1 s.fl.1 s.fl.2.1) a2 s.gl.1 s.gl.2.1) D2 s.ne.1 s.ne.2, ?_, ?_, upd_same, ?_, fun q h g => ?_, ⟨fl, fc, nFD⟩, ⟨old2 (a1.off _ _ s.fl.1 hl) s.gl.1, old2 (a1.off _ _ s.fl.2.1 hc) s.gl.2.1, nGD⟩, s.ne, fun b o e n nl => ?_⟩
  · rw [ll, if_pos rfl]
    exact sh2.keep tp3 fun b o hb e => by rw [upd_ne (fun z => nFD (by rw [← z]; exact hb))]; exact e
  · rw [ll, if_pos rfl]
    exact md.keep tp3 fun b o hb e => by rw [upd_ne (fun z => nGD (by rw [← z]; exact hb))]; exact e
  · exact K07t.each_snoc ((s.de.tups tp1).tups (tp2.trans tp3)) ⟨t, rfl, hd.tups (tp1.trans (tp2.trans tp3))⟩
  · rcases a2.new q g with z | z
    · exact f'g q h z
    · obtain ⟨o, e⟩ := sh.here h
      rw [e] at z
      cases z
  · obtain ⟨e1, e2, e3, e4⟩ := s.off b o e n nl
    have f1 := a1.off _ _ e2 e1
    have f2 := a2.off _ _ e3 f1
    exact ⟨by rw [upd_ne e4]; exact f2, old e1 e2, old2 f1 e3, e4⟩
end
theorem dueL_head (x : Shelf) (d : Deed) : ∃ w0 rest, dueL x d = V.str w0 :: rest := by
  cases d with
  | table n cs =>
    simp only [dueL]
    split
    · exact ⟨_, _, rfl⟩
    · split <;> exact ⟨_, _, rfl⟩
  | row n ws =>
    simp only [dueL]
    split
    · exact ⟨_, _, rfl⟩
    · split
      · exact ⟨_, _, rfl⟩
      · split <;> exact ⟨_, _, rfl⟩
  | out n k =>
    simp only [dueL]
    split
    · exact ⟨_, _, rfl⟩
    · split <;> exact ⟨_, _, rfl⟩
def spHi (K : PySem.W.Frag) (C : Addr) : Sp := fun vs H Q _ => ∃ (l c p : Addr) (S : Int) (m : Nat) (F : Addr → Prop), vs = [.ref l, .ref p, .int ((m : Nat) : Int)] ∧ Pen H l c S ∧ S ≤ 70000 ∧ m ≤ 100 ∧ ShelfF K C H p ⟨[], []⟩ F ∧ ¬ F l ∧ ¬ F c ∧
  ∀ (H' : Hp) (D : Addr) (us : List V) (ds : List Deed) (xs : Nat → Shelf) (F' : Addr → Prop), Chain ds xs → ds.length ≤ m → H' D = some (.lst us) → DeedsAt K H' us ds → ShelfF K C H' p (xs ds.length) F' → ¬ F' l ∧ ¬ F' c ∧ ¬ F' D → D ≠ l ∧ D ≠ c → Pen H' l c (S + 30 * (m : Int)) → (∀ b o, H b = some o → ¬ F b → b ≠ l → H' b = some o) → Q (.ref D) H'
section
variable {P : Program} {w : World} {K : PySem.W.Frag} {mg : Str → Option Value} {base : Heap} {f fD fU fW C : Addr} {fd dD dU dW : FuncData}
theorem ok_hi (F : Fun K "_law_history" "_law_history" sHi f fd) (T : TxtT K mg C) (mr : mg "range" = none) (MD : Mt P w K mg base C "do" ["self", "deed"] CX0 4 (spDo K C))
    (FD : Fun K "_law_deed" "_law_deed" sDd fD dD) (GD : FnOk P w K mg base CX0 3 fD dD ["_law_pen_here", "_law_state"] (spDd K)) (gD : mg "_law_deed" = some (.ref fD)) (bD : Binds K dD ["_law_pen_here", "_law_state"] [])
    (FU : Fun K "_law_due" "_law_due" sLDue fU dU) (GU : FnOk P w K mg base CX0 3 fU dU ["_law_state", "_law_doing"] (spLDue K)) (gU : mg "_law_due" = some (.ref fU)) (bU : Binds K dU ["_law_state", "_law_doing"] [])
    (FW : Fun K "_law_follow" "_law_follow" sFollow fW dW) (GW : FnOk P w K mg base CX0 2 fW dW ["_law_state", "_law_doing"] (spFollow K)) (gW : mg "_law_follow" = some (.ref fW)) (bW : Binds K dW ["_law_state", "_law_doing"] []) :
    FnOk P w K mg base CX0 5 f fd ["_law_pen_here", "_law_tables", "_law_many"] (spHi K C) := by
  refine F.ok scHi (fun vs H Q E h => ?_) (fun cdv A outer s H vs Q E hr h => ?_)
  · obtain ⟨l, c, p, S, m, F, rfl, _⟩ := h
    rfl
  obtain ⟨l, c, p, S, m, FF, rfl, hP, hS, m1, hSh, nFl, nFc, q⟩ := h
  have nd := scHi.nd
  obtain ⟨fM, dM, mM, GM, bM⟩ := MD.ex
  refine ⟨_, pss_cons (ps_set (i := 3) nd rfl (by first | exact .inl rfl | exact .inr rfl) (pe_lst pa_nil))
      (pss_cons (ps_set (i := 4) nd rfl (by first | exact .inl rfl | exact .inr rfl) (pe_lst pa_nil))
      (pss_cons (ps_for PassesOwn.never rfl (pi_range1 (by rfl) mr (pa_cons (pv 2) pa_nil)) (pg_name (i := 5) nd rfl (.inl rfl))
      (pss_cons (ps_set (i := 6) nd rfl (by first | exact .inl rfl | exact .inr rfl) (pe_call GD (hr.mono (by decide)) (by rfl) gD FD.kp bD .nil pass0 (pa_cons (pv 0) (pa_cons (pv 3) pa_nil))))
      (pss_one (ps_if (pt_cmpR op_eq (pe_ix ix_tup (pe_call GU (hr.mono (by decide)) (by rfl) gU FU.kp bU .nil pass0 (pa_cons (pv 3) (pa_cons (pv 6) pa_nil))) pe_int (fun _ _ => rfl)) pe_str (nomark _))
        (pss_cons (ps_expr (pe_meth (pv 1) T.cl mM GM hr bM .nil pass0 (pa_cons (pv 6) pa_nil)))
      (pss_cons (ps_expr (pe_call GW (hr.mono (by decide)) (by rfl) gW FW.kp bW .nil pass0 (pa_cons (pv 3) (pa_cons (pv 6) pa_nil))))
      (pss_one (ps_expr (pe_bm PySem.F.plainAttrs_list PySem.F.slot_list_append PySem.F.type_list_append mt_append (pv 4) (pa_cons (pv 6) pa_nil)))))) pss_nil))))
      (pss_one (ps_ret (pv 4))))), ?_⟩
  refine ⟨Nat.zero_le _, fun M nM => ?_⟩
  have j1 := new_same (o := .lst []) nM
  have eM : upd H M (.lst []) M = some (.lst []) := upd_same
  generalize upd H M (.lst []) = H1 at j1 eM ⊢
  refine ⟨Nat.zero_le _, fun D nD => ?_⟩
  have j2 := new_same (o := .lst []) nD
  have eD : upd H1 D (.lst []) D = some (.lst []) := upd_same
  have eM2 := j2 _ _ eM
  have j12 := j1.trans j2
  have nDM : M ≠ D := ne_of_none eM nD
  generalize upd H1 D (.lst []) = H2 at j2 eD eM2 j12 ⊢
  have nDl := (hP.not (j1.free nD))
  have nMl := (hP.not nM)
  have st0 : HiSt K C H FF H2 l c p M D S [] [] (fun _ => ⟨[], []⟩) FF (fun q => q = M) := by
    refine ⟨⟨rfl, fun k d h => by simp at h⟩, hP.same j12, hSh.same j12, ⟨fun _ => 0, fun _ => 0, fun _ _ => 0, ⟨eM2, fun i t h => by simp at h, fun i t h => by simp at h, fun i t k r h => by simp at h, fun i h => absurd h (Nat.not_lt_zero _), fun i j h => absurd h (Nat.not_lt_zero _), fun i k j m t u h => by simp at h, fun i j k t h => absurd h (Nat.not_lt_zero _)⟩, fun q => ⟨fun z => .inl z, fun z => ?_⟩⟩, eD, .nil, fun q h g => ?_, ⟨nFl, nFc, fun h => ?_⟩, ⟨nMl.1.symm, nMl.2.symm, fun z => nDM z.symm⟩, nDl, fun b o e n nl => ⟨j12 _ _ e, n, ne_of_none e nM, ne_of_none e (j1.free nD)⟩⟩
    · rcases z with z | ⟨i, h, _⟩ | ⟨i, t, k, h, _⟩
      · exact z
      · exact absurd h (Nat.not_lt_zero _)
      · simp at h
    · obtain ⟨o, e⟩ := hSh.here h
      rw [g, nM] at e
      cases e
    · obtain ⟨o, e⟩ := hSh.here h
      rw [j1.free nD] at e
      cases e
  refine ⟨_, rfl, _, rfl, by omega, by omega, ?_⟩
  refine for_it (upto (n := m)) (fun k σ G => ∃ us ds xs F' G' x5 x6, σ = [some (.ref l), some (.ref p), some (.int ((m : Nat) : Int)), some (.ref M), some (.ref D), x5, x6] ∧ ds.length ≤ k ∧ HiSt K C H FF G l c p M D (S + 30 * (k : Int)) us ds xs F' G') ⟨[], [], _, _, _, none, none, rfl, Nat.le_refl _, by
    rw [show S + 30 * ((0 : Nat) : Int) = S by omega]
    exact st0⟩ (fun _ _ _ _ _ => trivial) ?_ ?_
  · rintro k y σ G G0 hk ⟨us, ds, xs, F', G', x5, x6, rfl, lk, st⟩ ⟨rfl, rfl⟩
    have ok := st.ch.ok (by omega) ds.length (Nat.le_refl _)
    have neat : Neat (xs ds.length) := fun t ht => ((st.ch.sized ds.length (Nat.le_refl _)) t ht).1.four
    refine ⟨_, rfl, _, rfl, l, c, M, S + 30 * ((k : Nat) : Int), xs ds.length, G', rfl, st.pen, by omega, st.md, ok, neat, st.gl.1, fun t d H3 hd dok p3 x3 => ?_⟩
    have st3 := st.ex1 p3 x3
    refine ⟨_, rfl, _, rfl, M, t, xs ds.length, G', d, rfl, st3.md, ok, hd, dok, fun r H4 s4 hr4 => ?_⟩
    have st4 := st3.same s4
    have hd4 := hd.tups (Tups.of_same s4)
    have e0 : ∃ w0 rest, dueL (xs ds.length) d = V.str w0 :: rest := dueL_head _ _
    obtain ⟨w0, rest, e0⟩ := e0
    rw [e0] at hr4
    refine ⟨r, _, 0, _, rfl, rfl, hr4, atI_nat (j := 0) rfl, rfl, _, rfl, ?_⟩
    have nxt : S + 30 * ((k : Nat) : Int) + 30 = S + 30 * ((k + 1 : Nat) : Int) := by omega
    rw [nxt] at st4
    by_cases z : w0 = "told"
    · refine iteT' (by rw [z]; exact decide_eq_true rfl) ?_
      obtain ⟨y, can⟩ := due_can (x := xs ds.length) (d := d) (by rw [e0, z]; rfl)
      have l4 : (xs ds.length).deeds.length < 4000 := by rw [st.ch.len _ (Nat.le_refl _)]; omega
      have insP : ∃ dx fs, H4 p = some (.ins C dx fs) ∧ fs.lookup ("do" : Str) = none := by
        obtain ⟨dx, a, b, c', d', ds', ca, rl, Si, hF⟩ := st4.sh
        exact ⟨dx, _, Si.ins, sf_no (by decide)⟩
      obtain ⟨dx, fs, ip, nf⟩ := insP
      refine ⟨_, rfl, p, dx, fs, rfl, ip, nf, _, rfl, p, t, xs ds.length, y, F', d, rfl, st4.sh, ok, l4, hd4, dok, can, fun H5 F5 v sh5 a5 => ?_⟩
      have md5 : ModF K H5 M (xs ds.length).tabs G' := st4.md.keep (After.tups st4.sh a5) fun b o hb e => a5.off b o (fun z => st4.fg b z hb) e
      refine ⟨_, rfl, _, rfl, M, t, xs ds.length, y, G', d, rfl, md5, ok, hd4.tups (After.tups st4.sh a5), can, fun H6 G6 md6 a6 => ?_⟩
      have D5 := a5.off _ _ st4.fl.2.2 st4.dl
      have D6 := a6.off _ _ st4.gl.2.2 D5
      have lus : us.length = ds.length := st4.de.length
      obtain ⟨xs', st7⟩ := st4.done dok can hd4 sh5 a5 md6 a6
      refine ⟨_, rfl, .inl ⟨rfl, _, SqL.of D6⟩, _, rfl, D, _, _, rfl, rfl, D6, by rw [sizeLine_eq]; omega, ?_⟩
      exact ⟨_, _, xs', F5, G6, _, _, rfl, by rw [List.length_append, List.length_singleton]; omega, st7⟩
    · refine iteF' (by rw [decide_eq_true_eq]; exact fun y => z (V.str.inj y)) ?_
      exact ⟨us, ds, xs, F', G', _, _, rfl, by omega, st4⟩
  · rintro σ G ⟨us, ds, xs, F', G', x5, x6, rfl, lk, st⟩
    exact ⟨_, rfl, q G D us ds xs F' st.ch lk st.dl st.de st.sh st.fl st.ne st.pen fun b o e n nl => (st.off b o e n nl).1⟩
end
end K07
end

section
set_option Elab.async false
set_option linter.all false
set_option maxRecDepth 100000
set_option maxHeartbeats 4000000
/-! tables behind a history; what is heard of them. -/
namespace K07
open PySem PySem.Spec PyProof.Rows L2 Gd K07t LamX
/-- tables and their deeds, as they stand -/
structure Fz (K : PySem.W.Frag) (C : Addr) (H : Hp) (p D : Addr) (us : List V) (ds : List Deed) (xs : Nat → Shelf) (F : Addr → Prop) : Prop where
  ch : Chain ds xs
  len : ds.length ≤ 100
  sh : ShelfF K C H p (xs ds.length) F
  dl : H D = some (.lst us)
  de : DeedsAt K H us ds
theorem tups_ext {K : PySem.W.Frag} {H H' : Hp} (e : ExtN H H') : Tups K H H' := fun b xs z => by
  rcases z with (z | ⟨o, z⟩) | z
  · exact .inl (.inl (e _ _ z (fun _ y => nomatch y)))
  · exact .inl (.inr ⟨o, e _ _ z (fun _ y => nomatch y)⟩)
  · exact .inr z
theorem seq_ext {K : PySem.W.Frag} {H H' : Hp} (e : ExtN H H') {a : Addr} {xs : List V} (z : SqL K H a xs) : SqL K H' a xs := by
  rcases z with (z | ⟨o, z⟩) | z
  · exact .inl (.inl (e _ _ z (fun _ y => nomatch y)))
  · exact .inl (.inr ⟨o, e _ _ z (fun _ y => nomatch y)⟩)
  · exact .inr z
mutual
theorem dp_ext {K : PySem.W.Frag} {H H' : Hp} (e : ExtN H H') : ∀ {d : PyData} {v : V}, Dp K H v d → Dp K H' v d
  | _, _, .non => .non
  | _, _, .bl b => .bl b
  | _, _, .int i => .int i
  | _, _, .str x => .str x
  | _, _, .lst h g => .lst (seq_ext e h) (dps_ext e g)
  | _, _, .tup h g => .tup (tups_ext e _ _ h) (dps_ext e g)
theorem dps_ext {K : PySem.W.Frag} {H H' : Hp} (e : ExtN H H') : ∀ {ds : List PyData} {vs : List V}, DpAll K H vs ds → DpAll K H' vs ds
  | _, _, .nil => .nil
  | _, _, .cons a b => .cons (dp_ext e a) (dps_ext e b)
end
section
variable {K : PySem.W.Frag} {C : Addr} {H H' G : Hp} {p D : Addr} {us : List V} {ds : List Deed} {xs : Nat → Shelf} {F : Addr → Prop}
theorem Fz.ext (f : Fz K C H p D us ds xs F) (e : ExtN H H') : Fz K C H' p D us ds xs F := by
  refine ⟨f.ch, f.len, f.sh.keep (tups_ext e) fun b o hb hB => e b o hB fun ps z => ?_, e _ _ f.dl (fun _ z => nomatch z), f.de.tups (tups_ext e)⟩
  subst z
  rcases f.sh.kind hb with ⟨_, _, y⟩ | ⟨_, y⟩ | ⟨_, y⟩ <;> (rw [hB] at y; cases y)
theorem Fz.same (f : Fz K C H p D us ds xs F) (s : Same H H') : Fz K C H' p D us ds xs F := f.ext (ExtN.of s)
theorem Fz.ex1 {H0 : Hp} {l c : Addr} {S : Int} (f : Fz K C H p D us ds xs F) (pn : Pen H0 l c S) (j : Same H H0) (x : Ex1 l H0 H') (nF : ¬ F l) (nD : D ≠ l) : Fz K C H' p D us ds xs F := by
  have tp : Tups K H0 H' := ex1_pen pn x
  exact ⟨f.ch, f.len, (f.sh.same j).keep tp fun b o hb e => x b o (fun z => nF (by rw [← z]; exact hb)) e, x _ _ nD (j _ _ f.dl), (f.de.tups (Tups.of_same j)).tups tp⟩
theorem Fz.ok (f : Fz K C H p D us ds xs F) : ShelfOk (xs ds.length) := f.ch.ok (by have := f.len; omega) _ (Nat.le_refl _)
theorem Fz.ins (f : Fz K C H p D us ds xs F) : ∃ dx fs, H p = some (.ins C dx fs) ∧ ∀ n : Str, (["_deeds", "_columns", "_made", "_rows"] : List Str).contains n = false → fs.lookup n = none := by
  obtain ⟨dx, a, b, c', d', ds', ca, rl, Si, hF⟩ := f.sh
  exact ⟨dx, _, Si.ins, fun n h => sf_no h⟩
end
/-- the table of a name at a moment -/
def seenT (ds : List Deed) (xs : Nat → Shelf) (m : Nat) (n : Str) : Option Tab := if m ≤ ds.length then tabNamed (xs m) n else none
theorem see_cases {ds : List Deed} {xs : Nat → Shelf} (ch : Chain ds xs) (l : ds.length ≤ 4000) {o : Option Nat} {m : Nat} (ho : (xs ds.length).mo o = m) (n : Str) :
    (∃ u, seenT ds xs m n = some u ∧ (∃ i t, Sees (xs ds.length) n o i t) ∧ ∀ i t, Sees (xs ds.length) n o i t → Ago m u t) ∨ (seenT ds xs m n = none ∧ ∀ i t, ¬ Sees (xs ds.length) n o i t) := by
  have ln := ch.len ds.length (Nat.le_refl _)
  by_cases hm : m ≤ ds.length
  · have el : Elder m (xs m) (xs ds.length) := by
      have := ch.elder l (m := m) (ds.length - m) (by omega)
      rwa [show m + (ds.length - m) = ds.length by omega] at this
    cases e : tabNamed (xs m) n with
    | none => exact .inr ⟨by unfold seenT; rw [if_pos hm, e], el.blind ho e⟩
    | some u =>
      obtain ⟨i, t, h1, h2, h3⟩ := el.sees (ch.past m hm) (ch.len m hm) ho (by omega) (ch.ok l _ (Nat.le_refl _)).nd e
      exact .inl ⟨u, by unfold seenT; rw [if_pos hm, e], ⟨i, t, h1⟩, fun i' t' z => by rw [h3 i' t' z]; exact h2⟩
  · exact .inr ⟨by unfold seenT; rw [if_neg hm], fun i t z => by have := z.2.2.1; rw [ho, ln] at this; omega⟩
/-- what is heard of a table, as data -/
def rowsO (n : Str) : Option Tab → PyData
  | none => .tuple [.str "unknown", .str n]
  | some u => .tuple [.str "told", .list (liveD u u.rows.length)]
def colsO (n : Str) : Option Tab → PyData
  | none => .tuple [.str "unknown", .str n]
  | some u => .tuple [.str "told", .tuple (u.cols.map PyData.str)]
/-- what is heard, as it stands behind a heap -/
def RowsAtT (K : PySem.W.Frag) (G G' : Hp) (t : Addr) (n : Str) : Option Tab → Prop
  | none => G' t = some (.tup [.str "unknown", .str n])
  | some u => ∃ R vs, G R = none ∧ G' R = some (.lst vs) ∧ DpAll K G' vs (liveD u u.rows.length) ∧ G' t = some (.tup [.str "told", .ref R])
def ColsAtT (K : PySem.W.Frag) (G' : Hp) (t : Addr) (n : Str) : Option Tab → Prop
  | none => G' t = some (.tup [.str "unknown", .str n])
  | some u => ∃ R, SqT K G' R (u.cols.map V.str) ∧ G' t = some (.tup [.str "told", .ref R])
theorem dp_strs {K : PySem.W.Frag} {H : Hp} : ∀ ws : List Str, DpAll K H (ws.map V.str) (ws.map PyData.str)
  | [] => .nil
  | w :: ws => .cons (.str w) (dp_strs ws)
theorem RowsAtT.dp {K : PySem.W.Frag} {G G' : Hp} {t : Addr} {n : Str} {o : Option Tab} (h : RowsAtT K G G' t n o) : Dp K G' (.ref t) (rowsO n o) := by
  cases o with
  | none => exact .tup (SqT.of h) (.cons (.str _) (.cons (.str _) .nil))
  | some u =>
    obtain ⟨R, vs, _, e1, e2, e3⟩ := h
    exact .tup (SqT.of e3) (.cons (.str _) (.cons (.lst (SqL.of e1) e2) .nil))
theorem ColsAtT.dp {K : PySem.W.Frag} {G' : Hp} {t : Addr} {n : Str} {o : Option Tab} (h : ColsAtT K G' t n o) : Dp K G' (.ref t) (colsO n o) := by
  cases o with
  | none => exact .tup (SqT.of h) (.cons (.str _) (.cons (.str _) .nil))
  | some u =>
    obtain ⟨R, e1, e3⟩ := h
    exact .tup (SqT.of e3) (.cons (.str _) (.cons (.tup e1 (dp_strs _)) .nil))
section
variable {K : PySem.W.Frag} {C : Addr} {H H' G : Hp} {p D : Addr} {us : List V} {ds : List Deed} {xs : Nat → Shelf} {F : Addr → Prop} {cs : Nat → Addr} {n : Str} {o : Option Nat} {m : Nat} {tl : XK → Hp → VK → Prop} {R : VK}
theorem heard_rows (f : Fz K C G p D us ds xs F) (lab : isLab n = true) (ho : (xs ds.length).mo o = m) (htl : ∀ Ech Q', spRowsX K C (cs 4) [.ref p, .str n, momV o] G Q' Ech → tl Ech G Q')
    (k : ∀ (t : Addr) (G' : Hp), Same G G' → RowsAtT K G G' t n (seenT ds xs m n) → R (.ref t) G') : TBoth K cs tl G R := by
  rcases see_cases f.ch (by have := f.len; omega) ho n with ⟨u, e1, ⟨i0, t0, h0⟩, h⟩ | ⟨e1, h⟩
  · rw [e1] at k
    refine .inr fun Q' hQ => htl _ _ ⟨p, _, F, n, o, rfl, f.sh, f.ok, lab, fun i t hs G' L vs s nL eL dA => ?_, fun bl => absurd h0 (bl i0 t0)⟩
    rw [ho, (h i t hs).told] at dA
    refine hQ _ _ fun b nb => ?_
    have jb := new_same (o := .tup [.str "told", .ref L]) nb
    exact k b _ (s.trans jb) ⟨L, vs, nL, jb _ _ eL, DpAll.same jb _ dA, upd_same⟩
  · rw [e1] at k
    refine .inl ⟨4, .str n, fun Qn => htl _ _ ⟨p, _, F, n, o, rfl, f.sh, f.ok, lab, fun i t hs => absurd hs (h i t), fun _ dd G' s e => ⟨⟨rfl, by decide, .inr ⟨by decide, dd, rfl, e⟩⟩, fun G'' s2 b nb => ?_⟩⟩⟩
    exact k b _ ((s.trans s2).trans (new_same nb)) upd_same
theorem heard_cols (f : Fz K C G p D us ds xs F) (lab : isLab n = true) (ho : (xs ds.length).mo o = m) (htl : ∀ Ech Q', spColumnsX K C (cs 4) [.ref p, .str n, momV o] G Q' Ech → tl Ech G Q')
    (k : ∀ (t : Addr) (G' : Hp), Same G G' → ColsAtT K G' t n (seenT ds xs m n) → R (.ref t) G') : TBoth K cs tl G R := by
  rcases see_cases f.ch (by have := f.len; omega) ho n with ⟨u, e1, ⟨i0, t0, h0⟩, h⟩ | ⟨e1, h⟩
  · rw [e1] at k
    refine .inr fun Q' hQ => htl _ _ ⟨p, _, F, n, o, rfl, f.sh, f.ok, lab, fun i t hs G' a s ha => ?_, fun bl => absurd h0 (bl i0 t0)⟩
    rw [(h i t hs).cols] at ha
    refine hQ _ _ fun b nb => ?_
    have jb := new_same (o := .tup [.str "told", .ref a]) nb
    exact k b _ (s.trans jb) ⟨a, Tups.of_same jb _ _ ha, upd_same⟩
  · rw [e1] at k
    refine .inl ⟨4, .str n, fun Qn => htl _ _ ⟨p, _, F, n, o, rfl, f.sh, f.ok, lab, fun i t hs => absurd hs (h i t), fun _ dd G' s e => ⟨⟨rfl, by decide, .inr ⟨by decide, dd, rfl, e⟩⟩, fun G'' s2 b nb => ?_⟩⟩⟩
    exact k b _ ((s.trans s2).trans (new_same nb)) upd_same
end
/-! ### sizes -/
theorem lab_pl {x : Str} (h : isLab x = true) : Szg.Pl x := by
  unfold isLab at h
  simp only [Bool.and_eq_true, decide_eq_true_eq, List.all_eq_true] at h
  obtain ⟨⟨l1, l8⟩, al⟩ := h
  have key : (("abcdefghijklmnopqrstuvwxyz" : Str).cps.toList.all fun c => decide (c < 128)) = true := by decide +kernel
  refine ⟨fun c hc => ?_, by omega⟩
  exact of_decide_eq_true (List.all_eq_true.mp key c (al c hc))
theorem word_pl : Szg.Pl "unknown" ∧ Szg.Pl "told" := by
  have key : ∀ s : Str, (s.cps.toList.all fun c => decide (c < 128)) = true → s.length ≤ 30 → Szg.Pl s := fun s a b => ⟨fun c hc => of_decide_eq_true (List.all_eq_true.mp a c hc), b⟩
  exact ⟨key _ (by decide +kernel) (by decide +kernel), key _ (by decide +kernel) (by decide +kernel)⟩
open Szg in
theorem sm_row {k : Nat} {ws : List Int} (hk : k ≤ 1000) (l : ws.length ≤ 4) (w : WsOk ws) : Sm 1070 2 (.tuple [.int ((k : Nat) : Int), .tuple (ws.map PyData.int)]) := by
  have e30 : (10 : Nat) ^ 30 ≤ 10 ^ 62 := by decide
  have all : Sms ((212 + 1) * (ws.map PyData.int).length) 0 (ws.map PyData.int) := Sms.all fun d hd => by
    obtain ⟨i, hi, rfl⟩ := List.mem_map.mp hd
    have := w i hi
    exact sm_int (Nat.le_trans (show i.natAbs ≤ 10 ^ 30 by omega) e30)
  have l2 : (ws.map PyData.int).length ≤ 4 := by rw [List.length_map]; exact l
  have t := all.tup
  have kz : ((k : Nat) : Int).natAbs ≤ 10 ^ 62 := Nat.le_trans (show ((k : Nat) : Int).natAbs ≤ 1000 by omega) (by decide)
  have := (Sms.cons ((sm_int kz).mono (Nat.le_refl _) (Nat.zero_le 1)) (Sms.cons t Sms.nil)).tup
  exact this.mono (by omega) (Nat.le_refl _)
open Szg in
theorem sm_rows {u : Tab} (l : u.rows.length ≤ 60) (w : ∀ r ∈ u.rows, r.ws.length ≤ 4 ∧ WsOk r.ws) : Sm 64400 3 (.list (liveD u u.rows.length)) := by
  have all : Sms ((1070 + 1) * (liveD u u.rows.length).length) 2 (liveD u u.rows.length) := Sms.all fun d hd => by
    unfold liveD at hd
    obtain ⟨p, hp, rfl⟩ := List.mem_map.mp hd
    have hp := (List.mem_filter.mp hp).1
    have m := List.mem_of_mem_take (List.fst_mem_of_mem_zipIdx hp)
    have i := List.snd_lt_of_mem_zipIdx hp
    rw [List.length_take] at i
    exact sm_row (by omega) (w _ m).1 (w _ m).2
  have := liveD_len u u.rows.length
  exact all.lst.mono (by omega) (Nat.le_refl _)
open Szg in
theorem sm_unk {n : Str} (h : isLab n = true) : Sm 100 1 (.tuple [.str "unknown", .str n]) := (Sms.cons (sm_str word_pl.1) (Sms.cons (sm_str (lab_pl h)) Sms.nil)).tup.mono (by decide) (Nat.le_refl _)
open Szg in
theorem sm_rowsO {ds : List Deed} {xs : Nat → Shelf} (ch : Chain ds xs) (l4 : ds.length ≤ 4000) {n : Str} (h : isLab n = true) (m : Nat) : Sm 65000 4 (rowsO n (seenT ds xs m n)) := by
  cases e : seenT ds xs m n with
  | none => exact (sm_unk h).mono (by decide) (by decide)
  | some u =>
    unfold seenT at e
    by_cases hm : m ≤ ds.length
    · rw [if_pos hm] at e
      obtain ⟨i, hi, _⟩ := named_at e
      have mem := List.mem_of_getElem? hi
      exact (Sms.cons ((sm_str word_pl.2).mono (Nat.le_refl _) (Nat.zero_le 3)) (Sms.cons (sm_rows ((ch.ok l4 m hm).rows u mem) (ch.sized m hm u mem).2) Sms.nil)).tup.mono (by decide) (Nat.le_refl _)
    · rw [if_neg hm] at e
      cases e
open Szg in
theorem sm_colsO {ds : List Deed} {xs : Nat → Shelf} (ch : Chain ds xs) {n : Str} (h : isLab n = true) (m : Nat) : Sm 300 2 (colsO n (seenT ds xs m n)) := by
  cases e : seenT ds xs m n with
  | none => exact (sm_unk h).mono (by decide) (by decide)
  | some u =>
    unfold seenT at e
    by_cases hm : m ≤ ds.length
    · rw [if_pos hm] at e
      obtain ⟨i, hi, _⟩ := named_at e
      have co := (ch.sized m hm u (List.mem_of_getElem? hi)).1
      have all : Sms ((30 + 1) * (u.cols.map PyData.str).length) 0 (u.cols.map PyData.str) := Sms.all fun d hd => by
        obtain ⟨c, hc, rfl⟩ := List.mem_map.mp hd
        exact sm_str (lab_pl (co.lab c hc))
      have l2 : (u.cols.map PyData.str).length ≤ 4 := by rw [List.length_map]; exact co.four
      have := (Sms.cons ((sm_str word_pl.2).mono (Nat.le_refl _) (Nat.zero_le 1)) (Sms.cons all.tup Sms.nil)).tup
      exact this.mono (by omega) (Nat.le_refl _)
    · rw [if_neg hm] at e
      cases e
open Szg in
/-- both, in a list -/
theorem sm_both {ds : List Deed} {xs : Nat → Shelf} (ch : Chain ds xs) (l4 : ds.length ≤ 4000) {n : Str} (h : isLab n = true) (m : Nat) : Sm 66000 5 (.list [rowsO n (seenT ds xs m n), colsO n (seenT ds xs m n)]) :=
  (Sms.cons (sm_rowsO ch l4 h m) (Sms.cons ((sm_colsO ch h m).mono (Nat.le_refl _) (by decide)) Sms.nil)).lst.mono (by decide) (Nat.le_refl _)
end K07
end

section
set_option Elab.async false
set_option linter.all false
set_option maxRecDepth 100000
set_option maxHeartbeats 4000000
/-! o.m(e, .., k = v, ..) and o.m(k = v, ..), f(k = v, ..): keyword-only parameters among them. -/
namespace Gd
open PySem PySem.Spec PyProof.Rows L2
section
variable {X : Cx} {cx : CXT} {k n : Nat} {C f : Addr} {fd : FuncData} {ps ks : List Str} {sp : Sp} {E : XK} {m : Str} {o e : Expr} {es : List Expr} {apos pos : Pos} {kws : List Keyword} {ta : TE} {t tk : TA}
  {g : List Value → List Value → List Value} {gV : List V → List V → List V}
def tMethN (C : Addr) (m : Str) (n l : Nat) (sp : Sp) (gV : List V → List V → List V) (E : XK) (ta : TE) (t tk : TA) : TE := fun σ H Q => ta σ H fun x H1 => ∃ a dx fs, x = .ref a ∧ H1 a = some (.ins C dx fs) ∧ fs.lookup m = none ∧
  t σ H1 fun vs H2 => tk σ H2 fun zs H3 => vs.length = n ∧ zs.length = l ∧ sp (gV (.ref a :: vs) zs) H3 Q E
theorem pe_methN {pl : Sem Bool} (he : PE X o ta) (c : Cls X.K C) (hm : Meth X.K C m f) (F : FnOk X.prog X.w X.K X.mg X.base cx k f fd ps sp) (hr : Room k X.A) (hb : KBn X.K fd ps (n + 1) ks g gV) (hx : Passes cx X E) (ha : PA X (e :: es) t) (hkw : PK X kws tk)
    (hall : (backToKw pos (keywordEach kws X.env)).all (·.1.isSome) = true := by rfl) (hks : (backToKw pos (keywordEach kws X.env)).filterMap (·.1) = ks := by rfl)
    (hst : starEach (e :: es) X.env = (false, eval e X.env) :: starEach es X.env := by rfl)
    (hpl : ((backTo pos (starEach (e :: es) X.env)).any (·.1) || (backToKw pos (keywordEach kws X.env)).any (·.1.isNone)) = false := by rfl)
    (ht : eval (.Call (.Attribute o m apos) (e :: es) kws pos) X.env = (do
      let it ← eval o X.env
      standAt apos.atName
      let (q, ahead) ← holding [it] (getMethod it m pl)
      callWith pos q ahead (backTo pos (starEach (e :: es) X.env)) (backToKw pos (keywordEach kws X.env))) := by rfl) :
    PE X (.Call (.Attribute o m apos) (e :: es) kws pos) (tMethN C m n ks.length sp gV E ta t tk) := by
  constructor
  intro pins s σ H Q I h
  refine PySem.W.methodCall_KW (pl := pl) (thn (he.run pins s σ H _ I h) ?_) ht
  rintro u s1 ⟨x, H1, J, rx, a, dx, fs, rfl, ea, l, q⟩
  obtain rfl : u = Value.ref a := rx
  refine getmeth_ok J ea c hm l ?_
  refine PySem.W.callWith_KW (first := [.ref a]) (h₀ := X.base) J.ok.mod.kin hm.kp hall (thn (ha.run pos pins s1 σ H1 _ J q) ?_) hpl hst
  rintro us s2 ⟨vs, H2, J2, r, q2⟩
  refine thn (hkw.run pos pins s2 σ H2 _ J2 q2) fun ws s3 ⟨zs, H3, J3, rz, l1, l2, q3⟩ => ⟨J3.kIn, ?_⟩
  rw [hks]
  exact run_fnN (us := .ref a :: us) (vs := .ref a :: vs) F hr hb hx J3 (.cons rfl r) rz (by rw [List.length_cons, l1]) l2 q3
/-- o.m(k = v, ..) -/
def tMethN0 (C : Addr) (m : Str) (l : Nat) (sp : Sp) (gV : List V → List V → List V) (E : XK) (ta : TE) (tk : TA) : TE := fun σ H Q => ta σ H fun x H1 => ∃ a dx fs, x = .ref a ∧ H1 a = some (.ins C dx fs) ∧ fs.lookup m = none ∧
  tk σ H1 fun zs H3 => zs.length = l ∧ sp (gV [.ref a] zs) H3 Q E
theorem pe_methN0 {pl : Sem Bool} (he : PE X o ta) (c : Cls X.K C) (hm : Meth X.K C m f) (F : FnOk X.prog X.w X.K X.mg X.base cx k f fd ps sp) (hr : Room k X.A) (hb : KBn X.K fd ps 1 ks g gV) (hx : Passes cx X E) (hkw : PK X kws tk)
    (hall : (backToKw pos (keywordEach kws X.env)).all (·.1.isSome) = true := by rfl) (hks : (backToKw pos (keywordEach kws X.env)).filterMap (·.1) = ks := by rfl)
    (hpl : ((backTo pos (starEach [] X.env)).any (·.1) || (backToKw pos (keywordEach kws X.env)).any (·.1.isNone)) = false := by rfl)
    (ht : eval (.Call (.Attribute o m apos) [] kws pos) X.env = (do
      let it ← eval o X.env
      standAt apos.atName
      let (q, ahead) ← holding [it] (getMethod it m pl)
      callWith pos q ahead (backTo pos (starEach [] X.env)) (backToKw pos (keywordEach kws X.env))) := by rfl) :
    PE X (.Call (.Attribute o m apos) [] kws pos) (tMethN0 C m ks.length sp gV E ta tk) := by
  constructor
  intro pins s σ H Q I h
  refine PySem.W.methodCall_KW (pl := pl) (thn (he.run pins s σ H _ I h) ?_) ht
  rintro u s1 ⟨x, H1, J, rx, a, dx, fs, rfl, ea, l, q⟩
  obtain rfl : u = Value.ref a := rx
  refine getmeth_ok J ea c hm l ?_
  refine PySem.W.callWith_KW0 (first := [.ref a]) (h₀ := X.base) J.ok.mod.kin hm.kp hall (thn (hkw.run pos pins s1 σ H1 _ J q) ?_) hpl
  rintro ws s2 ⟨zs, H2, J2, rz, q2⟩
  refine ⟨J2.kIn, ?_⟩
  rw [hks]
  exact run_fnN (us := [.ref a]) (vs := [.ref a]) F hr hb hx J2 (.cons rfl .nil) rz rfl q2.1 q2.2
end
end Gd
end

section
set_option Elab.async false
set_option linter.all false
set_option maxRecDepth 100000
set_option maxHeartbeats 4000000
/-! rows and columns of a name at a moment. -/
namespace K07
open PySem PySem.Spec PyProof.Rows L2 Gd K07t LamX
abbrev sNr : Stmt := topS 55
abbrev nNr : List Str := ["_law_tables", "_law_deeds", "_law_title", "_law_when", "_law_due_rows", "_law_due_here", "_law_again", "_law_found", "_law_more"]
theorem scNr : FnScope nNr ["_law_tables", "_law_deeds", "_law_title", "_law_when"] (defScope sNr) := ⟨rfl, rfl, rfl, by decide +kernel, rfl, by decide +kernel, by decide +kernel⟩
abbrev sNw : Stmt := topS 56
abbrev nNw : List Str := ["_law_tables", "_law_deeds", "_law_title", "_law_due_here"]
theorem scNw : FnScope nNw ["_law_tables", "_law_deeds", "_law_title"] (defScope sNw) := ⟨rfl, rfl, rfl, by decide +kernel, rfl, by decide +kernel, by decide +kernel⟩
def qNr : Str := (envOfC "_law_name_right" (defScope sNr) 0 0 .none).qual ++ "<lambda>"
def qNw : Str := (envOfC "_law_now_right" (defScope sNw) 0 0 .none).qual ++ "<lambda>"
def tabs2 (P1 P2 : Addr) : List (Addr × Str) := [(P1, qNr), (P2, qNw)]
/-- a method that takes its moment by name, none, or both by names -/
structure Mt3 (P : Program) (w : World) (K : PySem.W.Frag) (mg : Str → Option Value) (base : Heap) (C : Addr) (m : Str) (cx : CXT) (k : Nat) (sp : Sp) : Prop where
  ex : ∃ (f : Addr) (fd : FuncData) (g1 g3 : List Value → List Value → List Value) (dv : List Value), Meth K C m f ∧ FnOk P w K mg base cx k f fd ["self", "name", "moment"] sp ∧ KBn K fd ["self", "name", "moment"] 2 ["moment"] g1 (fun vs zs => vs ++ zs) ∧
    (Vals [.non] dv ∧ Binds K fd ["self", "name", "moment"] dv) ∧ KBn K fd ["self", "name", "moment"] 1 ["moment", "name"] g3 (fun vs zs => vs ++ zs.reverse)
def spNr (K : PySem.W.Frag) (C P1 P2 : Addr) : Sp := fun vs H Q _ => ∃ (p D : Addr) (us : List V) (ds : List Deed) (xs : Nat → Shelf) (F : Addr → Prop) (n : Str) (m : Nat), vs = [.ref p, .ref D, .str n, .int ((m : Nat) : Int)] ∧ Fz K C H p D us ds xs F ∧ isLab n = true ∧ Tabs (tabs2 P1 P2) H ∧ ∀ H', ExtN H H' → Tabs (tabs2 P1 P2) H' → Q (.bl true) H'
def spNw (K : PySem.W.Frag) (C P1 P2 : Addr) : Sp := fun vs H Q _ => ∃ (p D : Addr) (us : List V) (ds : List Deed) (xs : Nat → Shelf) (F : Addr → Prop) (n : Str), vs = [.ref p, .ref D, .str n] ∧ Fz K C H p D us ds xs F ∧ isLab n = true ∧ Tabs (tabs2 P1 P2) H ∧ ∀ H', ExtN H H' → Tabs (tabs2 P1 P2) H' → Q (.bl true) H'
theorem tabs_by {T : List (Addr × Str)} {H H1 : Hp} (t : Tabs T H) (k : ∀ b o, H b = some o → (∀ xs, o ≠ .lst xs) → H1 b = some o) : Tabs T H1 := fun q hq => by
  obtain ⟨ps, h1, h2, h3⟩ := t q hq
  refine ⟨ps, k _ _ h1 (fun _ z => nomatch z), h2, fun pos cv hc => ?_⟩
  obtain ⟨c, e1, e2⟩ := h3 pos cv hc
  exact ⟨c, e1, k _ _ e2 (fun _ z => nomatch z)⟩
section
variable {P : Program} {w : World} {K : PySem.W.Frag} {mg : Str → Option Value} {base : Heap} {f g c1 fRo fTc P1 P2 C : Addr} {fd dH dRo dTc : FuncData} {cs : Nat → Addr}
theorem ok_nr (F : FunC K "_law_name_right" "_law_name_right" sNr f fd c1) (TB : TabB base mg c1 P1) (nP : P1 ≠ P2) (T : TxtT K mg C) (Cx : Cls07 K mg cs) (mv : mg "ValueError" = none) (mk : mg "KeyError" = none) (mi : mg "int" = none) (mp : mg "repr" = none) (mr : mg "range" = none) (mn : mg "len" = none)
    (FH : Fun K "_law_heard" "_law_heard" sHeard g dH) (gH : mg "_law_heard" = some (.ref g)) (bH : Binds K dH ["_law_ask"] [])
    (MR : Mt3 P w K mg base C "rows" (L2.CX P w) 5 (spRowsX K C (cs 4))) (MC : Mt3 P w K mg base C "columns" (L2.CX P w) 5 (spColumnsX K C (cs 4)))
    (FRo : Fun K "_law_rows" "_law_rows" sRo fRo dRo) (GRo : FnOk P w K mg base CX0 1 fRo dRo ["_law_deeds", "_law_title", "_law_when"] (spRo K)) (gRo : mg "_law_rows" = some (.ref fRo)) (bRo : Binds K dRo ["_law_deeds", "_law_title", "_law_when"] [])
    (FTc : Fun K "_law_told_columns" "_law_told_columns" sTc fTc dTc) (GTc : FnOk P w K mg base CX0 1 fTc dTc ["_law_deeds", "_law_title"] (spTc K)) (gTc : mg "_law_told_columns" = some (.ref fTc)) (bTc : Binds K dTc ["_law_deeds", "_law_title"] []) :
    FnG P w K mg base CX0 8 f fd ["_law_tables", "_law_deeds", "_law_title", "_law_when"] (spNr K C P1 P2) := by
  refine okCG F scNr (fun vs H Q E h => ?_) (fun A outer s H vs Q E hg hr h => ?_)
  · obtain ⟨p, D, us, ds, xs, F, n, m, rfl, _⟩ := h
    rfl
  obtain ⟨p, D, us, ds, xs, FF, n, m, rfl, hF, lab, hT, q⟩ := h
  have nd := scNr.nd
  have r1 : Room 1 _ := hr.mono (by decide)
  obtain ⟨fR, dR, gR1, gR3, dvR, mR, GR, kR1, ⟨dR2, kR2⟩, kR3⟩ := MR.ex
  obtain ⟨fC, dC, gC1, gC3, dvC, mC, GC, kC1, ⟨dC2, kC2⟩, kC3⟩ := MC.ex
  obtain ⟨oc, od, kV, doc, pm, an, cdv, ct, osl, edH, lk, hcg⟩ := FH.ex
  subst edH
  have hU : ∀ q ∈ tabs2 P1 P2, q.1 = P1 → q.2 = qNr := fun q hq e => by
    simp only [tabs2, List.mem_cons, List.not_mem_nil, or_false] at hq
    rcases hq with rfl | rfl
    · rfl
    · exact absurd e.symm nP
  refine ⟨_, C8.pss_cut (ps_set (i := 4) nd rfl (by first | exact .inl rfl | exact .inr rfl) (pe_call GRo r1 (by rfl) gRo FRo.kp bRo .nil pass0 (pa_cons (pv 1) (pa_cons (pv 2) (pa_cons (pv 3) pa_nil)))))
    (pss_cons (ps_set (i := 5) nd rfl (by first | exact .inl rfl | exact .inr rfl) (pe_lst (pa_cons (pe_tup (pa_cons pe_str (pa_cons (pv 2) pa_nil))) (pa_cons (pe_tup (pa_cons pe_str (pa_cons (pv 2) pa_nil))) pa_nil))))
    (C8.pss_cut (ps_if (PW.pt (pw_and (pt_cmpR op_notN (pv 4) pe_non (nomark _)) (pw_and1 (pt_cmpR op_le (pv 3) (pe_callB call_len_seq (by rfl) mn PySem.boot_len (pa_cons (pv 1) pa_nil)) (nomark _)))))
        (pss_one (ps_set (i := 5) nd rfl (by first | exact .inl rfl | exact .inr rfl) (pe_lst (pa_cons (pe_tup (pa_cons pe_str (pa_cons (pv 4) pa_nil))) (pa_cons (pe_tup (pa_cons pe_str (pa_cons (pe_call GTc r1 (by rfl) gTc FTc.kp bTc .nil pass0 (pa_cons (pv 1) (pa_cons (pv 2) pa_nil))) pa_nil))) pa_nil))))) pss_nil)
    (pss_cons (ps_for PassesOwn.never rfl (pi_range1 (by rfl) mr (pa_cons pe_int pa_nil)) (pg_name (i := 6) nd rfl (.inl rfl))
      (pss_cons (ps_set (i := 7) nd rfl (by first | exact .inl rfl | exact .inr rfl) (pe_lamcall (T := tabs2 P1 P2) (TT := TBoth K cs) (a := "_law_ask") (k := 5) (P := P1) (Ng := nHeard) (by rfl) gH FH.kp lk hcg bH scHeard rfl (.inl rfl) (heard_both Cx mv mk mi) TB rfl (List.mem_cons_self) hU hr (lamS_by (by show lamSB (defScope sNr) _ = true; decide +kernel)) rfl (fun _ _ _ _ _ => rfl)
        (fun A outer s H E f c' hr' => (pe_methN (pv 0) T.cl mR GR hr' kR1 passLam (pa_cons (pv 2) pa_nil) (pk_cons (pv 3) pk_nil)))))
      (pss_cons (ps_set (i := 8) nd rfl (by first | exact .inl rfl | exact .inr rfl) (pe_lamcall (T := tabs2 P1 P2) (TT := TBoth K cs) (a := "_law_ask") (k := 5) (P := P1) (Ng := nHeard) (by rfl) gH FH.kp lk hcg bH scHeard rfl (.inl rfl) (heard_both Cx mv mk mi) TB rfl (List.mem_cons_self) hU hr (lamS_by (by show lamSB (defScope sNr) _ = true; decide +kernel)) rfl (fun _ _ _ _ _ => rfl)
        (fun A outer s H E f c' hr' => (pe_methN (pv 0) T.cl mC GC hr' kC1 passLam (pa_cons (pv 2) pa_nil) (pk_cons (pv 3) pk_nil)))))
      (pss_cons (ps_if (pt_cmpR op_ne (pe_callB (call_repr hg hr.units) (by rfl) mp (by decide +kernel) (pa_cons (pe_lst (pa_cons (pv 7) (pa_cons (pv 8) pa_nil))) pa_nil)) (pe_callB (call_repr hg hr.units) (by rfl) mp (by decide +kernel) (pa_cons (pv 5) pa_nil)) (nomark _))
        (pss_one (ps_ret pe_bl)) pss_nil)
      (pss_one (ps_if (pt_cmpR op_eq (pe_ix ix_tup (pv 7) pe_int (fun _ _ => rfl)) pe_str (nomark _))
        (pss_cons (ps_expr (pe_bm0 PySem.F.plainAttrs_list PySem.F.slot_list_reverse PySem.F.type_list_reverse mt_reverse (pe_ix ix_tup (pv 7) pe_int (fun _ _ => rfl))))
      (pss_one (ps_expr (pe_bm PySem.F.plainAttrs_list PySem.F.slot_list_append PySem.F.type_list_append mt_append (pe_ix ix_tup (pv 7) pe_int (fun _ _ => rfl)) (pa_cons pe_non pa_nil))))) pss_nil))))))
    (pss_one (ps_ret pe_bl))))), ?_⟩
  have l100 := hF.len
  have ldu : us.length = ds.length := hF.de.length
  have eqs : ∀ {u v : Str}, ¬ u = v → ¬ decide (V.str u = V.str v) = true := fun n => by rw [decide_eq_true_eq]; exact fun z => n (V.str.inj z)
  refine ⟨fun σ' H' => ∃ v4 : V, σ' = [some (.ref p), some (.ref D), some (.str n), some (.int ((m : Nat) : Int)), some v4, none, none, none, none] ∧ Same H H' ∧ ((v4 = .non ∧ seenT ds xs m n = none) ∨ ∃ R vs u, v4 = .ref R ∧ H' R = some (.lst vs) ∧ DpAll K H' vs (liveD u u.rows.length) ∧ tabNamed (xs (min m ds.length)) n = some u), ?_, ?_⟩
  · refine ⟨_, rfl, _, rfl, _, rfl, D, us, ds, xs, n, m, rfl, hF.dl, hF.de, hF.ch, by omega, fun e0 H1 s1 => ?_, fun u e0 R vs H1 s1 nR eR dA => ?_⟩
    · refine ⟨_, rfl, s1, .inl ⟨rfl, ?_⟩⟩
      unfold seenT
      by_cases hm : m ≤ ds.length
      · rw [if_pos hm]
        rwa [Nat.min_eq_left hm] at e0
      · rw [if_neg hm]
    · exact ⟨_, rfl, s1, .inr ⟨R, vs, u, rfl, eR, dA, e0⟩⟩
  rintro σ1 H1 ⟨v4, rfl, s1, h4⟩
  refine ⟨_, rfl, (by show 2 ≤ sizeLine; decide), fun t1 n1 => ⟨_, rfl, (by show 2 ≤ sizeLine; decide), fun t2 n2 => ⟨(by show 2 ≤ sizeLine; decide), fun L nL => ?_⟩⟩⟩
  have j1 := new_same (o := .tup [.str "unknown", .str n]) n1
  have j2 := new_same (o := .tup [.str "unknown", .str n]) n2
  have j3 := new_same (o := .lst [.ref t1, .ref t2]) nL
  have dU : seenT ds xs m n = none → Dp K (upd (upd (upd H1 t1 (.tup [.str "unknown", .str n])) t2 (.tup [.str "unknown", .str n])) L (.lst [.ref t1, .ref t2])) (.ref L) (.list [rowsO n (seenT ds xs m n), colsO n (seenT ds xs m n)]) := fun e => by
    rw [e]
    have u1 : Dp K (upd H1 t1 (.tup [.str "unknown", .str n])) (.ref t1) (rowsO n none) := .tup (SqT.of upd_same) (.cons (.str _) (.cons (.str _) .nil))
    have u2 : Dp K (upd (upd H1 t1 (.tup [.str "unknown", .str n])) t2 (.tup [.str "unknown", .str n])) (.ref t2) (colsO n none) := .tup (SqT.of upd_same) (.cons (.str _) (.cons (.str _) .nil))
    exact .lst (SqL.of upd_same) (.cons (Dp.same j3 _ (Dp.same j2 _ u1)) (.cons (Dp.same j3 _ u2) .nil))
  have s4 : Same H1 (upd (upd (upd H1 t1 (.tup [.str "unknown", .str n])) t2 (.tup [.str "unknown", .str n])) L (.lst [.ref t1, .ref t2])) := (j1.trans j2).trans j3
  generalize upd (upd (upd H1 t1 (.tup [.str "unknown", .str n])) t2 (.tup [.str "unknown", .str n])) L (.lst [.ref t1, .ref t2]) = H4 at dU s4 ⊢
  refine ⟨fun σ' H' => ∃ L, σ' = [some (.ref p), some (.ref D), some (.str n), some (.int ((m : Nat) : Int)), some v4, some (.ref L), none, none, none] ∧ Same H H' ∧ Dp K H' (.ref L) (.list [rowsO n (seenT ds xs m n), colsO n (seenT ds xs m n)]), ?_, ?_⟩
  · rcases h4 with ⟨rfl, e0⟩ | ⟨R, vs, u, rfl, eR, dA, e0⟩
    · refine ⟨_, rfl, rfl, _, rfl, iteF' (by simp) (iteF ?_)⟩
      exact ⟨L, rfl, s1.trans s4, dU e0⟩
    · refine ⟨_, rfl, rfl, _, rfl, iteT' (by simp) ?_⟩
      have hF4 := (hF.same s1).same s4
      refine ⟨_, rfl, _, rfl, D, _, rfl, .inl (SqL.of hF4.dl), _, _, rfl, rfl, _, rfl, ?_⟩
      rw [ldu]
      by_cases hm : m ≤ ds.length
      · have eS : seenT ds xs m n = some u := by
          unfold seenT
          rw [if_pos hm]
          rwa [Nat.min_eq_left hm] at e0
        rw [Nat.min_eq_left hm] at e0
        refine iteT' (decide_eq_true (by omega)) ?_
        refine ⟨_, rfl, (by show 2 ≤ sizeLine; decide), fun t3 n3 => ?_⟩
        have j5 := new_same (o := .tup [.str "told", .ref R]) n3
        have d3 : Dp K (upd H4 t3 (.tup [.str "told", .ref R])) (.ref t3) (rowsO n (some u)) := .tup (SqT.of upd_same) (.cons (.str _) (.cons (.lst (SqL.of (j5 _ _ (s4 _ _ eR))) (DpAll.same j5 _ (DpAll.same s4 _ dA))) .nil))
        have hF5 := hF4.same j5
        generalize upd H4 t3 (.tup [.str "told", .ref R]) = H5 at j5 d3 hF5 ⊢
        obtain ⟨j0, hj0, ed0⟩ := (hF.ch.cols (by omega) n m hm).2 u e0
        have un : ∀ (j : Nat) cs', ds[j]? = some (.table n cs') → cs' = u.cols := fun j cs' ej => by
          obtain ⟨ta, h1, h2⟩ := (hF.ch.cols (by omega) n ds.length (Nat.le_refl _)).1 j cs' (List.getElem?_eq_some_iff.mp ej).1 ej
          obtain ⟨tb, g1, g2⟩ := (hF.ch.cols (by omega) n ds.length (Nat.le_refl _)).1 j0 u.cols (List.getElem?_eq_some_iff.mp ed0).1 ed0
          rw [h1] at g1
          cases g1
          rw [← h2, g2]
        refine ⟨_, rfl, _, rfl, D, us, ds, n, u.cols, rfl, hF5.dl, hF5.de, by omega, ⟨j0, ed0⟩, un, fun tc H6 s6 hc => ⟨(by show 2 ≤ sizeLine; decide), fun t4 n4 => ⟨(by show 2 ≤ sizeLine; decide), fun L2 nL2 => ?_⟩⟩⟩
        have j7 := new_same (o := .tup [.str "told", .ref tc]) n4
        have j8 := new_same (o := .lst [.ref t3, .ref t4]) nL2
        have d4 : Dp K (upd H6 t4 (.tup [.str "told", .ref tc])) (.ref t4) (colsO n (some u)) := .tup (SqT.of upd_same) (.cons (.str _) (.cons (.tup (Tups.of_same j7 _ _ hc) (dp_strs _)) .nil))
        refine ⟨L2, rfl, ((((s1.trans s4).trans j5).trans s6).trans j7).trans j8, ?_⟩
        rw [eS]
        exact .lst (SqL.of upd_same) (.cons (Dp.same j8 _ (Dp.same j7 _ (Dp.same s6 _ d3))) (.cons (Dp.same j8 _ d4) .nil))
      · have eS : seenT ds xs m n = none := by unfold seenT; rw [if_neg hm]
        refine iteF' (by rw [decide_eq_true_eq]; omega) ?_
        exact ⟨L, rfl, s1.trans s4, dU eS⟩
  rintro σ5 H5 ⟨L5, rfl, s5, dD⟩
  obtain ⟨z1, z2, z3⟩ := (sm_both hF.ch (by omega) lab m).shown (by decide) (by decide)
  obtain ⟨dd, hdd⟩ : ∃ dd : PyData, dd = .list [rowsO n (seenT ds xs m n), colsO n (seenT ds xs m n)] := ⟨_, rfl⟩
  rw [← hdd] at dD z1 z2 z3
  have hF5 := hF.same s5
  have hT5 := hT.ext s5
  refine ⟨_, rfl, by decide, by decide, for_it (upto (n := 2)) (fun i σ G => (∃ x6 x7 x8, σ = [some (.ref p), some (.ref D), some (.str n), some (.int ((m : Nat) : Int)), some v4, some (.ref L5), x6, x7, x8]) ∧ ExtN H5 G ∧ Tabs (tabs2 P1 P2) G) ⟨⟨_, _, _, rfl⟩, ExtN.refl _, hT5⟩ (fun _ _ _ _ _ => trivial) ?_ ?_⟩
  · rintro i x σ G G0 hi ⟨⟨x6, x7, x8, rfl⟩, eG, tG⟩ ⟨rfl, rfl⟩
    refine ⟨tG, fun G3 e3 t3 => ?_⟩
    have e03 := eG.trans e3
    have hF3 := hF5.ext e03
    obtain ⟨dx, fs, ip, nf⟩ := hF3.ins
    refine heard_rows (m := m) hF3 lab (o := some m) rfl (fun Ech Q' h => ⟨_, rfl, p, dx, fs, rfl, ip, nf _ (by decide), _, rfl, _, rfl, rfl, rfl, h⟩) fun t4 G4 s4 r4 => ?_
    have t4' := t3.ext s4
    refine ⟨t4', fun G5 e5 t5 => ?_⟩
    have e35 := (ExtN.of s4).trans e5
    have hF6 := hF3.ext e35
    obtain ⟨dx2, fs2, ip2, nf2⟩ := hF6.ins
    refine heard_cols (m := m) hF6 lab (o := some m) rfl (fun Ech Q' h => ⟨_, rfl, p, dx2, fs2, rfl, ip2, nf2 _ (by decide), _, rfl, _, rfl, rfl, rfl, h⟩) fun t6 G6 s6 r6 => ?_
    have t6' := t5.ext s6
    have e36 := e35.trans (ExtN.of s6)
    refine ⟨_, rfl, _, rfl, (by show 2 ≤ sizeLine; decide), fun L7 n7 => ?_⟩
    have j7 := new_same (o := .lst [.ref t4, .ref t6]) n7
    have e46 : ExtN G4 G6 := e5.trans (ExtN.of s6)
    have e47 := e46.trans (ExtN.of j7)
    have e07 := (e03.trans e36).trans (ExtN.of j7)
    have t7 := t6'.ext j7
    have dF : Dp K (upd G6 L7 (.lst [.ref t4, .ref t6])) (.ref L7) dd := by
      rw [hdd]
      exact .lst (SqL.of upd_same) (.cons (dp_ext e47 r4.dp) (.cons (Dp.same j7 _ r6.dp) .nil))
    have dD7 := dp_ext e07 dD
    generalize upd G6 L7 (.lst [.ref t4, .ref t6]) = G7 at e47 e07 t7 dF dD7 ⊢
    refine ⟨_, dd, rfl, dF, z1, z2, z3, _, rfl, _, dd, rfl, dD7, z1, z2, z3, rfl, _, rfl, iteF' (by simp) ?_⟩
    cases eS : seenT ds xs m n with
    | none =>
      rw [eS] at r4
      have e4 := e47 _ _ (show G4 t4 = some (.tup [.str "unknown", .str n]) from r4) (fun _ z => nomatch z)
      refine ⟨_, rfl, t4, _, 0, _, rfl, rfl, SqT.of e4, atI_nat (j := 0) rfl, rfl, _, rfl, iteF' (eqs (by decide)) ?_⟩
      exact ⟨⟨_, _, _, rfl⟩, e07, t7⟩
    | some u =>
      rw [eS] at r4
      obtain ⟨R, vs, nR, eR, dA, et⟩ := r4
      have e4 := e47 _ _ et (fun _ z => nomatch z)
      have eR7 := e47 _ _ eR (fun _ z => nomatch z)
      refine ⟨_, rfl, t4, _, 0, _, rfl, rfl, SqT.of e4, atI_nat (j := 0) rfl, rfl, _, rfl, iteT' (decide_eq_true rfl) ?_⟩
      refine ⟨_, rfl, t4, _, 1, _, rfl, rfl, SqT.of e4, atI_nat (j := 1) rfl, .inl ⟨rfl, _, SqL.of eR7⟩, R, vs, rfl, rfl, eR7, ?_⟩
      have nt : t4 ≠ R := ne_of e4 eR7 (fun z => nomatch z)
      have lv : vs.length ≤ 1000 := by
        rw [DpAll.len dA]
        have h1 := liveD_len u u.rows.length
        unfold seenT at eS
        by_cases hm : m ≤ ds.length
        · rw [if_pos hm] at eS
          obtain ⟨iu, hiu, _⟩ := named_at eS
          have := (hF.ch.ok (by omega) m hm).rows u (List.mem_of_getElem? hiu)
          omega
        · rw [if_neg hm] at eS
          cases eS
      have e4r : upd G7 R (.lst vs.reverse) t4 = some (.tup [.str "told", .ref R]) := by rw [upd_ne nt]; exact e4
      refine ⟨_, rfl, t4, _, 1, _, rfl, rfl, SqT.of e4r, atI_nat (j := 1) rfl, .inl ⟨rfl, _, SqL.of upd_same⟩, R, _, _, rfl, rfl, upd_same, by rw [List.length_reverse, sizeLine_eq]; omega, ?_⟩
      refine ⟨⟨_, _, _, rfl⟩, fun b o e n => ?_, tabs_by t7 fun b o e n => ?_⟩
      · have : b ≠ R := fun z => by
          have := e03 b o e n
          rw [z, nR] at this
          cases this
        rw [upd_ne this, upd_ne this]
        exact e07 b o e n
      · have : b ≠ R := fun z => by
          rw [z, eR7] at e
          exact n _ (Option.some.inj e).symm
        rw [upd_ne this, upd_ne this]
        exact e
  · rintro σ G ⟨⟨x6, x7, x8, rfl⟩, eG, tG⟩
    exact q G ((ExtN.of s5).trans eG) tG
theorem ok_nw (F : FunC K "_law_now_right" "_law_now_right" sNw f fd c1) (TB : TabB base mg c1 P2) (nP : P1 ≠ P2) (T : TxtT K mg C) (Cx : Cls07 K mg cs) (mv : mg "ValueError" = none) (mk : mg "KeyError" = none) (mi : mg "int" = none) (mp : mg "repr" = none) (mn : mg "len" = none)
    (FH : Fun K "_law_heard" "_law_heard" sHeard g dH) (gH : mg "_law_heard" = some (.ref g)) (bH : Binds K dH ["_law_ask"] [])
    (MR : Mt3 P w K mg base C "rows" (L2.CX P w) 5 (spRowsX K C (cs 4))) (MC : Mt3 P w K mg base C "columns" (L2.CX P w) 5 (spColumnsX K C (cs 4))) :
    FnG P w K mg base CX0 8 f fd ["_law_tables", "_law_deeds", "_law_title"] (spNw K C P1 P2) := by
  refine okCG F scNw (fun vs H Q E h => ?_) (fun A outer s H vs Q E hg hr h => ?_)
  · obtain ⟨p, D, us, ds, xs, F, n, rfl, _⟩ := h
    rfl
  obtain ⟨p, D, us, ds, xs, FF, n, rfl, hF, lab, hT, q⟩ := h
  have nd := scNw.nd
  obtain ⟨fR, dR, gR1, gR3, dvR, mR, GR, kR1, ⟨dR2, kR2⟩, kR3⟩ := MR.ex
  obtain ⟨fC, dC, gC1, gC3, dvC, mC, GC, kC1, ⟨dC2, kC2⟩, kC3⟩ := MC.ex
  obtain ⟨oc, od, kV, doc, pm, an, cdv, ct, osl, edH, lk, hcg⟩ := FH.ex
  subst edH
  have hU : ∀ q ∈ tabs2 P1 P2, q.1 = P2 → q.2 = qNw := fun q hq e => by
    simp only [tabs2, List.mem_cons, List.not_mem_nil, or_false] at hq
    rcases hq with rfl | rfl
    · exact absurd e nP
    · rfl
  refine ⟨_, pss_cons (ps_set (i := 3) nd rfl (by first | exact .inl rfl | exact .inr rfl) (pe_lamcall (T := tabs2 P1 P2) (TT := TBoth K cs) (a := "_law_ask") (k := 5) (P := P2) (Ng := nHeard) (by rfl) gH FH.kp lk hcg bH scHeard rfl (.inl rfl) (heard_both Cx mv mk mi) TB rfl (List.mem_cons_of_mem _ List.mem_cons_self) hU hr (lamS_by (by show lamSB (defScope sNw) _ = true; decide +kernel)) rfl (fun _ _ _ _ _ => rfl)
        (fun A outer s H E f c' hr' => (pe_methN (pv 0) T.cl mR GR hr' kR1 passLam (pa_cons (pv 2) pa_nil) (pk_cons (pe_callB (call_lenK K) (by rfl) mn PySem.boot_len (pa_cons (pv 1) pa_nil)) pk_nil)))))
    (pss_cons (ps_if (pt_cmpR op_ne (pe_callB (call_repr hg hr.units) (by rfl) mp (by decide +kernel) (pa_cons (pe_lamcall (T := tabs2 P1 P2) (TT := TBoth K cs) (a := "_law_ask") (k := 5) (P := P2) (Ng := nHeard) (by rfl) gH FH.kp lk hcg bH scHeard rfl (.inl rfl) (heard_both Cx mv mk mi) TB rfl (List.mem_cons_of_mem _ List.mem_cons_self) hU hr (lamS_by (by show lamSB (defScope sNw) _ = true; decide +kernel)) rfl (fun _ _ _ _ _ => rfl)
        (fun A outer s H E f c' hr' => (pe_meth (pv 0) T.cl mR GR hr' kR2 dR2 passLam (pa_cons (pv 2) pa_nil)))) pa_nil)) (pe_callB (call_repr hg hr.units) (by rfl) mp (by decide +kernel) (pa_cons (pv 3) pa_nil)) (nomark _))
        (pss_one (ps_ret pe_bl)) pss_nil)
    (pss_cons (ps_if (pt_cmpR op_ne (pe_callB (call_repr hg hr.units) (by rfl) mp (by decide +kernel) (pa_cons (pe_lamcall (T := tabs2 P1 P2) (TT := TBoth K cs) (a := "_law_ask") (k := 5) (P := P2) (Ng := nHeard) (by rfl) gH FH.kp lk hcg bH scHeard rfl (.inl rfl) (heard_both Cx mv mk mi) TB rfl (List.mem_cons_of_mem _ List.mem_cons_self) hU hr (lamS_by (by show lamSB (defScope sNw) _ = true; decide +kernel)) rfl (fun _ _ _ _ _ => rfl)
        (fun A outer s H E f c' hr' => (pe_methN0 (pv 0) T.cl mR GR hr' kR3 passLam (pk_cons pe_non (pk_cons (pv 2) pk_nil))))) pa_nil)) (pe_callB (call_repr hg hr.units) (by rfl) mp (by decide +kernel) (pa_cons (pv 3) pa_nil)) (nomark _))
        (pss_one (ps_ret pe_bl)) pss_nil)
    (pss_cons (ps_set (i := 3) nd rfl (by first | exact .inl rfl | exact .inr rfl) (pe_lamcall (T := tabs2 P1 P2) (TT := TBoth K cs) (a := "_law_ask") (k := 5) (P := P2) (Ng := nHeard) (by rfl) gH FH.kp lk hcg bH scHeard rfl (.inl rfl) (heard_both Cx mv mk mi) TB rfl (List.mem_cons_of_mem _ List.mem_cons_self) hU hr (lamS_by (by show lamSB (defScope sNw) _ = true; decide +kernel)) rfl (fun _ _ _ _ _ => rfl)
        (fun A outer s H E f c' hr' => (pe_methN (pv 0) T.cl mC GC hr' kC1 passLam (pa_cons (pv 2) pa_nil) (pk_cons (pe_callB (call_lenK K) (by rfl) mn PySem.boot_len (pa_cons (pv 1) pa_nil)) pk_nil)))))
    (pss_cons (ps_if (pt_cmpR op_ne (pe_callB (call_repr hg hr.units) (by rfl) mp (by decide +kernel) (pa_cons (pe_lamcall (T := tabs2 P1 P2) (TT := TBoth K cs) (a := "_law_ask") (k := 5) (P := P2) (Ng := nHeard) (by rfl) gH FH.kp lk hcg bH scHeard rfl (.inl rfl) (heard_both Cx mv mk mi) TB rfl (List.mem_cons_of_mem _ List.mem_cons_self) hU hr (lamS_by (by show lamSB (defScope sNw) _ = true; decide +kernel)) rfl (fun _ _ _ _ _ => rfl)
        (fun A outer s H E f c' hr' => (pe_meth (pv 0) T.cl mC GC hr' kC2 dC2 passLam (pa_cons (pv 2) pa_nil)))) pa_nil)) (pe_callB (call_repr hg hr.units) (by rfl) mp (by decide +kernel) (pa_cons (pv 3) pa_nil)) (nomark _))
        (pss_one (ps_ret pe_bl)) pss_nil)
    (pss_one (ps_ret (pe_cmpR op_eq (pe_callB (call_repr hg hr.units) (by rfl) mp (by decide +kernel) (pa_cons (pe_lamcall (T := tabs2 P1 P2) (TT := TBoth K cs) (a := "_law_ask") (k := 5) (P := P2) (Ng := nHeard) (by rfl) gH FH.kp lk hcg bH scHeard rfl (.inl rfl) (heard_both Cx mv mk mi) TB rfl (List.mem_cons_of_mem _ List.mem_cons_self) hU hr (lamS_by (by show lamSB (defScope sNw) _ = true; decide +kernel)) rfl (fun _ _ _ _ _ => rfl)
        (fun A outer s H E f c' hr' => (pe_methN0 (pv 0) T.cl mC GC hr' kC3 passLam (pk_cons pe_non (pk_cons (pv 2) pk_nil))))) pa_nil)) (pe_callB (call_repr hg hr.units) (by rfl) mp (by decide +kernel) (pa_cons (pv 3) pa_nil)) (nomark _)))))))), ?_⟩
  have ldu : us.length = ds.length := hF.de.length
  have l100 := hF.len
  have now : (xs ds.length).mo none = ds.length := hF.ch.len ds.length (Nat.le_refl _)
  have E0 : ExtN H H := ExtN.refl _
  obtain ⟨z1, z2, z3⟩ := (sm_rowsO hF.ch (by omega) lab ds.length).shown (by decide) (by decide)
  obtain ⟨y1, y2, y3⟩ := (sm_colsO hF.ch lab ds.length).shown (by decide) (by decide)
  -- rows 1
  refine ⟨hT, fun A1 e1 u1 => ?_⟩
  have X1 := E0.trans e1
  have hF1 := hF.ext X1
  obtain ⟨dx1, fs1, ip1, nf1⟩ := hF1.ins
  refine heard_rows (m := ds.length) hF1 lab (o := some ds.length) rfl (fun Ech Q' h => ⟨_, rfl, p, dx1, fs1, rfl, ip1, nf1 _ (by decide), _, rfl, _, rfl, D, _, rfl, .inl (SqL.of hF1.dl), rfl, rfl, (by rw [ldu]; exact h)⟩) fun r1 B1 s1 d1 => ?_
  have v1 := u1.ext s1
  have Y1 := X1.trans (ExtN.of s1)
  -- rows 2
  refine ⟨v1, fun A2 e2 u2 => ?_⟩
  have X2 := Y1.trans e2
  have hF2 := hF.ext X2
  obtain ⟨dx2, fs2, ip2, nf2⟩ := hF2.ins
  refine heard_rows (m := ds.length) hF2 lab (o := none) now (fun Ech Q' h => ⟨_, rfl, p, dx2, fs2, rfl, ip2, nf2 _ (by decide), _, rfl, h⟩) fun r2 B2 s2 d2 => ?_
  have v2 := u2.ext s2
  have Y2 := X2.trans (ExtN.of s2)
  have q2 : ExtN B1 B2 := e2.trans (ExtN.of s2)
  refine ⟨_, _, rfl, d2.dp, z1, z2, z3, _, rfl, _, _, rfl, dp_ext q2 d1.dp, z1, z2, z3, rfl, _, rfl, iteF' (by simp) ?_⟩
  -- rows 3
  refine ⟨v2, fun A3 e3 u3 => ?_⟩
  have X3 := Y2.trans e3
  have hF3 := hF.ext X3
  obtain ⟨dx3, fs3, ip3, nf3⟩ := hF3.ins
  refine heard_rows (m := ds.length) hF3 lab (o := none) now (fun Ech Q' h => ⟨_, rfl, p, dx3, fs3, rfl, ip3, nf3 _ (by decide), _, rfl, rfl, h⟩) fun r3 B3 s3 d3 => ?_
  have v3 := u3.ext s3
  have Y3 := X3.trans (ExtN.of s3)
  have q3 : ExtN B1 B3 := (e2.trans (ExtN.of s2)).trans (e3.trans (ExtN.of s3))
  refine ⟨_, _, rfl, d3.dp, z1, z2, z3, _, rfl, _, _, rfl, dp_ext q3 d1.dp, z1, z2, z3, rfl, _, rfl, iteF' (by simp) ?_⟩
  -- cols 1
  refine ⟨v3, fun A4 e4 u4 => ?_⟩
  have X4 := Y3.trans e4
  have hF4 := hF.ext X4
  obtain ⟨dx4, fs4, ip4, nf4⟩ := hF4.ins
  refine heard_cols (m := ds.length) hF4 lab (o := some ds.length) rfl (fun Ech Q' h => ⟨_, rfl, p, dx4, fs4, rfl, ip4, nf4 _ (by decide), _, rfl, _, rfl, D, _, rfl, .inl (SqL.of hF4.dl), rfl, rfl, (by rw [ldu]; exact h)⟩) fun r4 B4 s4 d4 => ?_
  have v4 := u4.ext s4
  have Y4 := X4.trans (ExtN.of s4)
  -- cols 2
  refine ⟨v4, fun A5 e5 u5 => ?_⟩
  have X5 := Y4.trans e5
  have hF5 := hF.ext X5
  obtain ⟨dx5, fs5, ip5, nf5⟩ := hF5.ins
  refine heard_cols (m := ds.length) hF5 lab (o := none) now (fun Ech Q' h => ⟨_, rfl, p, dx5, fs5, rfl, ip5, nf5 _ (by decide), _, rfl, h⟩) fun r5 B5 s5 d5 => ?_
  have v5 := u5.ext s5
  have Y5 := X5.trans (ExtN.of s5)
  have q5 : ExtN B4 B5 := e5.trans (ExtN.of s5)
  refine ⟨_, _, rfl, d5.dp, y1, y2, y3, _, rfl, _, _, rfl, dp_ext q5 d4.dp, y1, y2, y3, rfl, _, rfl, iteF' (by simp) ?_⟩
  -- cols 3
  refine ⟨v5, fun A6 e6 u6 => ?_⟩
  have X6 := Y5.trans e6
  have hF6 := hF.ext X6
  obtain ⟨dx6, fs6, ip6, nf6⟩ := hF6.ins
  refine heard_cols (m := ds.length) hF6 lab (o := none) now (fun Ech Q' h => ⟨_, rfl, p, dx6, fs6, rfl, ip6, nf6 _ (by decide), _, rfl, rfl, h⟩) fun r6 B6 s6 d6 => ?_
  have v6 := u6.ext s6
  have Y6 := X6.trans (ExtN.of s6)
  have q6 : ExtN B4 B6 := (e5.trans (ExtN.of s5)).trans (e6.trans (ExtN.of s6))
  refine ⟨_, _, rfl, d6.dp, y1, y2, y3, _, rfl, _, _, rfl, dp_ext q6 d4.dp, y1, y2, y3, rfl, ?_⟩
  rw [decide_eq_true rfl]
  exact q B6 Y6 v6
end
end K07
end

section
set_option Elab.async false
set_option linter.all false
set_option maxRecDepth 100000
set_option maxHeartbeats 8000000
/-! the law's def. -/
namespace K07
open PySem PySem.Spec PyProof.Rows L2 Gd K07t LamX
abbrev sLaw : Stmt := topS 57
abbrev nLaw : List Str := ["_law_script", "_law_pen_here", "_law_tables", "_law_deeds", "_law_now", "_law_when", "_law_title", "_law_there", "_law_found", "_law_word", "_law_called", "_law_rest"]
theorem scLaw : FnScope nLaw ["_law_script"] (defScope sLaw) := ⟨rfl, rfl, rfl, by decide +kernel, rfl, by decide +kernel, by decide +kernel⟩
def spLaw (K : PySem.W.Frag) (cs : List (Addr × Addr)) : Sp := fun vs H Q _ => ∃ (a : Addr) (ns : List Int), vs = [.ref a] ∧ SqL K H a (ns.map V.int) ∧ ns.length ≤ 63 ∧ (∀ p ∈ cs, H p.2 = some (.tbl #[])) ∧ ∀ H', Q (.bl true) H'
/-- the names that deeds make -/
def nameT : Deed → Option Str
  | .table n _ => some n
  | _ => none
def namesT (ds : List Deed) : List Str := ds.filterMap nameT
theorem Chain.names {ds : List Deed} {xs : Nat → Shelf} (c : Chain ds xs) : ∀ k, k ≤ ds.length → (xs k).tabs.map Tab.name = namesT (ds.take k)
  | 0, _ => by rw [c.z]; rfl
  | k + 1, h => by
    have e : ds[k]? = some ds[k] := List.getElem?_eq_getElem (by omega)
    obtain ⟨dok, y, can, e2⟩ := c.s k _ e
    have ih := c.names k (by omega)
    rw [e2, List.take_add_one, e]
    unfold namesT at ih ⊢
    rw [List.filterMap_append, ← ih]
    show y.tabs.map Tab.name = _
    cases hd : ds[k] with
    | table n cs =>
      rw [hd] at can
      obtain ⟨_, _, rfl⟩ := can
      show ((xs k).tabs ++ [(⟨n, cs, (xs k).deeds.length, []⟩ : Tab)]).map Tab.name = _
      rw [List.map_append]
      rfl
    | row n ws =>
      rw [hd] at can
      obtain ⟨_, _, _, _, _, _, rfl⟩ := can
      rw [onRows_names]
      show _ = _ ++ []
      rw [List.append_nil]
    | out n kk =>
      rw [hd] at can
      obtain ⟨_, _, _, _, _, _, _, rfl⟩ := can
      rw [onRows_names]
      show _ = _ ++ []
      rw [List.append_nil]
theorem tabs_by3 {T : List (Addr × Str)} {H H1 : Hp} (t : Tabs T H) (k : ∀ b o, H b = some o → (∀ xs, o ≠ .lst xs) → (∀ C dx fs, o ≠ .ins C dx fs) → (∀ kvs, o ≠ .dK kvs) → H1 b = some o) : Tabs T H1 := fun q hq => by
  obtain ⟨ps, h1, h2, h3⟩ := t q hq
  refine ⟨ps, k _ _ h1 (fun _ z => nomatch z) (fun _ _ _ z => nomatch z) (fun _ z => nomatch z), h2, fun pos cv hc => ?_⟩
  obtain ⟨c, e1, e2⟩ := h3 pos cv hc
  exact ⟨c, e1, k _ _ e2 (fun _ z => nomatch z) (fun _ _ _ z => nomatch z) (fun _ z => nomatch z)⟩
theorem many4 {r : Int} (h0 : 0 ≤ r) (h1 : r < 4) : ∃ m : Nat, m ≤ 100 ∧ atI ([40, 12, 6, 40].map V.int) r = some (.int ((m : Nat) : Int)) := by
  obtain ⟨v, hv, e⟩ := at_list (f := V.int) (xs := [40, 12, 6, 40]) h0 (by simpa using h1)
  simp only [List.mem_cons, List.not_mem_nil, or_false] at hv
  rcases hv with rfl | rfl | rfl | rfl
  · exact ⟨40, by decide, e⟩
  · exact ⟨12, by decide, e⟩
  · exact ⟨6, by decide, e⟩
  · exact ⟨40, by decide, e⟩
open Szg in
theorem sm_names {ns : List Str} (l : ns.length ≤ 11) (h : ∀ n ∈ ns, isLab n = true) : Sm 400 1 (.list (ns.map PyData.str)) := by
  have all : Sms ((30 + 1) * (ns.map PyData.str).length) 0 (ns.map PyData.str) := Sms.all fun d hd => by
    obtain ⟨c, hc, rfl⟩ := List.mem_map.mp hd
    exact sm_str (lab_pl (h c hc))
  have l2 : (ns.map PyData.str).length ≤ 11 := by rw [List.length_map]; exact l
  exact all.lst.mono (by omega) (Nat.le_refl _)
section
variable {P : Program} {w : World} {K : PySem.W.Frag} {mg : Str → Option Value} {base : Heap} {f fE fD fP fHi fNr fNw fI fN eI C P1 P2 c1 c2 : Addr} {fd dE dD dP dHi dNr dNw dI dN : FuncData} {dsI dsN : List Value} {gk : List Value → List Value → List Value}
theorem ok_law (F : Fun K "law" "law" sLaw f fd) (T : TxtT K mg C) (mr : mg "range" = none) (mp : mg "repr" = none) (ms : mg "sorted" = none) (mli : mg "list" = none) (mn : mg "len" = none)
    (FE : Fun K "_law_pen" "_law_pen" sPen fE dE) (GE : FnOk P w K mg base CX0 1 fE dE ["_law_script"] (spPen K)) (gE : mg "_law_pen" = some (.ref fE)) (bE : Binds K dE ["_law_script"] [])
    (FD : Fun K "_law_draw" "_law_draw" sDraw fD dD) (GD : FnOk P w K mg base CX0 1 fD dD ["_law_pen_here", "_law_many"] spDraw) (gD : mg "_law_draw" = some (.ref fD)) (bD : Binds K dD ["_law_pen_here", "_law_many"] [])
    (FP : Fun K "_law_pool" "_law_pool" sPool fP dP) (GP : FnOk P w K mg base CX0 1 fP dP [] spPool) (gP : mg "_law_pool" = some (.ref fP)) (bP : Binds K dP [] [])
    (FHi : Fun K "_law_history" "_law_history" sHi fHi dHi) (GHi : FnOk P w K mg base CX0 5 fHi dHi ["_law_pen_here", "_law_tables", "_law_many"] (spHi K C)) (gHi : mg "_law_history" = some (.ref fHi)) (bHi : Binds K dHi ["_law_pen_here", "_law_tables", "_law_many"] [])
    (FNr : Fun K "_law_name_right" "_law_name_right" sNr fNr dNr) (GNr : FnG P w K mg base CX0 8 fNr dNr ["_law_tables", "_law_deeds", "_law_title", "_law_when"] (spNr K C P1 P2)) (gNr : mg "_law_name_right" = some (.ref fNr)) (bNr : Binds K dNr ["_law_tables", "_law_deeds", "_law_title", "_law_when"] [])
    (FNw : Fun K "_law_now_right" "_law_now_right" sNw fNw dNw) (GNw : FnG P w K mg base CX0 8 fNw dNw ["_law_tables", "_law_deeds", "_law_title"] (spNw K C P1 P2)) (gNw : mg "_law_now_right" = some (.ref fNw)) (bNw : Binds K dNw ["_law_tables", "_law_deeds", "_law_title"] [])
    (MK : Mk K C fI) (GI : FnOk P w K mg base CX0 1 fI dI ["self", "deeds"] (spInit K C)) (gI : mg "Tables" = some (.ref C)) (bI : Binds K dI ["self", "deeds"] dsI) (hI : Vals [V.ref eI] dsI) (heI : ∀ H, SqT K H eI [])
    (MMo : Mt P w K mg base C "moment" ["self"] CX0 1 (spMom K C))
    (mN : Meth K C "names" fN) (GN : FnOk P w K mg base CX0 1 fN dN ["self", "moment"] (spNames K C)) (kN : KBn K dN ["self", "moment"] 1 ["moment"] gk fun vs zs => vs ++ zs) (bN : Binds K dN ["self", "moment"] dsN) (vN : Vals [V.non] dsN) :
    FnG P w K mg base CX0 9 f fd ["_law_script"] (spLaw K [(c1, P1), (c2, P2)]) := by
  refine okG F scLaw (fun vs H Q E h => ?_) (fun cv A out s H vs Q E gd hr h => ?_)
  · obtain ⟨a, ns, rfl, _⟩ := h
    rfl
  obtain ⟨a, nums, rfl, ha, hn, hT0, q⟩ := h
  obtain ⟨fMo, dMo, mMo, GMo, bMo⟩ := MMo.ex
  have nd := scLaw.nd
  have hu := hu_of hr
  have r1 := hr.mono (show 1 ≤ 8 by decide)
  have r2 := hr.mono (show 2 ≤ 8 by decide)
  have zl : sizeLine = 16777216 := rfl
  refine ⟨_, pss_cons (ps_set (i := 1) nd rfl (by first | exact .inl rfl | exact .inr rfl) (pe_call GE r1 (by rfl) gE FE.kp bE .nil pass0 (pa_cons (pv 0) pa_nil)))
    (pss_cons (ps_set (i := 2) nd rfl (by first | exact .inl rfl | exact .inr rfl) (pe_make0 MK GI r2 (by rfl) gI bI hI pass0))
    (pss_cons (ps_set (i := 3) nd rfl (by first | exact .inl rfl | exact .inr rfl) (pe_call GHi (hr.mono (by decide)) (by rfl) gHi FHi.kp bHi .nil pass0 (pa_cons (pv 1) (pa_cons (pv 2) (pa_cons (pe_ix ix_list (pe_lst (pa_cons pe_int (pa_cons pe_int (pa_cons pe_int (pa_cons pe_int pa_nil))))) (pe_call GD r1 (by rfl) gD FD.kp bD .nil pass0 (pa_cons (pv 1) (pa_cons pe_int pa_nil))) (fun _ _ => rfl)) pa_nil)))))
    (pss_cons (ps_set (i := 4) nd rfl (by first | exact .inl rfl | exact .inr rfl) (pe_callB call_len_seq (by rfl) mn PySem.boot_len (pa_cons (pv 3) pa_nil)))
    (C8.pss_cut (ps_for PassesOwn.never rfl (pi_list (pe_op op_cat (pe_listRg rfl (by rfl) mli (prg_1 (by rfl) mr (pe_op op_add (pv 4) pe_int))) (pe_lst (pa_cons (pe_op op_add (pe_op op_add (pv 4) pe_int) (pe_call GD r1 (by rfl) gD FD.kp bD .nil pass0 (pa_cons (pv 1) (pa_cons pe_int pa_nil)))) (pa_cons (pe_op op_pow pe_int pe_int) pa_nil))))) (pg_name (i := 5) nd rfl (.inl rfl))
      (pss_one (ps_for PassesOwn.never rfl (pi_list (pe_op op_cat (pe_call0 GP r1 (by rfl) gP FP.kp bP .nil pass0) (pe_lst (pa_cons pe_str pa_nil)))) (pg_name (i := 6) nd rfl (.inl rfl))
      (pss_one (ps_if (pt_not (pt_val (pe_callG GNr gd hr (by rfl) gNr FNr.kp bNr .nil pass0 (pa_cons (pv 2) (pa_cons (pv 3) (pa_cons (pv 6) (pa_cons (pv 5) pa_nil))))))) pss_never pss_nil)))))
    (C8.pss_cut (ps_for PassesOwn.never rfl (pi_range1 (by rfl) mr (pa_cons (pe_op op_add (pv 4) pe_int) pa_nil)) (pg_name (i := 5) nd rfl (.inl rfl))
      (pss_cons (ps_set (i := 7) nd rfl (by first | exact .inl rfl | exact .inr rfl) (pe_callB cr_sortedS (by rfl) ms (by decide +kernel) (pa_cons (pe_lc (own := [("_law_word", 9), ("_law_called", 10), ("_law_rest", 11)]) (g := gTup K 3 (gCons (gName 9) (gCons (gName 10) (gCons (gName 11) gNil)))) rfl nd (pi_list (pe_slice sl_list (pv 3) po_none (po_some (pv 5)))) (blkOk_by (N := nLaw) (sc := defScope sLaw) (by decide +kernel)) (fun _ _ _ _ _ => pg_tup rfl (pgs_cons (pg_name (i := 9) nd rfl (Or.inl rfl)) (pgs_cons (pg_name (i := 10) nd rfl (Or.inl rfl)) (pgs_cons (pg_name (i := 11) nd rfl (Or.inl rfl)) pgs_nil)))) (fun _ _ _ _ _ => (pts_one (pt_cmpR op_eq (pv 9) pe_str (nomark _)))) (fun _ _ _ _ _ => (pv 10))) pa_nil)))
      (pss_cons (ps_set (i := 8) nd rfl (by first | exact .inl rfl | exact .inr rfl) (pe_methN0 (pv 2) T.cl mN GN r1 kN pass0 (pk_cons (pv 5) pk_nil)))
      (pss_cons (ps_if (pt_cmpR op_ne (pe_callB (call_repr gd hr.units) (by rfl) mp (by decide +kernel) (pa_cons (pv 8) pa_nil)) (pe_callB (call_repr gd hr.units) (by rfl) mp (by decide +kernel) (pa_cons (pv 7) pa_nil)) (nomark _))
        pss_never pss_nil)
      (pss_cons (ps_expr (pe_bm PySem.F.plainAttrs_list PySem.F.slot_list_append PySem.F.type_list_append mt_append (pv 8) (pa_cons pe_non pa_nil)))
      (pss_one (ps_if (pt_cmpR op_ne (pe_callB (call_repr gd hr.units) (by rfl) mp (by decide +kernel) (pa_cons (pe_methN0 (pv 2) T.cl mN GN r1 kN pass0 (pk_cons (pv 5) pk_nil)) pa_nil)) (pe_callB (call_repr gd hr.units) (by rfl) mp (by decide +kernel) (pa_cons (pv 7) pa_nil)) (nomark _))
        pss_never pss_nil)))))))
    (C8.pss_cut (ps_for PassesOwn.never rfl (pi_list (pe_call0 GP r1 (by rfl) gP FP.kp bP .nil pass0)) (pg_name (i := 6) nd rfl (.inl rfl))
      (pss_one (ps_if (pt_not (pt_val (pe_callG GNw gd hr (by rfl) gNw FNw.kp bNw .nil pass0 (pa_cons (pv 2) (pa_cons (pv 3) (pa_cons (pv 6) pa_nil)))))) pss_never pss_nil)))
    (pss_one (ps_ret (pe_and (pe_cmpR op_eq (pe_callB (call_repr gd hr.units) (by rfl) mp (by decide +kernel) (pa_cons (pe_meth0 (pv 2) T.cl mN GN r1 bN vN pass0) pa_nil)) (pe_callB (call_repr gd hr.units) (by rfl) mp (by decide +kernel) (pa_cons (pe_methN0 (pv 2) T.cl mN GN r1 kN pass0 (pk_cons (pv 4) pk_nil)) pa_nil)) (nomark _)) (pe_one (pe_cmpR op_eq (pe_meth0 (pv 2) T.cl mMo GMo r1 bMo .nil pass0) (pv 4) (nomark _)))))))))))), ?_⟩
  have hT : Tabs (tabs2 P1 P2) H := fun t ht => by
    simp only [tabs2, List.mem_cons, List.not_mem_nil, or_false] at ht
    rcases ht with rfl | rfl
    · exact TabS.nil (hT0 (c1, P1) (by simp))
    · exact TabS.nil (hT0 (c2, P2) (by simp))
  refine ⟨_, rfl, a, nums, rfl, ha, hn, fun l c H1 s1 nl nc p1 => ?_⟩
  have hT1 := hT.ext s1
  intro p dx np ndx npx
  refine ⟨p, eI, dx, rfl, upd_same, heI _, fun H2 F0 shf off new => ⟨rfl, ?_⟩⟩
  have off2 : ∀ b o, H1 b = some o → H2 b = some o := fun b o e => off b o (ne_of_none e np) (by rw [upd_ne (ne_of_none e np), upd_ne (ne_of_none e ndx)]; exact e)
  have old : ∀ {b : Addr} {o : HO}, H1 b = some o → ¬ F0 b := fun {b o} e hb => by
    have nb : b ≠ p := ne_of_none e np
    rcases new b hb with z | z
    · exact nb z
    · rw [upd_ne nb, upd_ne (ne_of_none e ndx), e] at z
      cases z
  have p2 : Pen H2 l c 0 := p1.same off2
  obtain ⟨⟨ol, el⟩, ⟨oc, ec⟩⟩ := pen_here p1
  have hT2 := hT1.ext off2
  have nFl := old el
  have nFc := old ec
  clear old new off
  refine ⟨_, rfl, _, rfl, (by show 4 ≤ sizeLine; decide), fun b nb => ?_⟩
  have j3 := new_same (o := .lst ([40, 12, 6, 40].map V.int)) nb
  have eb : upd H2 b (.lst ([40, 12, 6, 40].map V.int)) b = some (.lst ([40, 12, 6, 40].map V.int)) := upd_same
  have nbl := (p2.not nb).1
  refine ⟨_, rfl, l, c, 4, _, rfl, p2.same j3, by decide, by decide, by omega, fun r H3 r0 r1' p3 x3 => ?_⟩
  have sh3 : ShelfF K C H3 p ⟨[], []⟩ F0 := (shf.same j3).keep (ex1_pen (p2.same j3) x3) fun b o hb e => x3 b o (fun z => nFl (by rw [← z]; exact hb)) e
  have hT3 : Tabs (tabs2 P1 P2) H3 := tabs_by3 (hT2.ext j3) fun b o e n _ _ => x3 b o (fun z => by
    obtain ⟨ns', t', ov', el', _⟩ := p2.same j3
    rw [z, el'] at e
    exact n _ (Option.some.inj e).symm) e
  obtain ⟨m, m100, em⟩ := many4 r0 r1'
  refine ⟨b, _, _, _, rfl, rfl, SqL.of (x3 _ _ nbl eb), em, ?_⟩
  refine ⟨l, c, p, _, m, F0, rfl, p3, by omega, m100, sh3, nFl, nFc, fun H4 D us ds xs F' ch len dl de sh nF ne pn keep => ?_⟩
  have hT4 : Tabs (tabs2 P1 P2) H4 := tabs_by3 hT3 fun b o e n1 n2 n3 => keep b o e (fun hb => by
    rcases sh3.kind hb with ⟨_, _, z⟩ | ⟨_, z⟩ | ⟨_, z⟩
    · rw [e] at z; exact n2 _ _ _ (Option.some.inj z)
    · rw [e] at z; exact n1 _ (Option.some.inj z)
    · rw [e] at z; exact n3 _ (Option.some.inj z)) fun z => by
      obtain ⟨ns', t', ov', el', _⟩ := p3
      rw [z, el'] at e
      exact n1 _ (Option.some.inj e).symm
  have hF : Fz K C H4 p D us ds xs F' := ⟨ch, by omega, sh, dl, de⟩
  have ldu : us.length = ds.length := de.length
  clear keep hT3 sh3 hT2 hT1 hT off2 shf x3 eb j3
  refine ⟨_, rfl, D, _, rfl, .inl (SqL.of dl), ?_⟩
  rw [ldu]
  obtain ⟨N, hN⟩ : ∃ N, N = ds.length := ⟨_, rfl⟩
  rw [← hN]
  -- each moment, each name
  refine ⟨fun σ' G => (∃ x5 x6, σ' = [some (.ref a), some (.ref l), some (.ref p), some (.ref D), some (.int ((N : Nat) : Int)), x5, x6, none, none, none, none, none]) ∧ Fz K C G p D us ds xs F' ∧ Tabs (tabs2 P1 P2) G, ?_, ?_⟩
  · refine ⟨_, rfl, _, _, rfl, rfl, ?_⟩
    refine ⟨_, rfl, RgOk.of_le (by decide) (by omega) (by decide) (by omega), fun A1 nA1 => ?_⟩
    have jA := new_same (o := .lst (rgV 0 (((N : Nat) : Int) + 2))) nA1
    have eA : upd H4 A1 (.lst (rgV 0 (((N : Nat) : Int) + 2))) A1 = some (.lst (rgV 0 (((N : Nat) : Int) + 2))) := upd_same
    refine ⟨_, rfl, _, _, rfl, rfl, _, rfl, l, c, 50, _, rfl, pn.same jA, by decide, by decide, by omega, fun r6 H6 r60 r61 p6 x6 => ?_⟩
    have nAl := (pn.not nA1).1
    have hF6 : Fz K C H6 p D us ds xs F' := hF.ex1 (pn.same jA) jA x6 nF.1 ne.1
    have hT6 : Tabs (tabs2 P1 P2) H6 := tabs_by3 (hT4.ext jA) fun b o e n _ _ => x6 b o (fun z => by
      obtain ⟨ns', t', ov', el', _⟩ := pn.same jA
      rw [z, el'] at e
      exact n _ (Option.some.inj e).symm) e
    have eA6 := x6 _ _ nAl eA
    refine ⟨_, _, rfl, rfl, 10, 30, rfl, rfl, ⟨by decide, by decide, by decide⟩, (by show 2 ≤ sizeLine; decide), fun B1 nB1 => ?_⟩
    have jB := new_same (o := .lst [(fun i j : Int => V.int (i + j)) (((N : Nat) : Int) + 1) r6, (fun i j : Int => V.int (i ^ j.toNat)) 10 30]) nB1
    have eB : upd H6 B1 (.lst [(fun i j : Int => V.int (i + j)) (((N : Nat) : Int) + 1) r6, (fun i j : Int => V.int (i ^ j.toNat)) 10 30]) B1 = some (.lst [(fun i j : Int => V.int (i + j)) (((N : Nat) : Int) + 1) r6, (fun i j : Int => V.int (i ^ j.toNat)) 10 30]) := upd_same
    have eA7 := jB _ _ eA6
    have hF7 := hF6.same jB
    have hT7 := hT6.ext jB
    generalize upd H6 B1 (.lst [(fun i j : Int => V.int (i + j)) (((N : Nat) : Int) + 1) r6, (fun i j : Int => V.int (i ^ j.toNat)) 10 30]) = H7 at eB eA7 hF7 hT7 ⊢
    refine ⟨A1, B1, _, _, rfl, rfl, eA7, eB, by rw [rgV_length]; show _ + 2 ≤ _; omega, fun C1 nC1 => ?_⟩
    obtain ⟨ws, hws⟩ : ∃ ws, ws = rgV 0 (((N : Nat) : Int) + 2) ++ [(fun i j : Int => V.int (i + j)) (((N : Nat) : Int) + 1) r6, (fun i j : Int => V.int (i ^ j.toNat)) 10 30] := ⟨_, rfl⟩
    have nat : ∀ v ∈ ws, ∃ k : Nat, v = .int ((k : Nat) : Int) := fun v hv => by
      rw [hws] at hv
      rcases List.mem_append.mp hv with h | h
      · unfold rgV at h
        obtain ⟨i, _, rfl⟩ := List.mem_map.mp h
        exact ⟨i, by rw [Int.zero_add]⟩
      · simp only [List.mem_cons, List.not_mem_nil, or_false] at h
        rcases h with rfl | rfl
        · exact ⟨(((N : Nat) : Int) + 1 + r6).toNat, by rw [show (((((N : Nat) : Int) + 1 + r6).toNat : Nat) : Int) = ((N : Nat) : Int) + 1 + r6 by omega]⟩
        · exact ⟨10 ^ 30, by rfl⟩
    have jC := new_same (o := .lst ws) nC1
    have eC : upd H7 C1 (.lst ws) C1 = some (.lst ws) := upd_same
    have hF8 := hF7.same jC
    have hT8 := hT7.ext jC
    rw [hws] at jC eC hF8 hT8
    generalize upd H7 C1 (.lst (rgV 0 (((N : Nat) : Int) + 2) ++ [(fun i j : Int => V.int (i + j)) (((N : Nat) : Int) + 1) r6, (fun i j : Int => V.int (i ^ j.toNat)) 10 30])) = H8 at jC eC hF8 hT8 ⊢
    rw [← hws] at eC
    refine ⟨C1, rfl, ⟨ws, SqL.of eC⟩, ?_⟩
    refine for_it (walk_list (K := K) (a := C1) (xs := ws)) (fun k σ G => (∃ x5 x6, σ = [some (.ref a), some (.ref l), some (.ref p), some (.ref D), some (.int ((N : Nat) : Int)), x5, x6, none, none, none, none, none]) ∧ ExtN H8 G ∧ Tabs (tabs2 P1 P2) G) ⟨⟨_, _, rfl⟩, ExtN.refl _, hT8⟩ (fun k σ G _ z => seq_ext z.2.1 (SqL.of eC)) ?_ ?_
    · rintro k y σ G G2 hk ⟨⟨x5, x6, rfl⟩, eG, tG⟩ ⟨rfl, hy⟩
      obtain ⟨m, rfl⟩ := nat y (List.mem_of_getElem? hy)
      refine ⟨rfl, fun pl HA npl eHA => ?_⟩
      subst eHA
      have jp := new_same (o := .lst (poolL.map V.str)) npl
      have ep : upd G2 pl (.lst (poolL.map V.str)) pl = some (.lst (poolL.map V.str)) := upd_same
      generalize upd G2 pl (.lst (poolL.map V.str)) = HA at jp ep ⊢
      refine ⟨(by show 1 ≤ sizeLine; decide), fun q1 nq1 => ?_⟩
      have jq := new_same (o := .lst [.str "strange"]) nq1
      have eq1 : upd HA q1 (.lst [.str "strange"]) q1 = some (.lst [.str "strange"]) := upd_same
      have ep2 := jq _ _ ep
      generalize upd HA q1 (.lst [.str "strange"]) = HB at jq eq1 ep2 ⊢
      refine ⟨pl, q1, _, _, rfl, rfl, ep2, eq1, (by show 11 + 1 ≤ sizeLine; decide), fun C2 nC2 => ?_⟩
      have jC2 := new_same (o := .lst (poolL.map V.str ++ [.str "strange"])) nC2
      have eC2 : upd HB C2 (.lst (poolL.map V.str ++ [.str "strange"])) C2 = some (.lst (poolL.map V.str ++ [.str "strange"])) := upd_same
      generalize upd HB C2 (.lst (poolL.map V.str ++ [.str "strange"])) = HC at jC2 eC2 ⊢
      have E8 := eG.trans (ExtN.of ((jp.trans jq).trans jC2))
      have tC := tG.ext ((jp.trans jq).trans jC2)
      have labs : ∀ v ∈ poolL.map V.str ++ [.str "strange"], ∃ n : Str, v = .str n ∧ isLab n = true := fun v hv => by
        rcases List.mem_append.mp hv with h | h
        · obtain ⟨n, hn, rfl⟩ := List.mem_map.mp h
          exact ⟨n, rfl, pool_lab n hn⟩
        · rw [List.mem_singleton.mp h]
          exact ⟨_, rfl, by decide +kernel⟩
      refine ⟨C2, rfl, ⟨_, SqL.of eC2⟩, ?_⟩
      refine for_it (walk_list (K := K) (a := C2) (xs := poolL.map V.str ++ [.str "strange"])) (fun k σ G => (∃ x6, σ = [some (.ref a), some (.ref l), some (.ref p), some (.ref D), some (.int ((N : Nat) : Int)), some (.int ((m : Nat) : Int)), x6, none, none, none, none, none]) ∧ ExtN HC G ∧ Tabs (tabs2 P1 P2) G) ⟨⟨_, rfl⟩, ExtN.refl _, tC⟩ (fun k σ G _ z => seq_ext z.2.1 (SqL.of eC2)) ?_ ?_
      · rintro k2 y2 σ2 G3 G4 hk2 ⟨⟨x6', rfl⟩, eG3, tG3⟩ ⟨rfl, hy2⟩
        obtain ⟨n, rfl, hn⟩ := labs y2 (List.mem_of_getElem? hy2)
        refine ⟨_, rfl, _, rfl, _, rfl, _, rfl, p, D, us, ds, xs, F', n, m, rfl, hF8.ext (E8.trans eG3), hn, tG3, fun G5 e5 t5 => ⟨true, rfl, iteF ?_⟩⟩
        exact ⟨⟨_, rfl⟩, eG3.trans e5, t5⟩
      · rintro σ2 G3 ⟨⟨x6', rfl⟩, eG3, tG3⟩
        exact ⟨⟨_, _, rfl⟩, E8.trans eG3, tG3⟩
    · rintro σ G ⟨⟨x5, x6, rfl⟩, eG, tG⟩
      exact ⟨⟨_, _, rfl⟩, hF8.ext eG, tG⟩
  rintro σ5 H5 ⟨⟨x5, x6, rfl⟩, hF5, hT5⟩
  have ln : (xs ds.length).deeds.length = ds.length := ch.len ds.length (Nat.le_refl _)
  have insN : ∀ {G : Hp}, Fz K C G p D us ds xs F' → ∃ dx fs, G p = some (.ins C dx fs) ∧ fs.lookup ("names" : Str) = none ∧ fs.lookup ("moment" : Str) = none := fun f => by
    obtain ⟨dx, fs, e, nf⟩ := f.ins
    exact ⟨dx, fs, e, nf _ (by decide), nf _ (by decide)⟩
  have nmAt : ∀ k, k ≤ N → namesAt (xs ds.length).tabs k = namesT (ds.take k) := fun k hk => by
    have el := ch.elder (by omega) (m := k) (ds.length - k) (by omega)
    rw [show k + (ds.length - k) = ds.length by omega] at el
    rw [el.names (ch.past k (by omega)) (ch.len k (by omega)), ch.names k (by omega)]
  have nmOk : ∀ k, k ≤ N → (namesT (ds.take k)).length ≤ 6 ∧ ∀ n ∈ namesT (ds.take k), isLab n = true := fun k hk => by
    rw [← ch.names k (by omega)]
    have ok := ch.ok (by omega) k (by omega)
    exact ⟨by rw [List.length_map]; exact ok.tabs, fun n hn => by obtain ⟨t, ht, rfl⟩ := List.mem_map.mp hn; exact ok.lab t ht⟩
  -- the names of each moment
  refine ⟨fun σ' G => (∃ x5 x6 x7 x8, σ' = [some (.ref a), some (.ref l), some (.ref p), some (.ref D), some (.int ((N : Nat) : Int)), x5, x6, x7, x8, none, none, none]) ∧ ExtN H5 G ∧ Tabs (tabs2 P1 P2) G, ?_, ?_⟩
  · refine ⟨_, rfl, _, _, rfl, rfl, ((N + 1 : Nat) : Int), congrArg (fun z => [V.int z]) (show ((N : Nat) : Int) + 1 = ((N + 1 : Nat) : Int) by omega), by omega, by omega, ?_⟩
    refine for_it (upto (n := N + 1)) (fun k σ G => (∃ x5 x6 x7 x8, σ = [some (.ref a), some (.ref l), some (.ref p), some (.ref D), some (.int ((N : Nat) : Int)), x5, x6, x7, x8, none, none, none]) ∧ ExtN H5 G ∧ Tabs (tabs2 P1 P2) G) ⟨⟨_, _, _, _, rfl⟩, ExtN.refl _, hT5⟩ (fun _ _ _ _ _ => trivial) ?_ ?_
    · rintro k y σ G G0 hk ⟨⟨y5, y6, y7, y8, rfl⟩, eG, tG⟩ ⟨rfl, rfl⟩
      have hF0 := hF5.ext eG
      obtain ⟨w6, wl⟩ := nmOk k (by omega)
      have nmk := nmAt k (by omega)
      refine ⟨_, rfl, _, rfl, _, rfl, D, _, rfl, SqL.of hF0.dl, fun S1 nS1 => ?_⟩
      rw [cut_to, ldu, Nat.min_eq_left (show k ≤ ds.length by omega)]
      have lus : (us.take k).length = k := by rw [List.length_take]; omega
      have jS := new_same (o := .lst (us.take k)) nS1
      have eS : upd G0 S1 (.lst (us.take k)) S1 = some (.lst (us.take k)) := upd_same
      have hF1 := hF0.same jS
      generalize upd G0 S1 (.lst (us.take k)) = G1 at jS eS hF1 ⊢
      refine ⟨S1, rfl, ⟨_, SqL.of eS⟩, fun R nR => ?_⟩
      refine lc_list (K := K) (a := S1) (xs := us.take k) (fun j G => Same G1 G ∧ G R = some (.lst ((namesT (ds.take j)).map V.str))) ⟨new_same nR, upd_same⟩ (fun j G _ z => SqL.of (z.1 _ _ eS)) ?_ ?_
      · rintro j y G hy ⟨sm, eR⟩
        have hj : j < k := by rw [← lus]; exact (List.getElem?_eq_some_iff.mp hy).1
        rw [List.getElem?_take, if_pos hj] at hy
        obtain ⟨d, ed, t, rfl, hd⟩ := K07t.each_at hF1.de hy
        obtain ⟨wv, ht0, hw0⟩ := hd
        have ht := Tups.of_same sm _ _ ht0
        have eqs : ∀ {u v : Str}, ¬ u = v → ¬ decide (V.str u = V.str v) = true := fun n => by rw [decide_eq_true_eq]; exact fun z => n (V.str.inj z)
        have tk : namesT (ds.take (j + 1)) = namesT (ds.take j) ++ (nameT d).toList := by
          unfold namesT
          rw [List.take_add_one, ed, List.filterMap_append]
          show _ ++ List.filterMap nameT [d] = _
          cases h : nameT d <;> simp [List.filterMap_cons, h]
        have lj : (namesT (ds.take j)).length ≤ 6 := (nmOk j (by omega)).1
        rw [tk]
        refine ⟨t, _, rfl, ht, rfl, _, _, rfl, _, _, rfl, _, _, rfl, rfl, ?_⟩
        refine ⟨rfl, ?_⟩
        cases d with
        | table b cs =>
          refine ⟨_, rfl, rfl, _, rfl, iteT' (decide_eq_true rfl) ?_⟩
          refine ⟨_, rfl, _, eR, by rw [List.length_map]; omega, own_same nR sm, ?_⟩
          rw [upd_same, List.map_append]
          rfl
        | row b ws' =>
          refine ⟨_, rfl, rfl, _, rfl, iteF' (eqs (show ¬ ("row" : Str) = "table" by decide)) ⟨sm, ?_⟩⟩
          rw [show (nameT (.row b ws')).toList = [] from rfl, List.append_nil]
          exact eR
        | out b kk =>
          refine ⟨_, rfl, rfl, _, rfl, iteF' (eqs (show ¬ ("out" : Str) = "table" by decide)) ⟨sm, ?_⟩⟩
          rw [show (nameT (.out b kk)).toList = [] from rfl, List.append_nil]
          exact eR
      rintro G2 ⟨s2, eR⟩
      rw [lus] at eR
      refine ⟨R, namesT (ds.take k), rfl, SqL.of eR, by omega, fun ys r py sy nr => ?_⟩
      have jr := new_same (o := .lst (ys.map V.str)) nr
      have er : upd G2 r (.lst (ys.map V.str)) r = some (.lst (ys.map V.str)) := upd_same
      have sA := (jS.trans s2).trans jr
      generalize upd G2 r (.lst (ys.map V.str)) = G3 at jr er sA ⊢
      have hF3 := hF0.same sA
      obtain ⟨dx, fs, ip, nf, _⟩ := insN hF3
      have lys : ys.length ≤ 11 := by rw [py.length_eq]; omega
      have yl : ∀ n ∈ ys, isLab n = true := fun n hn => wl n (py.subset hn)
      obtain ⟨z1, z2, z3⟩ := (sm_names lys yl).shown (by decide) (by decide)
      refine ⟨_, rfl, p, dx, fs, rfl, ip, nf, _, rfl, rfl, p, xs ds.length, F', some k, rfl, hF3.sh, hF3.ok, fun G4 D4 ys4 py4 sy4 s4 nD4 eD4 => ?_⟩
      have e4 : ys4 = ys := sortedS_one ((py4.trans (by rw [show (xs ds.length).mo (some k) = k from rfl, nmk])).trans py.symm) sy4 sy
      subst e4
      have er4 := s4 _ _ er
      refine ⟨_, rfl, _, _, rfl, .lst (SqL.of eD4) (dp_strs _), z1, z2, z3, _, rfl, _, _, rfl, .lst (SqL.of er4) (dp_strs _), z1, z2, z3, rfl, _, rfl, iteF' (by simp) ?_⟩
      refine ⟨_, rfl, .inl ⟨rfl, _, SqL.of eD4⟩, D4, _, _, rfl, rfl, eD4, by rw [List.length_map]; omega, ?_⟩
      have s5 : Same G3 (upd G4 D4 (.lst (ys4.map V.str ++ [.non]))) := own_same nD4 s4
      have er5 := s5 _ _ er
      generalize upd G4 D4 (.lst (ys4.map V.str ++ [.non])) = G5 at s5 er5 ⊢
      have hF5' := hF3.same s5
      obtain ⟨dx', fs', ip', nf', _⟩ := insN hF5'
      refine ⟨_, rfl, p, dx', fs', rfl, ip', nf', _, rfl, rfl, p, xs ds.length, F', some k, rfl, hF5'.sh, hF5'.ok, fun G6 D6 ys6 py6 sy6 s6 nD6 eD6 => ?_⟩
      have e6 : ys6 = ys4 := sortedS_one (py6.trans py4.symm) sy6 sy
      subst e6
      refine ⟨_, _, rfl, .lst (SqL.of eD6) (dp_strs _), z1, z2, z3, _, rfl, _, _, rfl, .lst (SqL.of (s6 _ _ er5)) (dp_strs _), z1, z2, z3, rfl, _, rfl, iteF' (by simp) ?_⟩
      have sAll := (sA.trans s5).trans s6
      exact ⟨⟨_, _, _, _, rfl⟩, eG.trans (ExtN.of sAll), tG.ext sAll⟩
    · rintro σ G ⟨h, eG, tG⟩
      exact ⟨h, eG, tG⟩
  rintro σ6 H6 ⟨⟨x5', x6', x7, x8, rfl⟩, e6, t6⟩
  -- now, each name
  refine ⟨fun σ' G => (∃ x5 x6 x7 x8, σ' = [some (.ref a), some (.ref l), some (.ref p), some (.ref D), some (.int ((N : Nat) : Int)), x5, x6, x7, x8, none, none, none]) ∧ ExtN H5 G ∧ Tabs (tabs2 P1 P2) G, ?_, ?_⟩
  · refine ⟨rfl, fun pl HA npl eHA => ?_⟩
    subst eHA
    have jp := new_same (o := .lst (poolL.map V.str)) npl
    have ep : upd H6 pl (.lst (poolL.map V.str)) pl = some (.lst (poolL.map V.str)) := upd_same
    generalize upd H6 pl (.lst (poolL.map V.str)) = HA at jp ep ⊢
    have tA := t6.ext jp
    have eA := e6.trans (ExtN.of jp)
    refine ⟨pl, rfl, ⟨_, SqL.of ep⟩, ?_⟩
    refine for_it (walk_list (K := K) (a := pl) (xs := poolL.map V.str)) (fun k σ G => (∃ x6, σ = [some (.ref a), some (.ref l), some (.ref p), some (.ref D), some (.int ((N : Nat) : Int)), x5', x6, x7, x8, none, none, none]) ∧ ExtN HA G ∧ Tabs (tabs2 P1 P2) G) ⟨⟨_, rfl⟩, ExtN.refl _, tA⟩ (fun k σ G _ z => seq_ext z.2.1 (SqL.of ep)) ?_ ?_
    · rintro k2 y2 σ2 G3 G4 hk2 ⟨⟨x6'', rfl⟩, eG3, tG3⟩ ⟨rfl, hy2⟩
      obtain ⟨n, hn, rfl⟩ := List.mem_map.mp (List.mem_of_getElem? hy2)
      refine ⟨_, rfl, _, rfl, _, rfl, p, D, us, ds, xs, F', n, rfl, hF5.ext (eA.trans eG3), pool_lab n hn, tG3, fun G5 e5 t5 => ⟨true, rfl, iteF ?_⟩⟩
      exact ⟨⟨_, rfl⟩, eG3.trans e5, t5⟩
    · rintro σ2 G3 ⟨⟨x6'', rfl⟩, eG3, tG3⟩
      exact ⟨⟨_, _, _, _, rfl⟩, eA.trans eG3, tG3⟩
  rintro σ7 H7 ⟨⟨y5, y6, y7, y8, rfl⟩, e7, t7⟩
  have hF7 := hF5.ext e7
  obtain ⟨dx7, fs7, ip7, nf7, nm7⟩ := insN hF7
  obtain ⟨w6, wl⟩ := nmOk N (Nat.le_refl _)
  refine ⟨_, rfl, p, dx7, fs7, rfl, ip7, nf7, p, xs ds.length, F', none, rfl, hF7.sh, hF7.ok, fun G4 D4 ys4 py4 sy4 s4 nD4 eD4 => ?_⟩
  have mo0 : (xs ds.length).mo none = N := by rw [hN]; exact ln
  rw [mo0, nmAt N (Nat.le_refl _)] at py4
  have lys : ys4.length ≤ 11 := by rw [py4.length_eq]; omega
  have yl : ∀ n ∈ ys4, isLab n = true := fun n hn => wl n (py4.subset hn)
  obtain ⟨z1, z2, z3⟩ := (sm_names lys yl).shown (by decide) (by decide)
  have hF8 := hF7.same s4
  obtain ⟨dx8, fs8, ip8, nf8, nm8⟩ := insN hF8
  refine ⟨_, _, rfl, .lst (SqL.of eD4) (dp_strs _), z1, z2, z3, _, rfl, p, dx8, fs8, rfl, ip8, nf8, _, rfl, rfl, p, xs ds.length, F', some N, rfl, hF8.sh, hF8.ok, fun G6 D6 ys6 py6 sy6 s6 nD6 eD6 => ?_⟩
  have e6 : ys6 = ys4 := sortedS_one ((py6.trans (by rw [show (xs ds.length).mo (some N) = N from rfl, nmAt N (Nat.le_refl _)])).trans py4.symm) sy6 sy4
  subst e6
  have hF9 := hF8.same s6
  obtain ⟨dx9, fs9, ip9, nf9, nm9⟩ := insN hF9
  refine ⟨_, _, rfl, .lst (SqL.of eD6) (dp_strs _), z1, z2, z3, rfl, true, congrArg V.bl (decide_eq_true rfl), iteT ?_⟩
  refine ⟨_, rfl, p, dx9, fs9, rfl, ip9, nm9, p, xs ds.length, F', rfl, hF9.sh, by rw [ln]; omega, _, rfl, rfl, ?_⟩
  rw [ln, ← hN, decide_eq_true rfl]
  exact q _
end
end K07
end

section
set_option Elab.async false
set_option linter.all false
set_option maxRecDepth 100000
set_option maxHeartbeats 8000000
namespace K07
open PySem PySem.Spec PyProof.Rows L2 Gd LamX K07t
structure ClP (K : PySem.W.Frag) (C : Addr) : Prop where
  ev : EvC K C
  sa : PySem.W.findIn K (.ref C) "__setattr__" = some (some (.builtin "object.__setattr__"))
  ty : PySem.W.typeIn K (.ref C) = some (.type "type")
  kp : PySem.W.keepIn K (.ref C) = true
  cl : (PySem.W.clsIn K C).isSome = true
theorem ClP.tyb {K : PySem.W.Frag} {C : Addr} (h : ClP K C) : ((PySem.W.clsIn K C).isSome && PySem.W.typeIn K (.ref C) == some (.type "type")) = true := by
  rw [h.cl, h.ty]
  simp
abbrev vTail : List Value := [.type "ValueError", .type "Exception", .type "BaseException", .type "object"]
theorem refs_v (c : Addr) : PySem.HandSPX.refsVE (.ref c :: vTail) = true ∧ PySem.HandSPX.refsVE vTail = true := ⟨by rfl, by rfl⟩
section
variable {K : PySem.W.Frag} {C N : Addr} {nm q : Str} {bs bm : List Value} {hdct : Bool} {sn : List Str} {sub : List Value} {ab : Bool} {col : Option Bool}
  {dd : Option Addr} {k0 k1 k2 k3 k5 : Option Value} {nw : String}
theorem cls_of (h : K.lookup C = some (excClassObj nm q C N bs bm hdct sn sub ab col dd k0 k1 k2 k3 k5 nw)) :
    ∃ cd, PySem.W.clsIn K C = some cd ∧ cd.mro = .ref C :: bm := by
  unfold PySem.W.clsIn
  rw [h]
  exact ⟨_, rfl, rfl⟩
theorem some_of (h : K.lookup C = some (excClassObj nm q C N bs bm hdct sn sub ab col dd k0 k1 k2 k3 k5 nw)) : (PySem.W.clsIn K C).isSome = true := by
  unfold PySem.W.clsIn
  rw [h]
  rfl
theorem oex_of (h : K.lookup C = some (excClassObj nm q C N bs bm true sn sub ab col dd k0 k1 k2 k3 k5 "ValueError.__new__"))
    (r : PySem.HandSPX.refsVE bm = true) (p : ClP K C) : OexC K C :=
  ⟨⟨_, _, _, _, _, _, _, _, _, _, _, _, _, _, _, h, r⟩, p.sa, p.ev.sub, p.ty, p.kp⟩
end
theorem tyb_of {K : PySem.W.Frag} {C : Addr} (h : (PySem.W.clsIn K C).isSome = true) (t : PySem.W.typeIn K (.ref C) = some (.type "type")) : ((PySem.W.clsIn K C).isSome && PySem.W.typeIn K (.ref C) == some (.type "type")) = true := by
  rw [h, t]
  simp
theorem all_mk {l : PySem.W.OpenLaw} {w : World} {K : PySem.W.Frag} {h : Heap} {mg : Str → Option Value} {fa : Addr} {C T0 E0 cc1 cc2 P1 P2 f0 f1 f2 f3 f4 f5 f6 f7 f8 f9 f10 f11 f12 f13 f14 f15 f16 f17 f18 f19 f20 f21 f22 f23 f24 f25 f26 f27 f28 f29 f30 f31 f32 f33 f34 D31 D32 D33 C0 N0 C1 N1 C2 N2 C3 N3 C4 N4 C5 N5 C6 N6 C7 N7 C8 N8 C9 N9 C10 N10 C11 N11 C12 N12 C13 N13 C14 N14 C15 N15 C16 N16 C17 N17 C18 N18 C19 N19 g4 : Addr} (X : K.In h) (G : h.Ns mainGlobals mg) (hfa : mg "law" = some (.ref fa))
    {td0 te0 ed1 ed2 od0 an0 od1 an1 od2 an2 od3 an3 od4 an4 od5 an5 od6 an6 od7 an7 od8 an8 od9 an9 od10 an10 od11 an11 od12 an12 od13 an13 od14 an14 od15 an15 od16 an16 od17 an17 od18 an18 od19 an19 od20 an20 od21 an21 od22 an22 od23 an23 od24 an24 od25 an25 od26 an26 od27 an27 od28 an28 od29 an29 od30 an30 od31 an31 od32 an32 od33 an33 od34 an34 iod4 ian4 : Option Addr} {ts0 ts1 es1 es2 sl0 sl1 sl2 sl3 sl4 sl5 sl6 sl7 sl8 sl9 sl10 sl11 sl12 sl13 sl14 sl15 sl16 sl17 sl18 sl19 sl20 sl21 sl22 sl23 sl24 sl25 sl26 sl27 sl28 sl29 sl30 sl31 sl32 sl33 sl34 isl4 : Array (Option Value)} {vs1 vs2 : Array Value} {tc0 ec1 ec2 oc0 dc0 pm0 ct0 kV0 cd0 oc1 dc1 pm1 ct1 kV1 cd1 oc2 dc2 pm2 ct2 kV2 cd2 oc3 dc3 pm3 ct3 kV3 cd3 oc4 dc4 pm4 ct4 kV4 cd4 oc5 dc5 pm5 ct5 kV5 cd5 oc6 dc6 pm6 ct6 kV6 cd6 oc7 dc7 pm7 ct7 kV7 cd7 oc8 dc8 pm8 ct8 kV8 cd8 oc9 dc9 pm9 ct9 kV9 cd9 oc10 dc10 pm10 ct10 kV10 cd10 oc11 dc11 pm11 ct11 kV11 cd11 oc12 dc12 pm12 ct12 kV12 cd12 oc13 dc13 pm13 ct13 kV13 cd13 oc14 dc14 pm14 ct14 kV14 cd14 oc15 dc15 pm15 ct15 kV15 cd15 oc16 dc16 pm16 ct16 kV16 cd16 oc17 dc17 pm17 ct17 kV17 cd17 oc18 dc18 pm18 ct18 kV18 cd18 oc19 dc19 pm19 ct19 kV19 cd19 oc20 dc20 pm20 ct20 kV20 cd20 oc21 dc21 pm21 ct21 kV21 cd21 oc22 dc22 pm22 ct22 kV22 oc23 dc23 pm23 ct23 kV23 oc24 dc24 pm24 ct24 kV24 cd24 oc25 dc25 pm25 ct25 kV25 cd25 oc26 dc26 pm26 ct26 kV26 cd26 oc27 dc27 pm27 ct27 kV27 cd27 oc28 dc28 pm28 ct28 kV28 cd28 oc29 dc29 pm29 ct29 kV29 cd29 oc30 dc30 pm30 ct30 kV30 cd30 oc31 dc31 pm31 ct31 cd31 oc32 dc32 pm32 ct32 cd32 oc33 dc33 pm33 ct33 cd33 oc34 dc34 pm34 ct34 kV34 cd34 ioc4 ikV4 idc4 ipm4 icd4 ict4 : Value} {tn0 tn1 : Nat} {tk0 tk1 tk2 tk3 tk4 tk5 : Tok}
    {nm0 q0_ nm1 q1_ nm2 q2_ nm3 q3_ nm4 q4_ nm5 q5_ nm6 q6_ nm7 q7_ nm8 q8_ nm9 q9_ nm10 q10_ nm11 q11_ nm12 q12_ nm13 q13_ nm14 q14_ nm15 q15_ nm16 q16_ nm17 q17_ nm18 q18_ nm19 q19_ : Str} {bs0 su0 bs1 su1 bs2 su2 bs3 su3 bs4 su4 bs5 su5 bs6 su6 bs7 su7 bs8 su8 bs9 su9 bs10 su10 bs11 su11 bs12 su12 bs13 su13 bs14 su14 bs15 su15 bs16 su16 bs17 su17 bs18 su18 bs19 su19 bm6 bm7 bm8 bm9 bm10 bm11 bm12 bm13 bm14 bm15 bm16 bm17 bm18 bm19 : List Value} {sn0 sn1 sn2 sn3 sn4 sn5 sn6 sn7 sn8 sn9 sn10 sn11 sn12 sn13 sn14 sn15 sn16 sn17 sn18 sn19 : List Str} {ab0 ab1 ab2 ab3 ab4 ab5 ab6 ab7 ab8 ab9 ab10 ab11 ab12 ab13 ab14 ab15 ab16 ab17 ab18 ab19 : Bool} {nw6 nw7 nw8 nw9 nw10 nw11 nw12 nw13 nw14 nw15 nw16 nw17 nw18 nw19 : String}
    {co0 co1 co2 co3 co4 co5 co6 co7 co8 co9 co10 co11 co12 co13 co14 co15 co16 co17 co18 co19 : Option Bool} {dd0 dd1 dd2 dd3 dd4 dd5 dd6 dd7 dd8 dd9 dd10 dd11 dd12 dd13 dd14 dd15 dd16 dd17 dd18 dd19 : Option Addr} {a0_0 a0_1 a0_2 a0_3 a0_5 a1_0 a1_1 a1_2 a1_3 a1_5 a2_0 a2_1 a2_2 a2_3 a2_5 a3_0 a3_1 a3_2 a3_3 a3_5 a4_0 a4_1 a4_2 a4_3 a4_5 a5_0 a5_1 a5_2 a5_3 a5_5 a6_0 a6_1 a6_2 a6_3 a6_5 a7_0 a7_1 a7_2 a7_3 a7_5 a8_0 a8_1 a8_2 a8_3 a8_5 a9_0 a9_1 a9_2 a9_3 a9_5 a10_0 a10_1 a10_2 a10_3 a10_5 a11_0 a11_1 a11_2 a11_3 a11_5 a12_0 a12_1 a12_2 a12_3 a12_5 a13_0 a13_1 a13_2 a13_3 a13_5 a14_0 a14_1 a14_2 a14_3 a14_5 a15_0 a15_1 a15_2 a15_3 a15_5 a16_0 a16_1 a16_2 a16_3 a16_5 a17_0 a17_1 a17_2 a17_3 a17_5 a18_0 a18_1 a18_2 a18_3 a18_5 a19_0 a19_1 a19_2 a19_3 a19_5 : Option Value}
    (aC : PySem.W.nsIn K mainGlobals "Tables" = some (some (.ref C)))
    (aF0 : PySem.W.nsIn K mainGlobals "is_name" = some (some (.ref f0)))
    (lF0 : K.lookup f0 = some ⟨oc0, od0, .func (PySem.W.fnOf "is_name" "is_name" (defArgs sName) (defBody sName) (defScope sName) .none kV0 dc0 pm0 an0 cd0 ct0), sl0⟩)
    (cF0 : PySem.W.codeIn K cd0 "is_name" = true)
    (kF0 : PySem.W.keepIn K (.ref f0) = true)
    (aF1 : PySem.W.nsIn K mainGlobals "is_whole" = some (some (.ref f1)))
    (lF1 : K.lookup f1 = some ⟨oc1, od1, .func (PySem.W.fnOf "is_whole" "is_whole" (defArgs sWhole) (defBody sWhole) (defScope sWhole) .none kV1 dc1 pm1 an1 cd1 ct1), sl1⟩)
    (cF1 : PySem.W.codeIn K cd1 "is_whole" = true)
    (kF1 : PySem.W.keepIn K (.ref f1) = true)
    (aF2 : PySem.W.nsIn K mainGlobals "is_number" = some (some (.ref f2)))
    (lF2 : K.lookup f2 = some ⟨oc2, od2, .func (PySem.W.fnOf "is_number" "is_number" (defArgs sNumber) (defBody sNumber) (defScope sNumber) .none kV2 dc2 pm2 an2 cd2 ct2), sl2⟩)
    (cF2 : PySem.W.codeIn K cd2 "is_number" = true)
    (kF2 : PySem.W.keepIn K (.ref f2) = true)
    (aF3 : PySem.W.nsIn K mainGlobals "_is_deed" = some (some (.ref f3)))
    (lF3 : K.lookup f3 = some ⟨oc3, od3, .func (PySem.W.fnOf "_is_deed" "_is_deed" (defArgs sDeed) (defBody sDeed) (defScope sDeed) .none kV3 dc3 pm3 an3 cd3 ct3), sl3⟩)
    (cF3 : PySem.W.codeIn K cd3 "_is_deed" = true)
    (kF3 : PySem.W.keepIn K (.ref f3) = true)
    (aF4 : PySem.W.nsIn K mainGlobals "_are_columns" = some (some (.ref f4)))
    (lF4 : K.lookup f4 = some ⟨oc4, od4, .func (PySem.W.fnOf "_are_columns" "_are_columns" (defArgs sCol) (defBody sCol) (defScope sCol) .none kV4 dc4 pm4 an4 cd4 ct4), sl4⟩)
    (cF4 : PySem.W.codeIn K cd4 "_are_columns" = true)
    (kF4 : PySem.W.keepIn K (.ref f4) = true)
    (aF5 : PySem.W.nsIn K mainGlobals "copied" = some (some (.ref f5)))
    (lF5 : K.lookup f5 = some ⟨oc5, od5, .func (PySem.W.fnOf "copied" "copied" (defArgs sCopied) (defBody sCopied) (defScope sCopied) .none kV5 dc5 pm5 an5 cd5 ct5), sl5⟩)
    (cF5 : PySem.W.codeIn K cd5 "copied" = true)
    (kF5 : PySem.W.keepIn K (.ref f5) = true)
    (aF6 : PySem.W.nsIn K mainGlobals "_law_pen" = some (some (.ref f6)))
    (lF6 : K.lookup f6 = some ⟨oc6, od6, .func (PySem.W.fnOf "_law_pen" "_law_pen" (defArgs sPen) (defBody sPen) (defScope sPen) .none kV6 dc6 pm6 an6 cd6 ct6), sl6⟩)
    (cF6 : PySem.W.codeIn K cd6 "_law_pen" = true)
    (kF6 : PySem.W.keepIn K (.ref f6) = true)
    (aF7 : PySem.W.nsIn K mainGlobals "_law_draw" = some (some (.ref f7)))
    (lF7 : K.lookup f7 = some ⟨oc7, od7, .func (PySem.W.fnOf "_law_draw" "_law_draw" (defArgs sDraw) (defBody sDraw) (defScope sDraw) .none kV7 dc7 pm7 an7 cd7 ct7), sl7⟩)
    (cF7 : PySem.W.codeIn K cd7 "_law_draw" = true)
    (kF7 : PySem.W.keepIn K (.ref f7) = true)
    (aF8 : PySem.W.nsIn K mainGlobals "_law_pool" = some (some (.ref f8)))
    (lF8 : K.lookup f8 = some ⟨oc8, od8, .func (PySem.W.fnOf "_law_pool" "_law_pool" (defArgs sPool) (defBody sPool) (defScope sPool) .none kV8 dc8 pm8 an8 cd8 ct8), sl8⟩)
    (cF8 : PySem.W.codeIn K cd8 "_law_pool" = true)
    (kF8 : PySem.W.keepIn K (.ref f8) = true)
    (aF9 : PySem.W.nsIn K mainGlobals "_law_columns" = some (some (.ref f9)))
    (lF9 : K.lookup f9 = some ⟨oc9, od9, .func (PySem.W.fnOf "_law_columns" "_law_columns" (defArgs sCols) (defBody sCols) (defScope sCols) .none kV9 dc9 pm9 an9 cd9 ct9), sl9⟩)
    (cF9 : PySem.W.codeIn K cd9 "_law_columns" = true)
    (kF9 : PySem.W.keepIn K (.ref f9) = true)
    (aF10 : PySem.W.nsIn K mainGlobals "_law_worth" = some (some (.ref f10)))
    (lF10 : K.lookup f10 = some ⟨oc10, od10, .func (PySem.W.fnOf "_law_worth" "_law_worth" (defArgs sWor) (defBody sWor) (defScope sWor) .none kV10 dc10 pm10 an10 cd10 ct10), sl10⟩)
    (cF10 : PySem.W.codeIn K cd10 "_law_worth" = true)
    (kF10 : PySem.W.keepIn K (.ref f10) = true)
    (aF11 : PySem.W.nsIn K mainGlobals "_law_named" = some (some (.ref f11)))
    (lF11 : K.lookup f11 = some ⟨oc11, od11, .func (PySem.W.fnOf "_law_named" "_law_named" (defArgs sNamed) (defBody sNamed) (defScope sNamed) .none kV11 dc11 pm11 an11 cd11 ct11), sl11⟩)
    (cF11 : PySem.W.codeIn K cd11 "_law_named" = true)
    (kF11 : PySem.W.keepIn K (.ref f11) = true)
    (aF12 : PySem.W.nsIn K mainGlobals "_law_is_name" = some (some (.ref f12)))
    (lF12 : K.lookup f12 = some ⟨oc12, od12, .func (PySem.W.fnOf "_law_is_name" "_law_is_name" (defArgs sName7) (defBody sName7) (defScope sName7) .none kV12 dc12 pm12 an12 cd12 ct12), sl12⟩)
    (cF12 : PySem.W.codeIn K cd12 "_law_is_name" = true)
    (kF12 : PySem.W.keepIn K (.ref f12) = true)
    (aF13 : PySem.W.nsIn K mainGlobals "_law_is_whole" = some (some (.ref f13)))
    (lF13 : K.lookup f13 = some ⟨oc13, od13, .func (PySem.W.fnOf "_law_is_whole" "_law_is_whole" (defArgs sWhole7) (defBody sWhole7) (defScope sWhole7) .none kV13 dc13 pm13 an13 cd13 ct13), sl13⟩)
    (cF13 : PySem.W.codeIn K cd13 "_law_is_whole" = true)
    (kF13 : PySem.W.keepIn K (.ref f13) = true)
    (aF14 : PySem.W.nsIn K mainGlobals "_law_is_formed" = some (some (.ref f14)))
    (lF14 : K.lookup f14 = some ⟨oc14, od14, .func (PySem.W.fnOf "_law_is_formed" "_law_is_formed" (defArgs sFormed) (defBody sFormed) (defScope sFormed) .none kV14 dc14 pm14 an14 cd14 ct14), sl14⟩)
    (cF14 : PySem.W.codeIn K cd14 "_law_is_formed" = true)
    (kF14 : PySem.W.keepIn K (.ref f14) = true)
    (aF15 : PySem.W.nsIn K mainGlobals "_law_due" = some (some (.ref f15)))
    (lF15 : K.lookup f15 = some ⟨oc15, od15, .func (PySem.W.fnOf "_law_due" "_law_due" (defArgs sLDue) (defBody sLDue) (defScope sLDue) .none kV15 dc15 pm15 an15 cd15 ct15), sl15⟩)
    (cF15 : PySem.W.codeIn K cd15 "_law_due" = true)
    (kF15 : PySem.W.keepIn K (.ref f15) = true)
    (aF16 : PySem.W.nsIn K mainGlobals "_law_follow" = some (some (.ref f16)))
    (lF16 : K.lookup f16 = some ⟨oc16, od16, .func (PySem.W.fnOf "_law_follow" "_law_follow" (defArgs sFollow) (defBody sFollow) (defScope sFollow) .none kV16 dc16 pm16 an16 cd16 ct16), sl16⟩)
    (cF16 : PySem.W.codeIn K cd16 "_law_follow" = true)
    (kF16 : PySem.W.keepIn K (.ref f16) = true)
    (aF17 : PySem.W.nsIn K mainGlobals "_law_deed" = some (some (.ref f17)))
    (lF17 : K.lookup f17 = some ⟨oc17, od17, .func (PySem.W.fnOf "_law_deed" "_law_deed" (defArgs sDd) (defBody sDd) (defScope sDd) .none kV17 dc17 pm17 an17 cd17 ct17), sl17⟩)
    (cF17 : PySem.W.codeIn K cd17 "_law_deed" = true)
    (kF17 : PySem.W.keepIn K (.ref f17) = true)
    (aF18 : PySem.W.nsIn K mainGlobals "_law_heard" = some (some (.ref f18)))
    (lF18 : K.lookup f18 = some ⟨oc18, od18, .func (PySem.W.fnOf "_law_heard" "_law_heard" (defArgs sHeard) (defBody sHeard) (defScope sHeard) .none kV18 dc18 pm18 an18 cd18 ct18), sl18⟩)
    (cF18 : PySem.W.codeIn K cd18 "_law_heard" = true)
    (kF18 : PySem.W.keepIn K (.ref f18) = true)
    (aF19 : PySem.W.nsIn K mainGlobals "_law_rows" = some (some (.ref f19)))
    (lF19 : K.lookup f19 = some ⟨oc19, od19, .func (PySem.W.fnOf "_law_rows" "_law_rows" (defArgs sRo) (defBody sRo) (defScope sRo) .none kV19 dc19 pm19 an19 cd19 ct19), sl19⟩)
    (cF19 : PySem.W.codeIn K cd19 "_law_rows" = true)
    (kF19 : PySem.W.keepIn K (.ref f19) = true)
    (aF20 : PySem.W.nsIn K mainGlobals "_law_told_columns" = some (some (.ref f20)))
    (lF20 : K.lookup f20 = some ⟨oc20, od20, .func (PySem.W.fnOf "_law_told_columns" "_law_told_columns" (defArgs sTc) (defBody sTc) (defScope sTc) .none kV20 dc20 pm20 an20 cd20 ct20), sl20⟩)
    (cF20 : PySem.W.codeIn K cd20 "_law_told_columns" = true)
    (kF20 : PySem.W.keepIn K (.ref f20) = true)
    (aF21 : PySem.W.nsIn K mainGlobals "_law_history" = some (some (.ref f21)))
    (lF21 : K.lookup f21 = some ⟨oc21, od21, .func (PySem.W.fnOf "_law_history" "_law_history" (defArgs sHi) (defBody sHi) (defScope sHi) .none kV21 dc21 pm21 an21 cd21 ct21), sl21⟩)
    (cF21 : PySem.W.codeIn K cd21 "_law_history" = true)
    (kF21 : PySem.W.keepIn K (.ref f21) = true)
    (aF22 : PySem.W.nsIn K mainGlobals "_law_name_right" = some (some (.ref f22)))
    (lF22 : K.lookup f22 = some ⟨oc22, od22, .func (PySem.W.fnOf "_law_name_right" "_law_name_right" (defArgs sNr) (defBody sNr) (defScope sNr) .none kV22 dc22 pm22 an22 (.ref cc1) ct22), sl22⟩)
    (cF22 : PySem.W.codeIn K (.ref cc1) "_law_name_right" = true)
    (kF22 : PySem.W.keepIn K (.ref f22) = true)
    (aF23 : PySem.W.nsIn K mainGlobals "_law_now_right" = some (some (.ref f23)))
    (lF23 : K.lookup f23 = some ⟨oc23, od23, .func (PySem.W.fnOf "_law_now_right" "_law_now_right" (defArgs sNw) (defBody sNw) (defScope sNw) .none kV23 dc23 pm23 an23 (.ref cc2) ct23), sl23⟩)
    (cF23 : PySem.W.codeIn K (.ref cc2) "_law_now_right" = true)
    (kF23 : PySem.W.keepIn K (.ref f23) = true)
    (aF24 : PySem.W.nsIn K mainGlobals "law" = some (some (.ref f24)))
    (lF24 : K.lookup f24 = some ⟨oc24, od24, .func (PySem.W.fnOf "law" "law" (defArgs sLaw) (defBody sLaw) (defScope sLaw) .none kV24 dc24 pm24 an24 cd24 ct24), sl24⟩)
    (cF24 : PySem.W.codeIn K cd24 "law" = true)
    (kF24 : PySem.W.keepIn K (.ref f24) = true)
    (aF25 : PySem.W.findIn K (.ref C) "do" = some (some (.ref f25)))
    (iF25 : PySem.W.isFn K (.ref f25) = true)
    (lF25 : K.lookup f25 = some ⟨oc25, od25, .func (PySem.W.fnOf "do" "Tables.do" (defArgs sDo) (defBody sDo) (defScope sDo) .none kV25 dc25 pm25 an25 cd25 ct25), sl25⟩)
    (cF25 : PySem.W.codeIn K cd25 "Tables.do" = true)
    (kF25 : PySem.W.keepIn K (.ref f25) = true)
    (aF26 : PySem.W.findIn K (.ref C) "_make" = some (some (.ref f26)))
    (iF26 : PySem.W.isFn K (.ref f26) = true)
    (lF26 : K.lookup f26 = some ⟨oc26, od26, .func (PySem.W.fnOf "_make" "Tables._make" (defArgs sMake) (defBody sMake) (defScope sMake) .none kV26 dc26 pm26 an26 cd26 ct26), sl26⟩)
    (cF26 : PySem.W.codeIn K cd26 "Tables._make" = true)
    (kF26 : PySem.W.keepIn K (.ref f26) = true)
    (aF27 : PySem.W.findIn K (.ref C) "_put" = some (some (.ref f27)))
    (iF27 : PySem.W.isFn K (.ref f27) = true)
    (lF27 : K.lookup f27 = some ⟨oc27, od27, .func (PySem.W.fnOf "_put" "Tables._put" (defArgs sPut) (defBody sPut) (defScope sPut) .none kV27 dc27 pm27 an27 cd27 ct27), sl27⟩)
    (cF27 : PySem.W.codeIn K cd27 "Tables._put" = true)
    (kF27 : PySem.W.keepIn K (.ref f27) = true)
    (aF28 : PySem.W.findIn K (.ref C) "_take_out" = some (some (.ref f28)))
    (iF28 : PySem.W.isFn K (.ref f28) = true)
    (lF28 : K.lookup f28 = some ⟨oc28, od28, .func (PySem.W.fnOf "_take_out" "Tables._take_out" (defArgs sOut) (defBody sOut) (defScope sOut) .none kV28 dc28 pm28 an28 cd28 ct28), sl28⟩)
    (cF28 : PySem.W.codeIn K cd28 "Tables._take_out" = true)
    (kF28 : PySem.W.keepIn K (.ref f28) = true)
    (aF29 : PySem.W.findIn K (.ref C) "moment" = some (some (.ref f29)))
    (iF29 : PySem.W.isFn K (.ref f29) = true)
    (lF29 : K.lookup f29 = some ⟨oc29, od29, .func (PySem.W.fnOf "moment" "Tables.moment" (defArgs sMom) (defBody sMom) (defScope sMom) .none kV29 dc29 pm29 an29 cd29 ct29), sl29⟩)
    (cF29 : PySem.W.codeIn K cd29 "Tables.moment" = true)
    (kF29 : PySem.W.keepIn K (.ref f29) = true)
    (aF30 : PySem.W.findIn K (.ref C) "_moment_of" = some (some (.ref f30)))
    (iF30 : PySem.W.isFn K (.ref f30) = true)
    (lF30 : K.lookup f30 = some ⟨oc30, od30, .func (PySem.W.fnOf "_moment_of" "Tables._moment_of" (defArgs sMof) (defBody sMof) (defScope sMof) .none kV30 dc30 pm30 an30 cd30 ct30), sl30⟩)
    (cF30 : PySem.W.codeIn K cd30 "Tables._moment_of" = true)
    (kF30 : PySem.W.keepIn K (.ref f30) = true)
    (aF31 : PySem.W.findIn K (.ref C) "rows" = some (some (.ref f31)))
    (iF31 : PySem.W.isFn K (.ref f31) = true)
    (lF31 : K.lookup f31 = some ⟨oc31, od31, .func (PySem.W.fnOf "rows" "Tables.rows" (defArgs sRows) (defBody sRows) (defScope sRows) .none (.ref D31) dc31 pm31 an31 cd31 ct31), sl31⟩)
    (cF31 : PySem.W.codeIn K cd31 "Tables.rows" = true)
    (kF31 : PySem.W.keepIn K (.ref f31) = true)
    (dF31 : PySem.W.nsIn K D31 "moment" = some (some .none))
    (aF32 : PySem.W.findIn K (.ref C) "columns" = some (some (.ref f32)))
    (iF32 : PySem.W.isFn K (.ref f32) = true)
    (lF32 : K.lookup f32 = some ⟨oc32, od32, .func (PySem.W.fnOf "columns" "Tables.columns" (defArgs sColumns) (defBody sColumns) (defScope sColumns) .none (.ref D32) dc32 pm32 an32 cd32 ct32), sl32⟩)
    (cF32 : PySem.W.codeIn K cd32 "Tables.columns" = true)
    (kF32 : PySem.W.keepIn K (.ref f32) = true)
    (dF32 : PySem.W.nsIn K D32 "moment" = some (some .none))
    (aF33 : PySem.W.findIn K (.ref C) "names" = some (some (.ref f33)))
    (iF33 : PySem.W.isFn K (.ref f33) = true)
    (lF33 : K.lookup f33 = some ⟨oc33, od33, .func (PySem.W.fnOf "names" "Tables.names" (defArgs sNames) (defBody sNames) (defScope sNames) .none (.ref D33) dc33 pm33 an33 cd33 ct33), sl33⟩)
    (cF33 : PySem.W.codeIn K cd33 "Tables.names" = true)
    (kF33 : PySem.W.keepIn K (.ref f33) = true)
    (dF33 : PySem.W.nsIn K D33 "moment" = some (some .none))
    (aF34 : PySem.W.findIn K (.ref C) "__init__" = some (some (.ref f34)))
    (iF34 : PySem.W.isFn K (.ref f34) = true)
    (lF34 : K.lookup f34 = some ⟨oc34, od34, .func (PySem.W.fnOf "__init__" "Tables.__init__" (defArgs sInit) (defBody sInit) (defScope sInit) (.ref T0) kV34 dc34 pm34 an34 cd34 ct34), sl34⟩)
    (cF34 : PySem.W.codeIn K cd34 "Tables.__init__" = true)
    (kF34 : PySem.W.keepIn K (.ref f34) = true)
    (lT0 : K.lookup T0 = some ⟨tc0, td0, .seq #[.ref E0] tn0, ts0⟩)
    (lE0 : K.lookup E0 = some ⟨.type "tuple", te0, .seq #[] tn1, ts1⟩)
    (lK1 : K.lookup cc1 = some ⟨ec1, ed1, .fields vs1, es1⟩)
    (pK1 : vs1[11]? = some (.ref P1))
    (nK1 : K.lookup P1 = none)
    (lK2 : K.lookup cc2 = some ⟨ec2, ed2, .fields vs2, es2⟩)
    (pK2 : vs2[11]? = some (.ref P2))
    (nK2 : K.lookup P2 = none)
    (pg : PySem.W.plainGet K C Str.empty = true)
    (hd : PySem.W.hasDictIn K C = true)
    (po : PySem.W.plainOver K C = true)
    (sa : PySem.W.findIn K (.ref C) "__setattr__" = some (some (.builtin "object.__setattr__")))
    (mk : PySem.W.makesIn K C = true)
    (kc : PySem.W.keepIn K (.ref C) = true)
    (n_deeds : PySem.W.findIn K (.ref C) "_deeds" = some none)
    (n_columns : PySem.W.findIn K (.ref C) "_columns" = some none)
    (n_made : PySem.W.findIn K (.ref C) "_made" = some none)
    (n_rows : PySem.W.findIn K (.ref C) "_rows" = some none)
    (q0 : PySem.W.nsIn K mainGlobals "_LETTERS" = some (some (.str "abcdefghijklmnopqrstuvwxyz" tk0)))
    (q1 : PySem.W.nsIn K mainGlobals "_LONGEST_NAME" = some (some (.int 8 tk1)))
    (q2 : PySem.W.nsIn K mainGlobals "_TOO_GREAT" = some (some (.int 1000000000000000000000000000000 tk2)))
    (q3 : PySem.W.nsIn K mainGlobals "_MOST_COLUMNS" = some (some (.int 4 tk3)))
    (q4 : PySem.W.nsIn K mainGlobals "_MOST_TABLES" = some (some (.int 6 tk4)))
    (q5 : PySem.W.nsIn K mainGlobals "_MOST_ROWS" = some (some (.int 60 tk5)))
    (aC0 : PySem.W.nsIn K mainGlobals "NoDeed" = some (some (.ref C0)))
    (xC0 : K.lookup C0 = some (excClassObj nm0 q0_ C0 N0 bs0 (.ref C5 :: vTail) true sn0 su0 ab0 co0 dd0 a0_0 a0_1 a0_2 a0_3 a0_5 "ValueError.__new__"))
    (b1C0 : PySem.W.findIn K (.ref C0) "__getattribute__" = some (some (.builtin "BaseException.__getattribute__")))
    (b2C0 : PySem.W.findIn K (.ref C0) "__getattr__" = some none)
    (b3C0 : PySem.W.subIn K (.ref C0) (.type "BaseException") = some true)
    (b4C0 : PySem.W.hasDictIn K C0 = true)
    (b5C0 : PySem.W.findIn K (.ref C0) "__class__" = some (some (.builtin "object.__class__")))
    (b6C0 : PySem.W.mroIn K C0 (.type "object") = some true)
    (b7C0 : PySem.W.findIn K (.ref C0) "__setattr__" = some (some (.builtin "object.__setattr__")))
    (b9C0 : PySem.W.keepIn K (.ref C0) = true)
    (b8C0 : PySem.W.typeIn K (.ref C0) = some (.type "type"))
    (aC1 : PySem.W.nsIn K mainGlobals "Taken" = some (some (.ref C1)))
    (xC1 : K.lookup C1 = some (excClassObj nm1 q1_ C1 N1 bs1 (.ref C5 :: vTail) true sn1 su1 ab1 co1 dd1 a1_0 a1_1 a1_2 a1_3 a1_5 "ValueError.__new__"))
    (b1C1 : PySem.W.findIn K (.ref C1) "__getattribute__" = some (some (.builtin "BaseException.__getattribute__")))
    (b2C1 : PySem.W.findIn K (.ref C1) "__getattr__" = some none)
    (b3C1 : PySem.W.subIn K (.ref C1) (.type "BaseException") = some true)
    (b4C1 : PySem.W.hasDictIn K C1 = true)
    (b5C1 : PySem.W.findIn K (.ref C1) "__class__" = some (some (.builtin "object.__class__")))
    (b6C1 : PySem.W.mroIn K C1 (.type "object") = some true)
    (b7C1 : PySem.W.findIn K (.ref C1) "__setattr__" = some (some (.builtin "object.__setattr__")))
    (b9C1 : PySem.W.keepIn K (.ref C1) = true)
    (b8C1 : PySem.W.typeIn K (.ref C1) = some (.type "type"))
    (nf1 : PySem.W.findIn K (.ref C1) "name" = some none)
    (aC2 : PySem.W.nsIn K mainGlobals "TooMany" = some (some (.ref C2)))
    (xC2 : K.lookup C2 = some (excClassObj nm2 q2_ C2 N2 bs2 (.ref C5 :: vTail) true sn2 su2 ab2 co2 dd2 a2_0 a2_1 a2_2 a2_3 a2_5 "ValueError.__new__"))
    (b1C2 : PySem.W.findIn K (.ref C2) "__getattribute__" = some (some (.builtin "BaseException.__getattribute__")))
    (b2C2 : PySem.W.findIn K (.ref C2) "__getattr__" = some none)
    (b3C2 : PySem.W.subIn K (.ref C2) (.type "BaseException") = some true)
    (b4C2 : PySem.W.hasDictIn K C2 = true)
    (b5C2 : PySem.W.findIn K (.ref C2) "__class__" = some (some (.builtin "object.__class__")))
    (b6C2 : PySem.W.mroIn K C2 (.type "object") = some true)
    (b7C2 : PySem.W.findIn K (.ref C2) "__setattr__" = some (some (.builtin "object.__setattr__")))
    (b9C2 : PySem.W.keepIn K (.ref C2) = true)
    (b8C2 : PySem.W.typeIn K (.ref C2) = some (.type "type"))
    (nf2 : PySem.W.findIn K (.ref C2) "most" = some none)
    (aC3 : PySem.W.nsIn K mainGlobals "NoPlace" = some (some (.ref C3)))
    (xC3 : K.lookup C3 = some (excClassObj nm3 q3_ C3 N3 bs3 (.ref C5 :: vTail) true sn3 su3 ab3 co3 dd3 a3_0 a3_1 a3_2 a3_3 a3_5 "ValueError.__new__"))
    (b1C3 : PySem.W.findIn K (.ref C3) "__getattribute__" = some (some (.builtin "BaseException.__getattribute__")))
    (b2C3 : PySem.W.findIn K (.ref C3) "__getattr__" = some none)
    (b3C3 : PySem.W.subIn K (.ref C3) (.type "BaseException") = some true)
    (b4C3 : PySem.W.hasDictIn K C3 = true)
    (b5C3 : PySem.W.findIn K (.ref C3) "__class__" = some (some (.builtin "object.__class__")))
    (b6C3 : PySem.W.mroIn K C3 (.type "object") = some true)
    (b7C3 : PySem.W.findIn K (.ref C3) "__setattr__" = some (some (.builtin "object.__setattr__")))
    (b9C3 : PySem.W.keepIn K (.ref C3) = true)
    (b8C3 : PySem.W.typeIn K (.ref C3) = some (.type "type"))
    (nf3 : PySem.W.findIn K (.ref C3) "number" = some none)
    (aC4 : PySem.W.nsIn K mainGlobals "Unknown" = some (some (.ref C4)))
    (xC4 : K.lookup C4 = some (excClassObj nm4 q4_ C4 N4 bs4 (Gk.tail) true sn4 su4 ab4 co4 dd4 a4_0 a4_1 a4_2 a4_3 a4_5 "LookupError.__new__"))
    (b1C4 : PySem.W.findIn K (.ref C4) "__getattribute__" = some (some (.builtin "BaseException.__getattribute__")))
    (b2C4 : PySem.W.findIn K (.ref C4) "__getattr__" = some none)
    (b3C4 : PySem.W.subIn K (.ref C4) (.type "BaseException") = some true)
    (b4C4 : PySem.W.hasDictIn K C4 = true)
    (b5C4 : PySem.W.findIn K (.ref C4) "__class__" = some (some (.builtin "object.__class__")))
    (b6C4 : PySem.W.mroIn K C4 (.type "object") = some true)
    (b7C4 : PySem.W.findIn K (.ref C4) "__setattr__" = some (some (.builtin "object.__setattr__")))
    (b9C4 : PySem.W.keepIn K (.ref C4) = true)
    (b8C4 : PySem.W.typeIn K (.ref C4) = some (.type "type"))
    (nf4 : PySem.W.findIn K (.ref C4) "name" = some none)
    (aI4 : PySem.W.findIn K (.ref C4) "__init__" = some (some (.ref g4)))
    (tI4 : PySem.W.typeIn K (.ref g4) = some (.type "function"))
    (lI4 : K.lookup g4 = some ⟨ioc4, iod4, .func (PySem.W.fnOf "__init__" "Unknown.__init__" (defArgs sIUnknown) (defBody sIUnknown) (defScope sIUnknown) .none ikV4 idc4 ipm4 ian4 icd4 ict4), isl4⟩)
    (cI4 : PySem.W.codeIn K icd4 "Unknown.__init__" = true)
    (kI4 : PySem.W.keepIn K (.ref g4) = true)
    (aC5 : PySem.W.nsIn K mainGlobals "PlanError" = some (some (.ref C5)))
    (xC5 : K.lookup C5 = some (excClassObj nm5 q5_ C5 N5 bs5 (vTail) true sn5 su5 ab5 co5 dd5 a5_0 a5_1 a5_2 a5_3 a5_5 "ValueError.__new__"))
    (b1C5 : PySem.W.findIn K (.ref C5) "__getattribute__" = some (some (.builtin "BaseException.__getattribute__")))
    (b2C5 : PySem.W.findIn K (.ref C5) "__getattr__" = some none)
    (b3C5 : PySem.W.subIn K (.ref C5) (.type "BaseException") = some true)
    (b4C5 : PySem.W.hasDictIn K C5 = true)
    (b5C5 : PySem.W.findIn K (.ref C5) "__class__" = some (some (.builtin "object.__class__")))
    (b6C5 : PySem.W.mroIn K C5 (.type "object") = some true)
    (b7C5 : PySem.W.findIn K (.ref C5) "__setattr__" = some (some (.builtin "object.__setattr__")))
    (b9C5 : PySem.W.keepIn K (.ref C5) = true)
    (b8C5 : PySem.W.typeIn K (.ref C5) = some (.type "type"))
    (aC6 : PySem.W.nsIn K mainGlobals "NoWorth" = some (some (.ref C6)))
    (xC6 : K.lookup C6 = some (excClassObj nm6 q6_ C6 N6 bs6 (bm6) true sn6 su6 ab6 co6 dd6 a6_0 a6_1 a6_2 a6_3 a6_5 nw6))
    (b8C6 : PySem.W.typeIn K (.ref C6) = some (.type "type"))
    (aC7 : PySem.W.nsIn K mainGlobals "NoAsk" = some (some (.ref C7)))
    (xC7 : K.lookup C7 = some (excClassObj nm7 q7_ C7 N7 bs7 (bm7) true sn7 su7 ab7 co7 dd7 a7_0 a7_1 a7_2 a7_3 a7_5 nw7))
    (b8C7 : PySem.W.typeIn K (.ref C7) = some (.type "type"))
    (aC8 : PySem.W.nsIn K mainGlobals "Spent" = some (some (.ref C8)))
    (xC8 : K.lookup C8 = some (excClassObj nm8 q8_ C8 N8 bs8 (bm8) true sn8 su8 ab8 co8 dd8 a8_0 a8_1 a8_2 a8_3 a8_5 nw8))
    (b8C8 : PySem.W.typeIn K (.ref C8) = some (.type "type"))
    (aC9 : PySem.W.nsIn K mainGlobals "NoRule" = some (some (.ref C9)))
    (xC9 : K.lookup C9 = some (excClassObj nm9 q9_ C9 N9 bs9 (bm9) true sn9 su9 ab9 co9 dd9 a9_0 a9_1 a9_2 a9_3 a9_5 nw9))
    (b8C9 : PySem.W.typeIn K (.ref C9) = some (.type "type"))
    (aC10 : PySem.W.nsIn K mainGlobals "NoRoom" = some (some (.ref C10)))
    (xC10 : K.lookup C10 = some (excClassObj nm10 q10_ C10 N10 bs10 (bm10) true sn10 su10 ab10 co10 dd10 a10_0 a10_1 a10_2 a10_3 a10_5 nw10))
    (b8C10 : PySem.W.typeIn K (.ref C10) = some (.type "type"))
    (aC11 : PySem.W.nsIn K mainGlobals "Done" = some (some (.ref C11)))
    (xC11 : K.lookup C11 = some (excClassObj nm11 q11_ C11 N11 bs11 (bm11) true sn11 su11 ab11 co11 dd11 a11_0 a11_1 a11_2 a11_3 a11_5 nw11))
    (b8C11 : PySem.W.typeIn K (.ref C11) = some (.type "type"))
    (aC12 : PySem.W.nsIn K mainGlobals "NotDone" = some (some (.ref C12)))
    (xC12 : K.lookup C12 = some (excClassObj nm12 q12_ C12 N12 bs12 (bm12) true sn12 su12 ab12 co12 dd12 a12_0 a12_1 a12_2 a12_3 a12_5 nw12))
    (b8C12 : PySem.W.typeIn K (.ref C12) = some (.type "type"))
    (aC13 : PySem.W.nsIn K mainGlobals "NoName" = some (some (.ref C13)))
    (xC13 : K.lookup C13 = some (excClassObj nm13 q13_ C13 N13 bs13 (bm13) true sn13 su13 ab13 co13 dd13 a13_0 a13_1 a13_2 a13_3 a13_5 nw13))
    (b8C13 : PySem.W.typeIn K (.ref C13) = some (.type "type"))
    (aC14 : PySem.W.nsIn K mainGlobals "Busy" = some (some (.ref C14)))
    (xC14 : K.lookup C14 = some (excClassObj nm14 q14_ C14 N14 bs14 (bm14) true sn14 su14 ab14 co14 dd14 a14_0 a14_1 a14_2 a14_3 a14_5 nw14))
    (b8C14 : PySem.W.typeIn K (.ref C14) = some (.type "type"))
    (aC15 : PySem.W.nsIn K mainGlobals "NoStand" = some (some (.ref C15)))
    (xC15 : K.lookup C15 = some (excClassObj nm15 q15_ C15 N15 bs15 (bm15) true sn15 su15 ab15 co15 dd15 a15_0 a15_1 a15_2 a15_3 a15_5 nw15))
    (b8C15 : PySem.W.typeIn K (.ref C15) = some (.type "type"))
    (aC16 : PySem.W.nsIn K mainGlobals "Unlike" = some (some (.ref C16)))
    (xC16 : K.lookup C16 = some (excClassObj nm16 q16_ C16 N16 bs16 (bm16) true sn16 su16 ab16 co16 dd16 a16_0 a16_1 a16_2 a16_3 a16_5 nw16))
    (b8C16 : PySem.W.typeIn K (.ref C16) = some (.type "type"))
    (aC17 : PySem.W.nsIn K mainGlobals "NoPlaces" = some (some (.ref C17)))
    (xC17 : K.lookup C17 = some (excClassObj nm17 q17_ C17 N17 bs17 (bm17) true sn17 su17 ab17 co17 dd17 a17_0 a17_1 a17_2 a17_3 a17_5 nw17))
    (b8C17 : PySem.W.typeIn K (.ref C17) = some (.type "type"))
    (aC18 : PySem.W.nsIn K mainGlobals "NoText" = some (some (.ref C18)))
    (xC18 : K.lookup C18 = some (excClassObj nm18 q18_ C18 N18 bs18 (bm18) true sn18 su18 ab18 co18 dd18 a18_0 a18_1 a18_2 a18_3 a18_5 nw18))
    (b8C18 : PySem.W.typeIn K (.ref C18) = some (.type "type"))
    (aC19 : PySem.W.nsIn K mainGlobals "NoLine" = some (some (.ref C19)))
    (xC19 : K.lookup C19 = some (excClassObj nm19 q19_ C19 N19 bs19 (bm19) true sn19 su19 ab19 co19 dd19 a19_0 a19_1 a19_2 a19_3 a19_5 nw19))
    (b8C19 : PySem.W.typeIn K (.ref C19) = some (.type "type"))
    (vb1 : PySem.W.specialIn K (.builtin "object.__class__") "__get__" = some (some (.builtin "getset_descriptor.__get__")))
    (vb2 : PySem.W.takesIn K (.builtin "object.__class__") = some true)
    (z_sorted : PySem.W.nsIn K mainGlobals "sorted" = some none)
    (z_enumerate : PySem.W.nsIn K mainGlobals "enumerate" = some none)
    (z_isinstance : PySem.W.nsIn K mainGlobals "isinstance" = some none)
    (z_str : PySem.W.nsIn K mainGlobals "str" = some none)
    (z_int : PySem.W.nsIn K mainGlobals "int" = some none)
    (z_bool : PySem.W.nsIn K mainGlobals "bool" = some none)
    (z_len : PySem.W.nsIn K mainGlobals "len" = some none)
    (z_all : PySem.W.nsIn K mainGlobals "all" = some none)
    (z_tuple : PySem.W.nsIn K mainGlobals "tuple" = some none)
    (z_set : PySem.W.nsIn K mainGlobals "set" = some none)
    (z_range : PySem.W.nsIn K mainGlobals "range" = some none)
    (z_abs : PySem.W.nsIn K mainGlobals "abs" = some none)
    (z_repr : PySem.W.nsIn K mainGlobals "repr" = some none)
    (z_list : PySem.W.nsIn K mainGlobals "list" = some none)
    (z_max : PySem.W.nsIn K mainGlobals "max" = some none)
    (z_dict : PySem.W.nsIn K mainGlobals "dict" = some none)
    (z_ValueError : PySem.W.nsIn K mainGlobals "ValueError" = some none)
    (z_KeyError : PySem.W.nsIn K mainGlobals "KeyError" = some none)
    (apart : ([C0, C1, C2, C3, C4, C5, C6, C7, C8, C9, C10, C11, C12, C13, C14, C15, C16, C17, C18, C19] : List Addr).Nodup)
    (nP : P1 ≠ P2) :
    ∃ (fd : FuncData) (cs : List (Addr × Addr)), (∀ p ∈ cs, TabIn K mg ["_law_name_right", "_law_now_right"] p) ∧ (∀ (s : Shared) (v : Value), BindsTo s fd ⟨[v], []⟩ [("_law_script", v)]) ∧
      ∀ base : Heap, K.In base → base.Ns mainGlobals mg → (∀ p ∈ cs, TabB base mg p.1 p.2) → FnG l.prog w K mg base CX0 9 fa fd ["_law_script"] (spLaw K cs) := by
  have e := hfa.symm.trans (PySem.W.mg_of X G aF24)
  cases e
  have F0 := fun_mk (st := sName) lF0 cF0 kF0
  have b0 := F0.binds (ps := ["thing"]) fun _ _ _ _ _ _ us hl => match us, hl with | [_], _ => rfl
  have m0 := PySem.W.mg_of X G aF0
  have F1 := fun_mk (st := sWhole) lF1 cF1 kF1
  have b1 := F1.binds (ps := ["thing"]) fun _ _ _ _ _ _ us hl => match us, hl with | [_], _ => rfl
  have m1 := PySem.W.mg_of X G aF1
  have F2 := fun_mk (st := sNumber) lF2 cF2 kF2
  have b2 := F2.binds (ps := ["thing"]) fun _ _ _ _ _ _ us hl => match us, hl with | [_], _ => rfl
  have m2 := PySem.W.mg_of X G aF2
  have F3 := fun_mk (st := sDeed) lF3 cF3 kF3
  have b3 := F3.binds (ps := ["thing"]) fun _ _ _ _ _ _ us hl => match us, hl with | [_], _ => rfl
  have m3 := PySem.W.mg_of X G aF3
  have F4 := fun_mk (st := sCol) lF4 cF4 kF4
  have b4 := F4.binds (ps := ["thing"]) fun _ _ _ _ _ _ us hl => match us, hl with | [_], _ => rfl
  have m4 := PySem.W.mg_of X G aF4
  have F5 := fun_mk (st := sCopied) lF5 cF5 kF5
  have b5 := F5.binds (ps := ["thing"]) fun _ _ _ _ _ _ us hl => match us, hl with | [_], _ => rfl
  have m5 := PySem.W.mg_of X G aF5
  have F6 := fun_mk (st := sPen) lF6 cF6 kF6
  have b6 := F6.binds (ps := ["_law_script"]) fun _ _ _ _ _ _ us hl => match us, hl with | [_], _ => rfl
  have m6 := PySem.W.mg_of X G aF6
  have F7 := fun_mk (st := sDraw) lF7 cF7 kF7
  have b7 := F7.binds (ps := ["_law_pen_here", "_law_many"]) fun _ _ _ _ _ _ us hl => match us, hl with | [_, _], _ => rfl
  have m7 := PySem.W.mg_of X G aF7
  have F8 := fun_mk (st := sPool) lF8 cF8 kF8
  have b8 := F8.binds (ps := []) fun _ _ _ _ _ _ us hl => match us, hl with | [], _ => rfl
  have m8 := PySem.W.mg_of X G aF8
  have F9 := fun_mk (st := sCols) lF9 cF9 kF9
  have b9 := F9.binds (ps := ["_law_pen_here"]) fun _ _ _ _ _ _ us hl => match us, hl with | [_], _ => rfl
  have m9 := PySem.W.mg_of X G aF9
  have F10 := fun_mk (st := sWor) lF10 cF10 kF10
  have b10 := F10.binds (ps := ["_law_pen_here"]) fun _ _ _ _ _ _ us hl => match us, hl with | [_], _ => rfl
  have m10 := PySem.W.mg_of X G aF10
  have F11 := fun_mk (st := sNamed) lF11 cF11 kF11
  have b11 := F11.binds (ps := ["_law_state", "_law_title"]) fun _ _ _ _ _ _ us hl => match us, hl with | [_, _], _ => rfl
  have m11 := PySem.W.mg_of X G aF11
  have F12 := fun_mk (st := sName7) lF12 cF12 kF12
  have b12 := F12.binds (ps := ["_law_thing"]) fun _ _ _ _ _ _ us hl => match us, hl with | [_], _ => rfl
  have m12 := PySem.W.mg_of X G aF12
  have F13 := fun_mk (st := sWhole7) lF13 cF13 kF13
  have b13 := F13.binds (ps := ["_law_thing"]) fun _ _ _ _ _ _ us hl => match us, hl with | [_], _ => rfl
  have m13 := PySem.W.mg_of X G aF13
  have F14 := fun_mk (st := sFormed) lF14 cF14 kF14
  have b14 := F14.binds (ps := ["_law_thing"]) fun _ _ _ _ _ _ us hl => match us, hl with | [_], _ => rfl
  have m14 := PySem.W.mg_of X G aF14
  have F15 := fun_mk (st := sLDue) lF15 cF15 kF15
  have b15 := F15.binds (ps := ["_law_state", "_law_doing"]) fun _ _ _ _ _ _ us hl => match us, hl with | [_, _], _ => rfl
  have m15 := PySem.W.mg_of X G aF15
  have F16 := fun_mk (st := sFollow) lF16 cF16 kF16
  have b16 := F16.binds (ps := ["_law_state", "_law_doing"]) fun _ _ _ _ _ _ us hl => match us, hl with | [_, _], _ => rfl
  have m16 := PySem.W.mg_of X G aF16
  have F17 := fun_mk (st := sDd) lF17 cF17 kF17
  have b17 := F17.binds (ps := ["_law_pen_here", "_law_state"]) fun _ _ _ _ _ _ us hl => match us, hl with | [_, _], _ => rfl
  have m17 := PySem.W.mg_of X G aF17
  have F18 := fun_mk (st := sHeard) lF18 cF18 kF18
  have b18 := F18.binds (ps := ["_law_ask"]) fun _ _ _ _ _ _ us hl => match us, hl with | [_], _ => rfl
  have m18 := PySem.W.mg_of X G aF18
  have F19 := fun_mk (st := sRo) lF19 cF19 kF19
  have b19 := F19.binds (ps := ["_law_deeds", "_law_title", "_law_when"]) fun _ _ _ _ _ _ us hl => match us, hl with | [_, _, _], _ => rfl
  have m19 := PySem.W.mg_of X G aF19
  have F20 := fun_mk (st := sTc) lF20 cF20 kF20
  have b20 := F20.binds (ps := ["_law_deeds", "_law_title"]) fun _ _ _ _ _ _ us hl => match us, hl with | [_, _], _ => rfl
  have m20 := PySem.W.mg_of X G aF20
  have F21 := fun_mk (st := sHi) lF21 cF21 kF21
  have b21 := F21.binds (ps := ["_law_pen_here", "_law_tables", "_law_many"]) fun _ _ _ _ _ _ us hl => match us, hl with | [_, _, _], _ => rfl
  have m21 := PySem.W.mg_of X G aF21
  have F22 := fun_mk (st := sNr) lF22 cF22 kF22
  have Fc22 : FunC K "_law_name_right" "_law_name_right" sNr f22 _ cc1 := ⟨⟨_, _, _, _, _, _, _, _, rfl, lF22, cF22⟩, kF22⟩
  have b22 := F22.binds (ps := ["_law_tables", "_law_deeds", "_law_title", "_law_when"]) fun _ _ _ _ _ _ us hl => match us, hl with | [_, _, _, _], _ => rfl
  have m22 := PySem.W.mg_of X G aF22
  have F23 := fun_mk (st := sNw) lF23 cF23 kF23
  have Fc23 : FunC K "_law_now_right" "_law_now_right" sNw f23 _ cc2 := ⟨⟨_, _, _, _, _, _, _, _, rfl, lF23, cF23⟩, kF23⟩
  have b23 := F23.binds (ps := ["_law_tables", "_law_deeds", "_law_title"]) fun _ _ _ _ _ _ us hl => match us, hl with | [_, _, _], _ => rfl
  have m23 := PySem.W.mg_of X G aF23
  have F24 := fun_mk (st := sLaw) lF24 cF24 kF24
  have m24 := PySem.W.mg_of X G aF24
  have F25 := fun_mk (st := sDo) lF25 cF25 kF25
  have b25 := F25.binds (ps := ["self", "deed"]) fun _ _ _ _ _ _ us hl => match us, hl with | [_, _], _ => rfl
  have m25 : Meth K C "do" f25 := ⟨aF25, iF25, kF25⟩
  have F26 := fun_mk (st := sMake) lF26 cF26 kF26
  have b26 := F26.binds (ps := ["self", "name", "columns"]) fun _ _ _ _ _ _ us hl => match us, hl with | [_, _, _], _ => rfl
  have m26 : Meth K C "_make" f26 := ⟨aF26, iF26, kF26⟩
  have F27 := fun_mk (st := sPut) lF27 cF27 kF27
  have b27 := F27.binds (ps := ["self", "name", "worths"]) fun _ _ _ _ _ _ us hl => match us, hl with | [_, _, _], _ => rfl
  have m27 : Meth K C "_put" f27 := ⟨aF27, iF27, kF27⟩
  have F28 := fun_mk (st := sOut) lF28 cF28 kF28
  have b28 := F28.binds (ps := ["self", "name", "number"]) fun _ _ _ _ _ _ us hl => match us, hl with | [_, _, _], _ => rfl
  have m28 : Meth K C "_take_out" f28 := ⟨aF28, iF28, kF28⟩
  have F29 := fun_mk (st := sMom) lF29 cF29 kF29
  have b29 := F29.binds (ps := ["self"]) fun _ _ _ _ _ _ us hl => match us, hl with | [_], _ => rfl
  have m29 : Meth K C "moment" f29 := ⟨aF29, iF29, kF29⟩
  have F30 := fun_mk (st := sMof) lF30 cF30 kF30
  have b30 := F30.binds (ps := ["self", "name", "moment"]) fun _ _ _ _ _ _ us hl => match us, hl with | [_, _, _], _ => rfl
  have m30 : Meth K C "_moment_of" f30 := ⟨aF30, iF30, kF30⟩
  have F31 : FunD K "rows" "Tables.rows" (defArgs sRows) (defBody sRows) (defScope sRows) [] [("moment", .non)] f31 _ := ⟨⟨_, _, _, _, _, _, _, _, _, _, rfl, lF31, cF31, .inl ⟨rfl, rfl⟩, .inr ⟨_, rfl, fun q hq => by rw [List.mem_singleton.mp hq]; exact ⟨_, dF31, rfl⟩⟩⟩, kF31⟩
  have m31 : Meth K C "rows" f31 := ⟨aF31, iF31, kF31⟩
  obtain ⟨mv31, ka31⟩ := F31.kbinds0 (ps := ["self", "name", "moment"]) 2 ["moment"] [] (fun vs _ zs => vs ++ zs) (by simp) (fun q hq => nomatch hq) (fun a _ c => a.append c) fun _ _ _ _ _ _ us mv ws h1 h2 h3 => match us, mv, ws, h1, h2, h3 with | [_, _], [], [_], _, _, _ => rfl
  obtain ⟨ds31, hv31, kb31⟩ := F31.binds0 (ps := ["self", "name", "moment"]) 2 (by simp) rfl fun _ _ _ _ _ _ us ks h1 h2 => match us, ks, h1, h2 with | [_, _], [_], _, _ => ⟨_, _, _, _, _, _, rfl, rfl, rfl⟩
  obtain ⟨mw31, kc31⟩ := F31.kbinds0 (ps := ["self", "name", "moment"]) 1 ["moment", "name"] [] (fun vs _ zs => vs ++ zs.reverse) (by simp) (fun q hq => nomatch hq) (fun a _ c => a.append c.reverse) fun _ _ _ _ _ _ us mv ws h1 h2 h3 => match us, mv, ws, h1, h2, h3 with | [_], [], [_, _], _, _, _ => rfl
  have F32 : FunD K "columns" "Tables.columns" (defArgs sColumns) (defBody sColumns) (defScope sColumns) [] [("moment", .non)] f32 _ := ⟨⟨_, _, _, _, _, _, _, _, _, _, rfl, lF32, cF32, .inl ⟨rfl, rfl⟩, .inr ⟨_, rfl, fun q hq => by rw [List.mem_singleton.mp hq]; exact ⟨_, dF32, rfl⟩⟩⟩, kF32⟩
  have m32 : Meth K C "columns" f32 := ⟨aF32, iF32, kF32⟩
  obtain ⟨mv32, ka32⟩ := F32.kbinds0 (ps := ["self", "name", "moment"]) 2 ["moment"] [] (fun vs _ zs => vs ++ zs) (by simp) (fun q hq => nomatch hq) (fun a _ c => a.append c) fun _ _ _ _ _ _ us mv ws h1 h2 h3 => match us, mv, ws, h1, h2, h3 with | [_, _], [], [_], _, _, _ => rfl
  obtain ⟨ds32, hv32, kb32⟩ := F32.binds0 (ps := ["self", "name", "moment"]) 2 (by simp) rfl fun _ _ _ _ _ _ us ks h1 h2 => match us, ks, h1, h2 with | [_, _], [_], _, _ => ⟨_, _, _, _, _, _, rfl, rfl, rfl⟩
  obtain ⟨mw32, kc32⟩ := F32.kbinds0 (ps := ["self", "name", "moment"]) 1 ["moment", "name"] [] (fun vs _ zs => vs ++ zs.reverse) (by simp) (fun q hq => nomatch hq) (fun a _ c => a.append c.reverse) fun _ _ _ _ _ _ us mv ws h1 h2 h3 => match us, mv, ws, h1, h2, h3 with | [_], [], [_, _], _, _, _ => rfl
  have F33 : FunD K "names" "Tables.names" (defArgs sNames) (defBody sNames) (defScope sNames) [] [("moment", .non)] f33 _ := ⟨⟨_, _, _, _, _, _, _, _, _, _, rfl, lF33, cF33, .inl ⟨rfl, rfl⟩, .inr ⟨_, rfl, fun q hq => by rw [List.mem_singleton.mp hq]; exact ⟨_, dF33, rfl⟩⟩⟩, kF33⟩
  have m33 : Meth K C "names" f33 := ⟨aF33, iF33, kF33⟩
  obtain ⟨mv33, ka33⟩ := F33.kbinds0 (ps := ["self", "moment"]) 1 ["moment"] [] (fun vs _ zs => vs ++ zs) (by simp) (fun q hq => nomatch hq) (fun a _ c => a.append c) fun _ _ _ _ _ _ us mv ws h1 h2 h3 => match us, mv, ws, h1, h2, h3 with | [_], [], [_], _, _, _ => rfl
  obtain ⟨ds33, hv33, kb33⟩ := F33.binds0 (ps := ["self", "moment"]) 1 (by simp) rfl fun _ _ _ _ _ _ us ks h1 h2 => match us, ks, h1, h2 with | [_], [_], _, _ => ⟨_, _, _, _, _, _, rfl, rfl, rfl⟩
  have F34 : FunD K "__init__" "Tables.__init__" (defArgs sInit) (defBody sInit) (defScope sInit) [.ref E0] [] f34 _ := ⟨⟨_, _, _, _, _, _, _, _, _, _, rfl, lF34, cF34, .inr ⟨(by simp), T0, _, [.ref E0], _, rfl, lT0, rfl, .cons rfl .nil⟩, .inl rfl⟩, kF34⟩
  have m34 : Meth K C "__init__" f34 := ⟨aF34, iF34, kF34⟩
  obtain ⟨dsI, hI, bI⟩ := F34.binds1 (ps := ["self", "deeds"]) 1 0 (by simp) rfl fun _ _ _ _ _ _ _ us its h1 h2 => match us, its, h1, h2 with | [_], [_], _, _ => ⟨_, rfl, rfl⟩
  have y_sorted := PySem.W.mg_none_of X G z_sorted
  have y_enumerate := PySem.W.mg_none_of X G z_enumerate
  have y_isinstance := PySem.W.mg_none_of X G z_isinstance
  have y_str := PySem.W.mg_none_of X G z_str
  have y_int := PySem.W.mg_none_of X G z_int
  have y_bool := PySem.W.mg_none_of X G z_bool
  have y_len := PySem.W.mg_none_of X G z_len
  have y_all := PySem.W.mg_none_of X G z_all
  have y_tuple := PySem.W.mg_none_of X G z_tuple
  have y_set := PySem.W.mg_none_of X G z_set
  have y_range := PySem.W.mg_none_of X G z_range
  have y_abs := PySem.W.mg_none_of X G z_abs
  have y_repr := PySem.W.mg_none_of X G z_repr
  have y_list := PySem.W.mg_none_of X G z_list
  have y_max := PySem.W.mg_none_of X G z_max
  have y_dict := PySem.W.mg_none_of X G z_dict
  have y_ValueError := PySem.W.mg_none_of X G z_ValueError
  have y_KeyError := PySem.W.mg_none_of X G z_KeyError
  have p0 : ClP K C0 := ⟨⟨b1C0, b2C0, b3C0, b4C0, b5C0, b6C0⟩, b7C0, b8C0, b9C0, some_of xC0⟩
  have p1 : ClP K C1 := ⟨⟨b1C1, b2C1, b3C1, b4C1, b5C1, b6C1⟩, b7C1, b8C1, b9C1, some_of xC1⟩
  have p2 : ClP K C2 := ⟨⟨b1C2, b2C2, b3C2, b4C2, b5C2, b6C2⟩, b7C2, b8C2, b9C2, some_of xC2⟩
  have p3 : ClP K C3 := ⟨⟨b1C3, b2C3, b3C3, b4C3, b5C3, b6C3⟩, b7C3, b8C3, b9C3, some_of xC3⟩
  have p4 : ClP K C4 := ⟨⟨b1C4, b2C4, b3C4, b4C4, b5C4, b6C4⟩, b7C4, b8C4, b9C4, some_of xC4⟩
  have p5 : ClP K C5 := ⟨⟨b1C5, b2C5, b3C5, b4C5, b5C5, b6C5⟩, b7C5, b8C5, b9C5, some_of xC5⟩
  have inj : ∀ i j : Nat, i < 20 → j < 20 → (fun i => ([C0, C1, C2, C3, C4, C5, C6, C7, C8, C9, C10, C11, C12, C13, C14, C15, C16, C17, C18, C19] : List Addr).getD i 0) i = (fun i => ([C0, C1, C2, C3, C4, C5, C6, C7, C8, C9, C10, C11, C12, C13, C14, C15, C16, C17, C18, C19] : List Addr).getD i 0) j → i = j := by
    intro i j hi hj e
    have e' : ([C0, C1, C2, C3, C4, C5, C6, C7, C8, C9, C10, C11, C12, C13, C14, C15, C16, C17, C18, C19] : List Addr)[i]'hi = [C0, C1, C2, C3, C4, C5, C6, C7, C8, C9, C10, C11, C12, C13, C14, C15, C16, C17, C18, C19][j]'hj := by
      have g : ∀ k (hk : k < 20), ([C0, C1, C2, C3, C4, C5, C6, C7, C8, C9, C10, C11, C12, C13, C14, C15, C16, C17, C18, C19] : List Addr).getD k 0 = [C0, C1, C2, C3, C4, C5, C6, C7, C8, C9, C10, C11, C12, C13, C14, C15, C16, C17, C18, C19][k]'hk := fun k hk => by
        rw [List.getD_eq_getElem?_getD, List.getElem?_eq_getElem hk]
        rfl
      rw [← g i hi, ← g j hj]
      exact e
    exact (List.getElem_inj apart).mp e'
  have ev6 : ∀ i : Nat, i < 6 → EvC K ((fun i => ([C0, C1, C2, C3, C4, C5, C6, C7, C8, C9, C10, C11, C12, C13, C14, C15, C16, C17, C18, C19] : List Addr).getD i 0) i) := by
    intro i hi
    have hh : i = 0 ∨ i = 1 ∨ i = 2 ∨ i = 3 ∨ i = 4 ∨ i = 5 := by omega
    rcases hh with rfl | rfl | rfl | rfl | rfl | rfl
    · exact p0.ev
    · exact p1.ev
    · exact p2.ev
    · exact p3.ev
    · exact p4.ev
    · exact p5.ev
  have ty20 : ∀ i : Nat, i < 20 → ((PySem.W.clsIn K ((fun i => ([C0, C1, C2, C3, C4, C5, C6, C7, C8, C9, C10, C11, C12, C13, C14, C15, C16, C17, C18, C19] : List Addr).getD i 0) i)).isSome && PySem.W.typeIn K (.ref ((fun i => ([C0, C1, C2, C3, C4, C5, C6, C7, C8, C9, C10, C11, C12, C13, C14, C15, C16, C17, C18, C19] : List Addr).getD i 0) i)) == some (.type "type")) = true := by
    intro i hi
    have hh : i = 0 ∨ i = 1 ∨ i = 2 ∨ i = 3 ∨ i = 4 ∨ i = 5 ∨ i = 6 ∨ i = 7 ∨ i = 8 ∨ i = 9 ∨ i = 10 ∨ i = 11 ∨ i = 12 ∨ i = 13 ∨ i = 14 ∨ i = 15 ∨ i = 16 ∨ i = 17 ∨ i = 18 ∨ i = 19 := by omega
    rcases hh with rfl | rfl | rfl | rfl | rfl | rfl | rfl | rfl | rfl | rfl | rfl | rfl | rfl | rfl | rfl | rfl | rfl | rfl | rfl | rfl
    · exact tyb_of (some_of xC0) b8C0
    · exact tyb_of (some_of xC1) b8C1
    · exact tyb_of (some_of xC2) b8C2
    · exact tyb_of (some_of xC3) b8C3
    · exact tyb_of (some_of xC4) b8C4
    · exact tyb_of (some_of xC5) b8C5
    · exact tyb_of (some_of xC6) b8C6
    · exact tyb_of (some_of xC7) b8C7
    · exact tyb_of (some_of xC8) b8C8
    · exact tyb_of (some_of xC9) b8C9
    · exact tyb_of (some_of xC10) b8C10
    · exact tyb_of (some_of xC11) b8C11
    · exact tyb_of (some_of xC12) b8C12
    · exact tyb_of (some_of xC13) b8C13
    · exact tyb_of (some_of xC14) b8C14
    · exact tyb_of (some_of xC15) b8C15
    · exact tyb_of (some_of xC16) b8C16
    · exact tyb_of (some_of xC17) b8C17
    · exact tyb_of (some_of xC18) b8C18
    · exact tyb_of (some_of xC19) b8C19
  have mro4 : ∀ i : Nat, i < 4 → ∃ cd, PySem.W.clsIn K ((fun i => ([C0, C1, C2, C3, C4, C5, C6, C7, C8, C9, C10, C11, C12, C13, C14, C15, C16, C17, C18, C19] : List Addr).getD i 0) i) = some cd ∧ cd.mro = [.ref ((fun i => ([C0, C1, C2, C3, C4, C5, C6, C7, C8, C9, C10, C11, C12, C13, C14, C15, C16, C17, C18, C19] : List Addr).getD i 0) i), .ref ((fun i => ([C0, C1, C2, C3, C4, C5, C6, C7, C8, C9, C10, C11, C12, C13, C14, C15, C16, C17, C18, C19] : List Addr).getD i 0) 5), .type "ValueError", .type "Exception", .type "BaseException", .type "object"] := by
    intro i hi
    have hh : i = 0 ∨ i = 1 ∨ i = 2 ∨ i = 3 := by omega
    rcases hh with rfl | rfl | rfl | rfl
    · exact cls_of xC0
    · exact cls_of xC1
    · exact cls_of xC2
    · exact cls_of xC3
  have c07 : Cls07 K mg (fun i => ([C0, C1, C2, C3, C4, C5, C6, C7, C8, C9, C10, C11, C12, C13, C14, C15, C16, C17, C18, C19] : List Addr).getD i 0) := ⟨PySem.W.mg_of X G aC0, PySem.W.mg_of X G aC1, PySem.W.mg_of X G aC2, PySem.W.mg_of X G aC3, PySem.W.mg_of X G aC4, PySem.W.mg_of X G aC5, PySem.W.mg_of X G aC6, PySem.W.mg_of X G aC7, PySem.W.mg_of X G aC8, PySem.W.mg_of X G aC9, PySem.W.mg_of X G aC10, PySem.W.mg_of X G aC11, PySem.W.mg_of X G aC12, PySem.W.mg_of X G aC13, PySem.W.mg_of X G aC14, PySem.W.mg_of X G aC15, PySem.W.mg_of X G aC16, PySem.W.mg_of X G aC17, PySem.W.mg_of X G aC18, PySem.W.mg_of X G aC19, inj, ev6, ty20, mro4, cls_of xC4, nf1, nf2, nf3, nf4, ⟨vb1, vb2⟩, y_isinstance⟩
  have oU : OexK K C4 := ⟨⟨_, _, _, _, _, _, _, _, _, _, _, _, _, _, xC4⟩, p4.sa⟩
  have Cs0 : Cs K mg 0 := ⟨⟨_, PySem.W.mg_of X G q0⟩, ⟨_, PySem.W.mg_of X G q1⟩, ⟨_, PySem.W.mg_of X G q2⟩, y_isinstance, y_str, y_int, y_bool, y_len, y_all⟩
  have Ct0 : Ct mg := ⟨⟨_, PySem.W.mg_of X G q3⟩, ⟨_, PySem.W.mg_of X G q4⟩, ⟨_, PySem.W.mg_of X G q5⟩, y_tuple, y_set⟩
  have T : TxtT K mg C := ⟨⟨pg, hd, po, sa⟩, n_deeds, n_columns, n_made, n_rows, y_sorted, y_enumerate⟩
  have heI : ∀ H : Hp, SqT K H E0 [] := fun H => .inr ⟨_, _, _, lE0, rfl, rfl, Nat.zero_le _, .nil⟩
  have Bx : Blx mg := ⟨y_isinstance, y_list, y_tuple, y_dict⟩
  refine ⟨PySem.W.fnOf "law" "law" (defArgs sLaw) (defBody sLaw) (defScope sLaw) .none kV24 dc24 pm24 an24 cd24 ct24, [(cc1, P1), (cc2, P2)], ?_, fun s v => .of_eq rfl, fun base _ _ TB => ?_⟩
  · intro p hp
    simp only [List.mem_cons, List.not_mem_nil, or_false] at hp
    rcases hp with rfl | rfl
    · exact ⟨"_law_name_right", f22, _, _, _, _, _, _, _, _, by simp, m22, lF22, rfl, lK1, pK1, nK1⟩
    · exact ⟨"_law_now_right", f23, _, _, _, _, _, _, _, _, by simp, m23, lF23, rfl, lK2, pK2, nK2⟩
  have IU := fun_mk (st := sIUnknown) lI4 cI4 kI4
  have bIU := IU.binds (ps := ["self", "name"]) fun _ _ _ _ _ _ us hl => match us, hl with | [_, _], _ => rfl
  have MU : MkX l.prog w K mg base C4 "name" g4 _ := ⟨makesKE oU aI4 tI4, p4.kp, ok_iUnknown IU oU nf4 F5 b5 m5 Bx, bIU, p4.ev.sub, p4.ty⟩
  have gName := ok_name (P := l.prog) (w := w) (base := base) F0 Cs0
  have gWhole := ok_whole (P := l.prog) (w := w) (base := base) F1 Cs0
  have gNumber := ok_number (P := l.prog) (w := w) (base := base) F2 Cs0 F1 b1 m1
  have gCol := ok_col (P := l.prog) (w := w) (base := base) F4 Cs0 Ct0 F0 gName m0 b0
  have gDeed := ok_deed (P := l.prog) (w := w) (base := base) F3 Cs0 Ct0 F0 gName m0 b0 F1 gWhole m1 b1 F2 gNumber m2 b2 F4 gCol m4 b4
  have MK1 : Mt l.prog w K mg base C "_make" ["self", "name", "columns"] CX0 1 (spMake K C) := ⟨_, _, m26, ok_make (P := l.prog) (w := w) (base := base) F26 T Cs0 Ct0, b26⟩
  have MP : Mt l.prog w K mg base C "_put" ["self", "name", "worths"] CX0 1 (spPut K C) := ⟨_, _, m27, ok_put (P := l.prog) (w := w) (base := base) F27 T Cs0 Ct0, b27⟩
  have MO : Mt l.prog w K mg base C "_take_out" ["self", "name", "number"] CX0 1 (spOut K C) := ⟨_, _, m28, ok_out (P := l.prog) (w := w) (base := base) F28 T Cs0, b28⟩
  have MD : Mt l.prog w K mg base C "do" ["self", "deed"] CX0 4 (spDo K C) := ⟨_, _, m25, ok_do (P := l.prog) (w := w) (base := base) F25 T F3 gDeed m3 b3 MK1 MP MO, b25⟩
  have MM : Mt l.prog w K mg base C "moment" ["self"] CX0 1 (spMom K C) := ⟨_, _, m29, ok_mom (P := l.prog) (w := w) (base := base) F29 T Cs0, b29⟩
  have MF : Mt l.prog w K mg base C "_moment_of" ["self", "name", "moment"] (L2.CX l.prog w) 4 (spMofX K C C4) := ⟨_, _, m30, ok_mofX (P := l.prog) (w := w) (base := base) F30 T Cs0 MU (PySem.W.mg_of X G aC4) F0 gName m0 b0, b30⟩
  have MR : Mt3 l.prog w K mg base C "rows" (L2.CX l.prog w) 5 (spRowsX K C C4) := ⟨_, _, _, _, _, m31, ok_rowsX (P := l.prog) (w := w) (base := base) F31 T MF, ka31, ⟨hv31, kb31⟩, kc31⟩
  have MC : Mt3 l.prog w K mg base C "columns" (L2.CX l.prog w) 5 (spColumnsX K C C4) := ⟨_, _, _, _, _, m32, ok_columnsX (P := l.prog) (w := w) (base := base) F32 T MF, ka32, ⟨hv32, kb32⟩, kc32⟩
  have gNames := ok_names (P := l.prog) (w := w) (base := base) F33 T Cs0
  have gInit := ok_init (P := l.prog) (w := w) (base := base) F34 T
  have gPen := ok_pen (P := l.prog) (w := w) (base := base) (mg := mg) F6
  have gDraw := ok_draw (P := l.prog) (w := w) (base := base) (K := K) F7 y_len y_abs y_int
  have gPool := ok_pool (P := l.prog) (w := w) (base := base) (K := K) (mg := mg) F8
  have gCols := ok_cols (P := l.prog) (w := w) (base := base) (K := K) F9 y_range y_tuple F7 gDraw b7 m7 F8 gPool b8 m8
  have gWor := ok_wor (P := l.prog) (w := w) (base := base) (K := K) F10 F7 gDraw b7 m7
  have gNamed := ok_named (P := l.prog) (w := w) (base := base) (K := K) (mg := mg) F11
  have gName7 := ok_name7 (P := l.prog) (w := w) (base := base) F12 Cs0
  have gWhole7 := ok_whole7 (P := l.prog) (w := w) (base := base) F13 Cs0
  have gFormed := ok_formed (P := l.prog) (w := w) (base := base) F14 Cs0 Ct0 y_abs F12 gName7 m12 b12 F13 gWhole7 m13 b13
  have gLDue := ok_ldue (P := l.prog) (w := w) (base := base) F15 Cs0 F14 gFormed m14 b14 F11 gNamed m11 b11
  have gFollow := ok_follow (P := l.prog) (w := w) (base := base) (K := K) F16 F11 gNamed m11 b11
  have gDd := ok_dd (P := l.prog) (w := w) (base := base) (K := K) F17 y_len y_int y_range y_tuple y_max F7 gDraw b7 m7 F8 gPool b8 m8 F11 gNamed b11 m11 F9 gCols b9 m9 F10 gWor b10 m10
  have gHi := ok_hi (P := l.prog) (w := w) (base := base) F21 T y_range MD F17 gDd m17 b17 F15 gLDue m15 b15 F16 gFollow m16 b16
  have gRo := ok_ro (P := l.prog) (w := w) (base := base) (K := K) F19 y_len y_range
  have gTc := ok_tc (P := l.prog) (w := w) (base := base) (K := K) (mg := mg) F20
  have gNr := ok_nr (P := l.prog) (w := w) (base := base) (c1 := cc1) (P1 := P1) (P2 := P2) (cs := (fun i => ([C0, C1, C2, C3, C4, C5, C6, C7, C8, C9, C10, C11, C12, C13, C14, C15, C16, C17, C18, C19] : List Addr).getD i 0)) Fc22 (TB (cc1, P1) (by simp)) nP T c07 y_ValueError y_KeyError y_int y_repr y_range y_len F18 m18 b18 MR MC F19 gRo m19 b19 F20 gTc m20 b20
  have gNw := ok_nw (P := l.prog) (w := w) (base := base) (c1 := cc2) (P1 := P1) (P2 := P2) (cs := (fun i => ([C0, C1, C2, C3, C4, C5, C6, C7, C8, C9, C10, C11, C12, C13, C14, C15, C16, C17, C18, C19] : List Addr).getD i 0)) Fc23 (TB (cc2, P2) (by simp)) nP T c07 y_ValueError y_KeyError y_int y_repr y_len F18 m18 b18 MR MC
  exact ok_law (c1 := cc1) (c2 := cc2) (P1 := P1) (P2 := P2) F24 T y_range y_repr y_sorted y_list y_len F6 gPen m6 b6 F7 gDraw m7 b7 F8 gPool m8 b8 F21 gHi m21 b21 F22 gNr m22 b22 F23 gNw m23 b23
    ⟨mk, aF34, iF34, kc⟩ gInit (PySem.W.mg_of X G aC) bI hI heI MM m33 gNames ka33 kb33 hv33
end K07
open PySem PySem.W PyProof.Rows
set_option maxRecDepth 100000 in
set_option maxHeartbeats 0 in
theorem PySem.Challenge.cw_plansamid_k07_rows_at_each_moment_holds : PySem.Challenge.rw_plansamid_k07_rows_at_each_moment.Holds := by
  w_on; o_law; k_head; (case hw => w_witness2)
  k_fill
  refine Gd.walkT (l := PySem.Challenge.rw_plansamid_k07_rows_at_each_moment) (m := 63) (n := 9) (x := "_law_script") (ys := ["_law_name_right", "_law_now_right"]) (sp := K07.spLaw) rfl (by decide) rfl ⟨rfl, by decide, by decide⟩ (fun w h Y => PySem.W.km_in_of Y) ?H ?F ?S
  case H => rfl
  case S =>
    intro K cs H a ns h1 _ h3 h4
    exact ⟨a, ns, rfl, h4, h1, h3, fun _ => rfl⟩
  case F =>
    intro w mg fa h KX G hmg
    refine' K07.all_mk KX G hmg ?aC ?aF0 ?lF0 ?cF0 ?kF0 ?aF1 ?lF1 ?cF1 ?kF1 ?aF2 ?lF2 ?cF2 ?kF2 ?aF3 ?lF3 ?cF3 ?kF3 ?aF4 ?lF4 ?cF4 ?kF4 ?aF5 ?lF5 ?cF5 ?kF5 ?aF6 ?lF6 ?cF6 ?kF6 ?aF7 ?lF7 ?cF7 ?kF7 ?aF8 ?lF8 ?cF8 ?kF8 ?aF9 ?lF9 ?cF9 ?kF9 ?aF10 ?lF10 ?cF10 ?kF10 ?aF11 ?lF11 ?cF11 ?kF11 ?aF12 ?lF12 ?cF12 ?kF12 ?aF13 ?lF13 ?cF13 ?kF13 ?aF14 ?lF14 ?cF14 ?kF14 ?aF15 ?lF15 ?cF15 ?kF15 ?aF16 ?lF16 ?cF16 ?kF16 ?aF17 ?lF17 ?cF17 ?kF17 ?aF18 ?lF18 ?cF18 ?kF18 ?aF19 ?lF19 ?cF19 ?kF19 ?aF20 ?lF20 ?cF20 ?kF20 ?aF21 ?lF21 ?cF21 ?kF21 ?aF22 ?lF22 ?cF22 ?kF22 ?aF23 ?lF23 ?cF23 ?kF23 ?aF24 ?lF24 ?cF24 ?kF24 ?aF25 ?iF25 ?lF25 ?cF25 ?kF25 ?aF26 ?iF26 ?lF26 ?cF26 ?kF26 ?aF27 ?iF27 ?lF27 ?cF27 ?kF27 ?aF28 ?iF28 ?lF28 ?cF28 ?kF28 ?aF29 ?iF29 ?lF29 ?cF29 ?kF29 ?aF30 ?iF30 ?lF30 ?cF30 ?kF30 ?aF31 ?iF31 ?lF31 ?cF31 ?kF31 ?dF31 ?aF32 ?iF32 ?lF32 ?cF32 ?kF32 ?dF32 ?aF33 ?iF33 ?lF33 ?cF33 ?kF33 ?dF33 ?aF34 ?iF34 ?lF34 ?cF34 ?kF34 ?lT0 ?lE0 ?lK1 ?pK1 ?nK1 ?lK2 ?pK2 ?nK2 ?pg ?hd ?po ?sa ?mk ?kc ?n_deeds ?n_columns ?n_made ?n_rows ?q0 ?q1 ?q2 ?q3 ?q4 ?q5 ?aC0 ?xC0 ?b1C0 ?b2C0 ?b3C0 ?b4C0 ?b5C0 ?b6C0 ?b7C0 ?b9C0 ?b8C0 ?aC1 ?xC1 ?b1C1 ?b2C1 ?b3C1 ?b4C1 ?b5C1 ?b6C1 ?b7C1 ?b9C1 ?b8C1 ?nf1 ?aC2 ?xC2 ?b1C2 ?b2C2 ?b3C2 ?b4C2 ?b5C2 ?b6C2 ?b7C2 ?b9C2 ?b8C2 ?nf2 ?aC3 ?xC3 ?b1C3 ?b2C3 ?b3C3 ?b4C3 ?b5C3 ?b6C3 ?b7C3 ?b9C3 ?b8C3 ?nf3 ?aC4 ?xC4 ?b1C4 ?b2C4 ?b3C4 ?b4C4 ?b5C4 ?b6C4 ?b7C4 ?b9C4 ?b8C4 ?nf4 ?aI4 ?tI4 ?lI4 ?cI4 ?kI4 ?aC5 ?xC5 ?b1C5 ?b2C5 ?b3C5 ?b4C5 ?b5C5 ?b6C5 ?b7C5 ?b9C5 ?b8C5 ?aC6 ?xC6 ?b8C6 ?aC7 ?xC7 ?b8C7 ?aC8 ?xC8 ?b8C8 ?aC9 ?xC9 ?b8C9 ?aC10 ?xC10 ?b8C10 ?aC11 ?xC11 ?b8C11 ?aC12 ?xC12 ?b8C12 ?aC13 ?xC13 ?b8C13 ?aC14 ?xC14 ?b8C14 ?aC15 ?xC15 ?b8C15 ?aC16 ?xC16 ?b8C16 ?aC17 ?xC17 ?b8C17 ?aC18 ?xC18 ?b8C18 ?aC19 ?xC19 ?b8C19 ?vb1 ?vb2 ?z_sorted ?z_enumerate ?z_isinstance ?z_str ?z_int ?z_bool ?z_len ?z_all ?z_tuple ?z_set ?z_range ?z_abs ?z_repr ?z_list ?z_max ?z_dict ?z_ValueError ?z_KeyError ?apart ?nP
    (case aC => k_is)
    (case aF0 => k_is)
    (case lF0 => k_is)
    (case cF0 => k_is)
    (case kF0 => k_is)
    (case aF1 => k_is)
    (case lF1 => k_is)
    (case cF1 => k_is)
    (case kF1 => k_is)
    (case aF2 => k_is)
    (case lF2 => k_is)
    (case cF2 => k_is)
    (case kF2 => k_is)
    (case aF3 => k_is)
    (case lF3 => k_is)
    (case cF3 => k_is)
    (case kF3 => k_is)
    (case aF4 => k_is)
    (case lF4 => k_is)
    (case cF4 => k_is)
    (case kF4 => k_is)
    (case aF5 => k_is)
    (case lF5 => k_is)
    (case cF5 => k_is)
    (case kF5 => k_is)
    (case aF6 => k_is)
    (case lF6 => k_is)
    (case cF6 => k_is)
    (case kF6 => k_is)
    (case aF7 => k_is)
    (case lF7 => k_is)
    (case cF7 => k_is)
    (case kF7 => k_is)
    (case aF8 => k_is)
    (case lF8 => k_is)
    (case cF8 => k_is)
    (case kF8 => k_is)
    (case aF9 => k_is)
    (case lF9 => k_is)
    (case cF9 => k_is)
    (case kF9 => k_is)
    (case aF10 => k_is)
    (case lF10 => k_is)
    (case cF10 => k_is)
    (case kF10 => k_is)
    (case aF11 => k_is)
    (case lF11 => k_is)
    (case cF11 => k_is)
    (case kF11 => k_is)
    (case aF12 => k_is)
    (case lF12 => k_is)
    (case cF12 => k_is)
    (case kF12 => k_is)
    (case aF13 => k_is)
    (case lF13 => k_is)
    (case cF13 => k_is)
    (case kF13 => k_is)
    (case aF14 => k_is)
    (case lF14 => k_is)
    (case cF14 => k_is)
    (case kF14 => k_is)
    (case aF15 => k_is)
    (case lF15 => k_is)
    (case cF15 => k_is)
    (case kF15 => k_is)
    (case aF16 => k_is)
    (case lF16 => k_is)
    (case cF16 => k_is)
    (case kF16 => k_is)
    (case aF17 => k_is)
    (case lF17 => k_is)
    (case cF17 => k_is)
    (case kF17 => k_is)
    (case aF18 => k_is)
    (case lF18 => k_is)
    (case cF18 => k_is)
    (case kF18 => k_is)
    (case aF19 => k_is)
    (case lF19 => k_is)
    (case cF19 => k_is)
    (case kF19 => k_is)
    (case aF20 => k_is)
    (case lF20 => k_is)
    (case cF20 => k_is)
    (case kF20 => k_is)
    (case aF21 => k_is)
    (case lF21 => k_is)
    (case cF21 => k_is)
    (case kF21 => k_is)
    (case aF22 => k_is)
    (case lF22 => k_is)
    (case cF22 => k_is)
    (case kF22 => k_is)
    (case aF23 => k_is)
    (case lF23 => k_is)
    (case cF23 => k_is)
    (case kF23 => k_is)
    (case aF24 => k_is)
    (case lF24 => k_is)
    (case cF24 => k_is)
    (case kF24 => k_is)
    (case aF25 => k_is)
    (case iF25 => k_is)
    (case lF25 => k_is)
    (case cF25 => k_is)
    (case kF25 => k_is)
    (case aF26 => k_is)
    (case iF26 => k_is)
    (case lF26 => k_is)
    (case cF26 => k_is)
    (case kF26 => k_is)
    (case aF27 => k_is)
    (case iF27 => k_is)
    (case lF27 => k_is)
    (case cF27 => k_is)
    (case kF27 => k_is)
    (case aF28 => k_is)
    (case iF28 => k_is)
    (case lF28 => k_is)
    (case cF28 => k_is)
    (case kF28 => k_is)
    (case aF29 => k_is)
    (case iF29 => k_is)
    (case lF29 => k_is)
    (case cF29 => k_is)
    (case kF29 => k_is)
    (case aF30 => k_is)
    (case iF30 => k_is)
    (case lF30 => k_is)
    (case cF30 => k_is)
    (case kF30 => k_is)
    (case aF31 => k_is)
    (case iF31 => k_is)
    (case lF31 => k_is)
    (case cF31 => k_is)
    (case kF31 => k_is)
    (case dF31 => k_is)
    (case aF32 => k_is)
    (case iF32 => k_is)
    (case lF32 => k_is)
    (case cF32 => k_is)
    (case kF32 => k_is)
    (case dF32 => k_is)
    (case aF33 => k_is)
    (case iF33 => k_is)
    (case lF33 => k_is)
    (case cF33 => k_is)
    (case kF33 => k_is)
    (case dF33 => k_is)
    (case aF34 => k_is)
    (case iF34 => k_is)
    (case lF34 => k_is)
    (case cF34 => k_is)
    (case kF34 => k_is)
    (case lT0 => k_is)
    (case lE0 => k_is)
    (case lK1 => k_is)
    (case pK1 => rfl)
    (case nK1 => rfl)
    (case lK2 => k_is)
    (case pK2 => rfl)
    (case nK2 => rfl)
    (case pg => k_is)
    (case hd => k_is)
    (case po => k_is)
    (case sa => k_is)
    (case mk => k_is)
    (case kc => k_is)
    (case n_deeds => k_is)
    (case n_columns => k_is)
    (case n_made => k_is)
    (case n_rows => k_is)
    (case q0 => k_is)
    (case q1 => k_is)
    (case q2 => k_is)
    (case q3 => k_is)
    (case q4 => k_is)
    (case q5 => k_is)
    (case aC0 => k_is)
    (case xC0 => k_is)
    (case b1C0 => k_is)
    (case b2C0 => k_is)
    (case b3C0 => k_is)
    (case b4C0 => k_is)
    (case b5C0 => k_is)
    (case b6C0 => k_is)
    (case b7C0 => k_is)
    (case b9C0 => k_is)
    (case b8C0 => k_is)
    (case aC1 => k_is)
    (case xC1 => k_is)
    (case b1C1 => k_is)
    (case b2C1 => k_is)
    (case b3C1 => k_is)
    (case b4C1 => k_is)
    (case b5C1 => k_is)
    (case b6C1 => k_is)
    (case b7C1 => k_is)
    (case b9C1 => k_is)
    (case b8C1 => k_is)
    (case nf1 => k_is)
    (case aC2 => k_is)
    (case xC2 => k_is)
    (case b1C2 => k_is)
    (case b2C2 => k_is)
    (case b3C2 => k_is)
    (case b4C2 => k_is)
    (case b5C2 => k_is)
    (case b6C2 => k_is)
    (case b7C2 => k_is)
    (case b9C2 => k_is)
    (case b8C2 => k_is)
    (case nf2 => k_is)
    (case aC3 => k_is)
    (case xC3 => k_is)
    (case b1C3 => k_is)
    (case b2C3 => k_is)
    (case b3C3 => k_is)
    (case b4C3 => k_is)
    (case b5C3 => k_is)
    (case b6C3 => k_is)
    (case b7C3 => k_is)
    (case b9C3 => k_is)
    (case b8C3 => k_is)
    (case nf3 => k_is)
    (case aC4 => k_is)
    (case xC4 => k_is)
    (case b1C4 => k_is)
    (case b2C4 => k_is)
    (case b3C4 => k_is)
    (case b4C4 => k_is)
    (case b5C4 => k_is)
    (case b6C4 => k_is)
    (case b7C4 => k_is)
    (case b9C4 => k_is)
    (case b8C4 => k_is)
    (case nf4 => k_is)
    (case aI4 => k_is)
    (case tI4 => k_is)
    (case lI4 => k_is)
    (case cI4 => k_is)
    (case kI4 => k_is)
    (case aC5 => k_is)
    (case xC5 => k_is)
    (case b1C5 => k_is)
    (case b2C5 => k_is)
    (case b3C5 => k_is)
    (case b4C5 => k_is)
    (case b5C5 => k_is)
    (case b6C5 => k_is)
    (case b7C5 => k_is)
    (case b9C5 => k_is)
    (case b8C5 => k_is)
    (case aC6 => k_is)
    (case xC6 => k_is)
    (case b8C6 => k_is)
    (case aC7 => k_is)
    (case xC7 => k_is)
    (case b8C7 => k_is)
    (case aC8 => k_is)
    (case xC8 => k_is)
    (case b8C8 => k_is)
    (case aC9 => k_is)
    (case xC9 => k_is)
    (case b8C9 => k_is)
    (case aC10 => k_is)
    (case xC10 => k_is)
    (case b8C10 => k_is)
    (case aC11 => k_is)
    (case xC11 => k_is)
    (case b8C11 => k_is)
    (case aC12 => k_is)
    (case xC12 => k_is)
    (case b8C12 => k_is)
    (case aC13 => k_is)
    (case xC13 => k_is)
    (case b8C13 => k_is)
    (case aC14 => k_is)
    (case xC14 => k_is)
    (case b8C14 => k_is)
    (case aC15 => k_is)
    (case xC15 => k_is)
    (case b8C15 => k_is)
    (case aC16 => k_is)
    (case xC16 => k_is)
    (case b8C16 => k_is)
    (case aC17 => k_is)
    (case xC17 => k_is)
    (case b8C17 => k_is)
    (case aC18 => k_is)
    (case xC18 => k_is)
    (case b8C18 => k_is)
    (case aC19 => k_is)
    (case xC19 => k_is)
    (case b8C19 => k_is)
    (case vb1 => k_is)
    (case vb2 => k_is)
    (case z_sorted => k_is)
    (case z_enumerate => k_is)
    (case z_isinstance => k_is)
    (case z_str => k_is)
    (case z_int => k_is)
    (case z_bool => k_is)
    (case z_len => k_is)
    (case z_all => k_is)
    (case z_tuple => k_is)
    (case z_set => k_is)
    (case z_range => k_is)
    (case z_abs => k_is)
    (case z_repr => k_is)
    (case z_list => k_is)
    (case z_max => k_is)
    (case z_dict => k_is)
    (case z_ValueError => k_is)
    (case z_KeyError => k_is)
    (case apart => decide)
    (case nP => decide)
end
