import PyProof.Rows.All
import Wide.All
import OpenK.AllK
import Wide.FinOn
import HandS.ForMost
import HandS.ForExc
import HandS.EndBits
import HandS.Lambda
import HandS.EndTab
import PyProof.ReprRoads
import HandS.IsInst
import PyProof.FitsInt
import PyProof.NeKinds
import KE.SortData
import HandS.Text
import PyProof.ReprLen
import HandS.ExcInit
import KE.KExcMake
import KE.KExcIs
import KE.KTryMore
import HandS.TryOnly
import HandS.MapSum
import PyProof.SumAnyB
import HandS.Zip
import KE.GoesZip
import KE.GoesMore
import HandS.Walk
import KE.GoesEnum
import PyProof.EnumFor
import HandS.TupLe
import HandS.Codes
import HandS.ExcIs
import HandS.TupAny
import PyProof.EqLayable
import HandS.Rev
import PySem.Challenge.RW_plansamid_k42_whole_how_many_mergings

section
set_option Elab.async false
set_option linter.all false
set_option maxRecDepth 100000
set_option maxHeartbeats 4000000
/-! A def's promise where no text of a container is being put together around it (so that repr is served). -/
namespace Gd
open PySem PySem.Spec PyProof.Rows L2

/-- no container is amid its own text -/
def Free (A : Around) : Prop := A.guards = some []

structure FnG (P : Program) (w : World) (K : PySem.W.Frag) (mg : Str → Option Value)
    (base : Heap) (cx : CXT) (n : Nat) (f : Addr) (fd : FuncData) (ps : List Str) (sp : Sp) : Prop where
  len : ∀ vs H Q E, sp vs H Q E → vs.length = ps.length
  run : ∀ (A : Around) (out : List Env) (s : Shared) (H : Hp) (args : Args) (us : List Value)
      (vs : List V) (Q : VK) (E : XK), Free A → Room n A → Env0 P w K mg base A out s H →
      BindsTo s fd args (ps.zip us) → Vals vs us → sp vs H Q E →
      codeAny (model P w) A (.call (.ref f) args) (CR cx out P w H s Q E) s

section
variable {P : Program} {w : World} {K : PySem.W.Frag} {mg : Str → Option Value} {base : Heap} {cx : CXT}
theorem FnG.ofOk {n : Nat} {f : Addr} {fd : FuncData} {ps : List Str} {sp : Sp}
    (F : FnOk P w K mg base cx n f fd ps sp) : FnG P w K mg base cx n f fd ps sp :=
  ⟨F.len, fun A out s H args us vs Q E _ => F.run A out s H args us vs Q E⟩
theorem FnG.mono {m n : Nat} {f : Addr} {fd : FuncData} {ps : List Str} {sp : Sp}
    (F : FnG P w K mg base cx m f fd ps sp) (h : m ≤ n) : FnG P w K mg base cx n f fd ps sp :=
  ⟨F.len, fun A out s H args us vs Q E g r => F.run A out s H args us vs Q E g (r.mono h)⟩
end

section
variable {X : Cx} {cx : CXT} {n : Nat} {f : Addr} {fd : FuncData} {ps : List Str} {sp : Sp}
  {dvs : List V} {ds : List Value} {E : XK} {x : Str} {p pos : Pos} {e : Expr} {es : List Expr} {t : TA}

theorem run_g {pins : List (Addr × Obj)} {σ : L2.St} {H : Hp} {s : Shared} {Q : VK} {us : List Value} {vs : List V}
    (F : FnG X.prog X.w X.K X.mg X.base cx n f fd ps sp) (g : Free X.A) (hr : Room n X.A)
    (hb : Binds X.K fd ps ds) (hd : Vals dvs ds) (hx : Passes cx X E)
    (I : Inv X pins σ H s) (r : Vals vs us) (h : sp (vs ++ dvs) H Q E) :
    wpAny (model X.prog X.w) X.A (call (.ref f) us) (EP X pins σ Q) X.xe s := by
  have rr : Vals (vs ++ dvs) (us ++ ds) := r.append hd
  have hl : (us ++ ds).length = ps.length := (Paired.length rr).symm.trans (F.len _ _ _ _ h)
  have all := F.run X.A X.stack s H ⟨us, []⟩ (us ++ ds) (vs ++ dvs) Q E g hr I.env0 (hb s us I.kIn hl) rr h
  refine wpAny_call (codeAny_mono all ?_)
  intro o s' z
  cases o with
  | error er => exact hx pins σ H s er s' I z
  | ok fl =>
    cases fl with
    | ret u => exact I.after z
    | _ => exact False.elim z

theorem pe_callG (F : FnG X.prog X.w X.K X.mg X.base cx n f fd ps sp) (g : Free X.A) (hr : Room n X.A)
    (hg : Gl X x) (hm : X.mg x = some (.ref f)) (hk : PySem.W.keepIn X.K (.ref f) = true)
    (hb : Binds X.K fd ps ds) (hd : Vals dvs ds) (hx : Passes cx X E) (ha : PA X (e :: es) t)
    (hdb : (x == ("__debug__" : Str)) = false := by decide)
    (he : starEach (e :: es) X.env = (false, eval e X.env) :: starEach es X.env := by rfl)
    (hpl : (backTo pos (starEach es X.env)).any (·.1) = false := by rfl) :
    PE X (.Call (.Name x p) (e :: es) [] pos) (tCall sp dvs E t) := by
  constructor
  intro pins s σ H Q I h
  refine wpAny_Call_Name_kw (ld_glob I hg hm ?_ hdb)
  have args := ha.run pos pins s σ H _ I h
  refine PySem.W.callWith_K (h₀ := X.base) I.ok.mod.kin hk (thn args ?_) he hpl
  rintro us s1 ⟨vs, H1, J, r, q⟩
  exact ⟨J.kIn, run_g F g hr hb hd hx J r q⟩
end

/-! ### by the body -/
section
variable {P : Program} {w : World} {K : PySem.W.Frag} {mg : Str → Option Value} {base : Heap}
theorem FnG.body {cx : CXT} {n : Nat} {f : Addr} {nm ql : Str} {pr : Arguments} {bd : List Stmt} {sc : Scope}
    {dV kV dc pm cv ct oc : Value} {an od : Option Addr} {sl : Array (Option Value)} {N ps : List Str} {sp : Sp}
    (lk : K.lookup f = some ⟨oc, od, .func (PySem.W.fnOf nm ql pr bd sc dV kV dc pm an cv ct), sl⟩)
    (hc : PySem.W.codeIn K cv ql = true) (S : FnScope N ps sc) (len : ∀ vs H Q E, sp vs H Q E → vs.length = ps.length)
    (hb : ∀ (A : Around) (out : List Env) (s : Shared) (H : Hp) (vs : List V) (Q : VK) (E : XK),
      Free (A.deeper (envOfC ql sc s.heap.objs.size f cv)) → Room n (A.deeper (envOfC ql sc s.heap.objs.size f cv)) →
      sp vs H Q E → ∃ t, PSs (cxOf cx P w K mg base N ql sc f cv A out s H E) bd t ∧
        t { nx := fun _ H' => Q .non H', rt := Q } (start N vs) H) :
    FnG P w K mg base cx (n + 1) f (PySem.W.fnOf nm ql pr bd sc dV kV dc pm an cv ct) ps sp := by
  refine ⟨len, ?_⟩
  intro A out s H args us vs Q E g hr e0 hbd r hsp
  have hl := len _ _ _ _ hsp
  have KX : K.In s.heap := e0.mod.kin.keeps fun b o e => (e0.bs b o e).1
  have lim : s.heap.NoLimit := e0.mod.nolimit.keeps fun b o e => (e0.bs b o e).1
  have kinds : ∀ y ∈ ps.zip us, sc.names.lookup y.1 = some .local ∨
      (sc.names.lookup y.1 = some .cell ∧
        ((cellsFrom (s.heap.objs.size + 1) sc.names []).lookup y.1).isSome = true) := by
    rintro ⟨y, v⟩ hy
    rcases S.par y (List.of_mem_zip hy).1 with q | q
    · left; exact q
    · right; exact ⟨q, PySem.W.cellsFrom_some _ _ _ (.inl q)⟩
  have code := PySem.W.codeRec_of KX hc
  refine codeAny_call_function hr.depth (KX _ _ lk) rfl S.co S.gen rfl code (hbd _ _ _ _ ?_)
  refine wpAny_newFunctionEnv_cells S.kind kinds ?_
  intro env he s1 x
  subst he
  refine ⟨lim.keeps x.toInCall.keep, codeAny_func ?_⟩
  obtain ⟨t, ht, hq⟩ := hb A out s H vs Q E g (hr.deeper _) hsp
  have I := inv_start (CX := cx) (P := P) (w := w) (E := E) S hr.hd e0 hl r x
  refine wpAny_mono (ht.run [] s1 (start N vs) H _ I hq) ?_ fun er s' z => z
  intro fl s' z
  cases fl with
  | ret u =>
    obtain ⟨v, σ', H', J, rv, q⟩ := z
    exact ⟨v, H', J.os, J.bare, J.base, J.hok, rv, q⟩
  | next =>
    obtain ⟨σ', H', J, q⟩ := z
    exact ⟨V.non, H', J.os, J.bare, J.base, J.hok, rfl, q⟩
  | brk =>
    obtain ⟨_, _, _, q⟩ := z
    exact q.elim
  | cont =>
    obtain ⟨_, _, _, q⟩ := z
    exact q.elim

theorem okG {x ql : Str} {st : Stmt} {f : Addr} {fd : FuncData} {N ps : List Str} {n : Nat} {sp : Sp}
    (F : Fun K x ql st f fd) (S : FnScope N ps (defScope st)) (len : ∀ vs H Q E, sp vs H Q E → vs.length = ps.length)
    (hb : ∀ (cv : Value) (A : Around) (out : List Env) (s : Shared) (H : Hp) (vs : List V) (Q : VK) (E : XK),
      Free (A.deeper (envOfC ql (defScope st) s.heap.objs.size f cv)) →
      Room n (A.deeper (envOfC ql (defScope st) s.heap.objs.size f cv)) → sp vs H Q E →
      ∃ t, PSs (cxOf CX0 P w K mg base N ql (defScope st) f cv A out s H E).nox (defBody st) t ∧
        t { nx := fun _ H' => Q .non H', rt := Q } (start N vs) H) :
    FnG P w K mg base CX0 (n + 1) f fd ps sp := by
  obtain ⟨oc, od, kV, dc, pm, an, cv, ct, sl, rfl, lk, hc⟩ := F.ex
  refine FnG.body lk hc S len ?_
  intro A out s H vs Q E g hr hsp
  obtain ⟨t, h, q⟩ := hb cv A out s H vs Q E g hr hsp
  exact ⟨t, h.nox, q⟩
end
end Gd
end

section
set_option Elab.async false
set_option linter.all false
set_option maxRecDepth 100000
set_option maxHeartbeats 4000000
/-! The end of a law's row from a promise of Gd.FnG. -/
namespace Gd
open PySem PySem.Spec PyProof.Rows L2

/-- what is wanted of the law's own call -/
def Yes (s1 : Shared) (r : Result) (s' : Shared) : Prop :=
  r = .ok (.ret (.bool true)) ∧ OldK s1.heap s'.heap ∧ s'.os = s1.os ∧ AllBare s'.gens

section
variable {P : Program} {w : World} {K : PySem.W.Frag} {mg mb : Str → Option Value} {cx : CXT} {n : Nat}
  {fa a : Addr} {fd : FuncData} {x : Str} {sp : Sp} {s1 : Shared} {vs : List Value} {ns : List Int}

theorem begun (H : Hp) (only : Only H) (hS : SqL K H a (ns.map V.int)) (hok : HOk P w H s1.heap)
    (at_a : ∀ b, H b ≠ none → b = a) (noK : H a ≠ none → K.lookup a = none)
    (KX : K.In s1.heap) (hns : s1.heap.Ns mainGlobals mg) (hb : s1.heap.Ns builtinsNs mb)
    (hbb : ∀ y : Str, y ≠ "__name__" → mb y = bootBuiltins y) (hlim : s1.heap.NoLimit) (hg : s1.gens = #[])
    (ha : s1.heap.get? a = some { cls := .type "list", data := .seq vs.toArray }) (hr : Room n callerA)
    (F : ∀ base : Heap, K.In base → base.Ns mainGlobals mg → FnG P w K mg base cx n fa fd [x] sp)
    (hbind : ∀ (s : Shared) (u : Value), BindsTo s fd ⟨[u], []⟩ [(x, u)])
    (hsp : sp [.ref a] H (fun v _ => v = .bl true) fun _ _ _ => False)
    (hCX : ∀ e s', cx [] H s1 (fun _ _ _ => False) e s' → False) :
    codeAny (model P w) callerA (.call (.ref fa) ⟨[.ref a], []⟩) (Yes s1) s1 := by
  -- the base: what isn't tracked
  let B := hidT s1.heap H
  have toB : ∀ {b : Addr} {o : Obj}, s1.heap.get? b = some o → H b = none → B.get? b = some o :=
    fun e z => hidT_get e z
  have notDict : ∀ {b : Addr} {o : Obj} {es : Array DictEntry} {m : Nat},
      s1.heap.get? b = some o → o.data = .dict es m → H b = none := by
    intro b o es m e d
    cases q : H b with
    | none => rfl
    | some u =>
      exfalso
      have eb : b = a := at_a b (by simp [q])
      rw [eb, ha] at e
      cases Option.some.inj e
      cases d
  have nsB : ∀ {b : Addr} {m : Str → Option Value}, s1.heap.Ns b m → B.Ns b m := by
    rintro b m ⟨o, es, ep, e, d, r⟩
    exact ⟨o, es, ep, toB e (notDict e d), d, r⟩
  have inB : K.In B := by
    intro b o e
    refine toB (KX b o e) ?_
    cases q : H b with
    | none => rfl
    | some u =>
      have eb : b = a := at_a b (by simp [q])
      have z := noK (by rw [← eb, q]; simp)
      rw [eb, z] at e
      cases e
  have modB : Mod K mg B := by
    obtain ⟨mc, l1, l2⟩ := hlim
    exact ⟨inB, nsB hns, ⟨mb, nsB hb, hbb⟩, ⟨mc, nsB l1, l2⟩⟩
  have nil : ∀ {b : Addr}, b ∉ ([] : List Addr) := fun z => nomatch z
  have e0 : Env0 P w K mg B callerA [] s1 H :=
    ⟨rfl, modB, fun b o e => of_hidT e, Nat.le_of_eq (hidT_size _ _), trivial, fun b z => (nil z).elim, hok, .of_eq hg⟩
  have got := (F B inB (nsB hns)).run callerA [] s1 H ⟨[.ref a], []⟩ [.ref a] [.ref a] _ _ rfl hr e0
    (hbind s1 (.ref a)) (.cons rfl .nil) hsp
  refine codeAny_mono got ?_
  intro r s' z
  cases r with
  | error er => exact (hCX er s' z).elim
  | ok fl =>
    cases fl with
    | ret u =>
      obtain ⟨v, H', os, bare, un, hok', rv, q⟩ := z
      obtain rfl : v = .bl true := q
      obtain rfl : u = Value.bool true := rv
      refine ⟨rfl, OldK.of_keep ?_, os, bare⟩
      intro b o e
      cases q : H b with
      | none => exact un.keep b o e q (fun z => (nil z).elim) (fun z => (nil z).elim)
      | some u =>
        rcases only b with z | ⟨ob, xs, z⟩
        · exact nomatch q.symm.trans z
        · obtain ⟨g1, _⟩ := hok b _ z
          obtain ⟨g2, _⟩ := hok' b _ (un.frzs b ob _ z)
          exact g2.trans (g1.symm.trans e)
    | _ => exact False.elim z

theorem law_callG (KX : K.In s1.heap) (hns : s1.heap.Ns mainGlobals mg) (hb : s1.heap.Ns builtinsNs mb)
    (hbb : ∀ y : Str, y ≠ "__name__" → mb y = bootBuiltins y) (hlim : s1.heap.NoLimit) (hg : s1.gens = #[])
    (ha : s1.heap.get? a = some { cls := .type "list", data := .seq vs.toArray }) (hi : IntsAre vs ns)
    (hl : ns.length ≤ sizeLine) (hr : Room n callerA)
    (F : ∀ base : Heap, K.In base → base.Ns mainGlobals mg → FnG P w K mg base cx n fa fd [x] sp)
    (hbind : ∀ (s : Shared) (u : Value), BindsTo s fd ⟨[u], []⟩ [(x, u)])
    (hsp : ∀ H : Hp, Only H → SqL K H a (ns.map V.int) → sp [.ref a] H (fun v _ => v = .bl true) fun _ _ _ => False)
    (hCX : ∀ H e s', cx [] H s1 (fun _ _ _ => False) e s' → False) :
    codeAny (model P w) callerA (.call (.ref fa) ⟨[.ref a], []⟩) (Yes s1) s1 := by
  have rv := vals_ints hi
  have hz : vs.toArray.size ≤ sizeLine := by
    rw [List.size_toArray, hi.length]
    exact hl
  cases hk : K.lookup a with
  | some o =>
    have e : some o = some _ := (KX a o hk).symm.trans ha
    cases e
    have here : SqL K (fun _ => none) a (ns.map V.int) := .inr ⟨_, vs.toArray, _, hk, rfl, rfl, rfl, hz, by simpa using rv⟩
    have only : Only (fun _ => none) := fun _ => .inl rfl
    exact begun (fun _ => none) only here (fun b u z => nomatch z) (fun b z => absurd rfl z) (fun z => absurd rfl z)
      KX hns hb hbb hlim hg ha hr F hbind (hsp _ only here) (hCX _)
  | none =>
    let H : Hp := fun b => if b = a then some (.frz { cls := .type "list", data := .seq vs.toArray } (.lst (ns.map V.int))) else none
    have Ha : H a = some (.frz { cls := .type "list", data := .seq vs.toArray } (.lst (ns.map V.int))) := if_pos rfl
    have Hn : ∀ {b : Addr}, b ≠ a → H b = none := fun z => if_neg z
    have only : Only H := by
      intro b
      by_cases eb : b = a
      · right
        subst eb
        exact ⟨_, _, Ha⟩
      · left
        exact Hn eb
    have here : SqL K H a (ns.map V.int) := .inl (.inr ⟨_, Ha⟩)
    refine begun H only here ?_ ?_ (fun _ => hk) KX hns hb hbb hlim hg ha hr F hbind (hsp _ only here) (hCX _)
    · intro b u z
      by_cases eb : b = a
      · subst eb
        rw [Ha] at z
        cases z
        exact ⟨ha, by rw [List.length_map]; exact hl, vs, _, rv, ha⟩
      · rw [Hn eb] at z
        cases z
    · intro b z
      by_cases eb : b = a
      · exact eb
      · exact absurd (Hn eb) z
end

theorem walkG {l : PySem.W.OpenLaw} {m n : Nat} {q : Program} {loose : List Str} {XP : (Str → Option Value) → Heap → Prop}
    {YP : World → Heap → Prop} {d : DefRec} {K : Params → PySem.W.Frag} {sp : PySem.W.Frag → Sp} {x : Str}
    (hn : l.most = some m) (hm : m ≤ sizeLine) (hdf : d.params.defaults = []) (hr : Room n callerA)
    (hY : ∀ (w : World) (h : Heap), YP w h → (K w.params).In h)
    (F : ∀ (w : World) (mg : Str → Option Value) (fa : Addr) (h : Heap), (K w.params).In h → h.Ns mainGlobals mg →
      mg d.name = some (.ref fa) → ∃ fd : FuncData, (∀ (s : Shared) (u : Value), BindsTo s fd ⟨[u], []⟩ [(x, u)]) ∧
        ∀ base : Heap, (K w.params).In base → base.Ns mainGlobals mg →
          FnG l.prog w (K w.params) mg base CX0 n fa fd [x] (sp (K w.params)))
    (hsp : ∀ (K : PySem.W.Frag) (H : Hp) (a : Addr) (ns : List Int), ns.length ≤ m →
      (∀ z ∈ ns, Builtin.Int.intBits z ≤ 1048576) → Only H → SqL K H a (ns.map V.int) →
      sp K [.ref a] H (fun v _ => v = .bl true) fun _ _ _ => False) :
    PySem.W.WalkO q loose XP YP l.row.toRowW d [] (fun f vs => PySem.call f vs) := by
  refine Att.attach_callB hn hdf ?_
  intro w s0 s1 mg mb fa o pm cd dc a vs ns G Y ho hd hcd hmg hobj hints hlen hbits hg
  have KX := hY w _ Y
  obtain ⟨fd, hb, hF⟩ := F w mg fa _ KX G.T.g hmg
  exact law_callG KX G.T.g G.T.b G.T.builtins G.T.nolimit hg hobj hints (Nat.le_trans hlen hm) hr hF hb
    (fun H only hS => hsp _ H a ns hlen hbits only hS) fun H e s' z => z.elim
end Gd
end

section
set_option Elab.async false
set_option linter.all false
set_option maxRecDepth 100000
set_option maxHeartbeats 4000000
/-! The end of a law's row from a promise of Gd.FnG, with the tables of code objects of defs that hold lambdas. -/
namespace Gd
open PySem PySem.Spec PyProof.Rows L2 LamX
/-- the def y, its code object c, the table P, which is not written out -/
def TabIn (K : PySem.W.Frag) (mg : Str → Option Value) (ys : List Str) (p : Addr × Addr) : Prop :=
  ∃ (y : Str) (f : Addr) (oc : Value) (od : Option Addr) (fd : FuncData) (sl : Array (Option Value)) (e : Value) (dd : Option Addr) (vs : Array Value) (sl2 : Array (Option Value)), y ∈ ys ∧ mg y = some (.ref f) ∧ K.lookup f = some ⟨oc, od, .func fd, sl⟩ ∧ fd.code = .ref p.1 ∧
    K.lookup p.1 = some ⟨e, dd, .fields vs, sl2⟩ ∧ vs[11]? = some (.ref p.2) ∧ K.lookup p.2 = none
section
variable {P : Program} {w : World} {K : PySem.W.Frag} {mg mb : Str → Option Value} {cx : CXT} {n : Nat} {cs : List (Addr × Addr)}
  {fa a : Addr} {fd : FuncData} {x : Str} {sp : Sp} {s1 : Shared} {vs : List Value} {ns : List Int}
theorem begunT (H : Hp) (hH : ∀ p ∈ cs, H p.2 = some (.tbl #[])) (only : ∀ b, H b = none ∨ (∃ p ∈ cs, b = p.2) ∨ ∃ o xs, H b = some (.frz o (.lst xs))) (hok : HOk P w H s1.heap)
    (at_a : ∀ b, H b ≠ none → b = a ∨ ∃ p ∈ cs, b = p.2) (noK : H a ≠ none → K.lookup a = none)
    (hT : ∀ p ∈ cs, s1.heap.get? p.2 = some { cls := .none, data := .fields #[] }) (nT : ∀ p ∈ cs, K.lookup p.2 = none) (C : ∀ p ∈ cs, PySem.W.CodeHd s1.heap p.1 p.2)
    (hbm : ∃ (bm : Addr) (ob : Obj), mg "__builtins__" = some (.ref bm) ∧ bm ≠ builtinsNs ∧ s1.heap.get? bm = some ob ∧ ob.cls = .type "module" ∧ ob.dict = some builtinsNs ∧ ob.data = .plain)
    (KX : K.In s1.heap) (hns : s1.heap.Ns mainGlobals mg) (hb : s1.heap.Ns builtinsNs mb)
    (hbb : ∀ y : Str, y ≠ "__name__" → mb y = bootBuiltins y) (hlim : s1.heap.NoLimit) (hg : s1.gens = #[])
    (ha : s1.heap.get? a = some { cls := .type "list", data := .seq vs.toArray }) (hr : Room n callerA)
    (F : ∀ base : Heap, K.In base → base.Ns mainGlobals mg → (∀ p ∈ cs, TabB base mg p.1 p.2) → FnG P w K mg base cx n fa fd [x] sp)
    (hbind : ∀ (s : Shared) (u : Value), BindsTo s fd ⟨[u], []⟩ [(x, u)])
    (hsp : sp [.ref a] H (fun v _ => v = .bl true) fun _ _ _ => False)
    (hCX : ∀ e s', cx [] H s1 (fun _ _ _ => False) e s' → False) :
    codeAny (model P w) callerA (.call (.ref fa) ⟨[.ref a], []⟩) (Yes s1) s1 := by
  let B := hidT s1.heap H
  have toB : ∀ {b : Addr} {o : Obj}, s1.heap.get? b = some o → H b = none → B.get? b = some o := fun e z => hidT_get e z
  -- what is neither a list nor an empty table is not tracked
  have off : ∀ {b : Addr} {o : Obj}, s1.heap.get? b = some o → (∀ us m, o.data ≠ .seq us m) → o.data ≠ .fields #[] → H b = none := by
    intro b o e d1 d2
    cases q : H b with
    | none => rfl
    | some u =>
      exfalso
      rcases at_a b (by simp [q]) with eb | ⟨p, hp, eb⟩
      · rw [eb, ha] at e
        cases Option.some.inj e
        exact d1 _ _ rfl
      · rw [eb, hT p hp] at e
        cases Option.some.inj e
        exact d2 rfl
  have nsB : ∀ {b : Addr} {m : Str → Option Value}, s1.heap.Ns b m → B.Ns b m := by
    rintro b m ⟨o, es, ep, e, d, r⟩
    exact ⟨o, es, ep, toB e (off e (fun _ _ z => by rw [d] at z; cases z) (fun z => by rw [d] at z; cases z)), d, r⟩
  have inB : K.In B := by
    intro b o e
    refine toB (KX b o e) ?_
    cases q : H b with
    | none => rfl
    | some u =>
      rcases at_a b (by simp [q]) with eb | ⟨p, hp, eb⟩
      · have z := noK (by rw [← eb, q]; simp)
        rw [eb, z] at e
        cases e
      · rw [eb, nT p hp] at e
        cases e
  have modB : Mod K mg B := by
    obtain ⟨mc, l1, l2⟩ := hlim
    exact ⟨inB, nsB hns, ⟨mb, nsB hb, hbb⟩, ⟨mc, nsB l1, l2⟩⟩
  have tabB : ∀ p ∈ cs, TabB B mg p.1 p.2 := by
    intro p hp
    have hTp := hT p hp
    refine ⟨?_, ?_, ?_⟩
    · obtain ⟨o, us, file, tf, flags, tg, inF, text, tt, e1, r1, r2, r3, r⟩ := C p hp
      refine ⟨o, us, file, tf, flags, tg, inF, text, tt, toB e1 (off e1 (fun _ _ z => by rw [r2] at z; cases z) fun z => ?_), r1, r2, r3, r⟩
      rw [r2] at z
      cases z
      simp at r3
    · obtain ⟨bm, ob, b1, b2, b3, b4, b5, b6⟩ := hbm
      refine ⟨bm, ob, b1, b2, ?_, ?_, toB b3 (off b3 (fun _ _ z => by rw [b6] at z; cases z) fun z => by rw [b6] at z; cases z), b4, b5, b6⟩
      · rintro rfl
        obtain ⟨o, es, ep, e, d, _⟩ := hns
        rw [e] at b3
        cases b3
        rw [d] at b6
        cases b6
      · rintro rfl
        rw [hTp] at b3
        cases b3
        cases b6
    · intro z
      obtain ⟨o, es, ep, e, d, _⟩ := hns
      rw [z, hTp] at e
      cases e
      cases d
  have nil : ∀ {b : Addr}, b ∉ ([] : List Addr) := fun z => nomatch z
  have e0 : Env0 P w K mg B callerA [] s1 H :=
    ⟨rfl, modB, fun b o e => of_hidT e, Nat.le_of_eq (hidT_size _ _), trivial, fun b z => (nil z).elim, hok, .of_eq hg⟩
  have got := (F B inB (nsB hns) tabB).run callerA [] s1 H ⟨[.ref a], []⟩ [.ref a] [.ref a] _ _ rfl hr e0
    (hbind s1 (.ref a)) (.cons rfl .nil) hsp
  refine codeAny_mono got ?_
  intro r s' z
  cases r with
  | error er => exact (hCX er s' z).elim
  | ok fl =>
    cases fl with
    | ret u =>
      obtain ⟨v, H', os, bare, un, hok', rv, q⟩ := z
      obtain rfl : v = .bl true := q
      obtain rfl : u = Value.bool true := rv
      have old : ∀ b o, (¬ ∃ p ∈ cs, b = p.2) → s1.heap.get? b = some o → s'.heap.get? b = some o := by
        intro b o nb e
        cases q : H b with
        | none => exact un.keep b o e q (fun z => (nil z).elim) (fun z => (nil z).elim)
        | some u =>
          rcases only b with z | z | ⟨ob, xs, z⟩
          · exact nomatch q.symm.trans z
          · exact absurd z nb
          · obtain ⟨g1, _⟩ := hok b _ z
            obtain ⟨g2, _⟩ := hok' b _ (un.frzs b ob _ z)
            exact g2.trans (g1.symm.trans e)
      have more : ∀ p ∈ cs, ∃ us : Array Value, s'.heap.get? p.2 = some { cls := .none, data := .fields us } := fun p hp => by
        obtain ⟨us, z⟩ := un.tbls p.2 #[] (hH p hp)
        exact ⟨_, hok' p.2 _ z⟩
      refine ⟨rfl, ⟨fun b o e => ?_, fun b o e => ?_⟩, os, bare⟩
      · by_cases nb : ∃ p ∈ cs, b = p.2
        · obtain ⟨p, hp, rfl⟩ := nb
          obtain ⟨us, z⟩ := more p hp
          rw [hT p hp] at e
          cases e
          exact .inr (.inl ⟨((C p hp).tab (hT p hp)).isCodeTable, rfl, #[], us, rfl, by rw [Array.empty_append]; exact z⟩)
        · exact .inl (old b o nb e)
      · by_cases nb : ∃ p ∈ cs, b = p.2
        · obtain ⟨p, hp, rfl⟩ := nb
          obtain ⟨us, z⟩ := more p hp
          exact ⟨_, z⟩
        · exact ⟨o, old b o nb e⟩
    | _ => exact False.elim z
theorem law_callT (hT : ∀ p ∈ cs, s1.heap.get? p.2 = some { cls := .none, data := .fields #[] }) (nT : ∀ p ∈ cs, K.lookup p.2 = none) (C : ∀ p ∈ cs, PySem.W.CodeHd s1.heap p.1 p.2)
    (hbm : ∃ (bm : Addr) (ob : Obj), mg "__builtins__" = some (.ref bm) ∧ bm ≠ builtinsNs ∧ s1.heap.get? bm = some ob ∧ ob.cls = .type "module" ∧ ob.dict = some builtinsNs ∧ ob.data = .plain)
    (KX : K.In s1.heap) (hns : s1.heap.Ns mainGlobals mg) (hb : s1.heap.Ns builtinsNs mb)
    (hbb : ∀ y : Str, y ≠ "__name__" → mb y = bootBuiltins y) (hlim : s1.heap.NoLimit) (hg : s1.gens = #[])
    (ha : s1.heap.get? a = some { cls := .type "list", data := .seq vs.toArray }) (hi : IntsAre vs ns)
    (hl : ns.length ≤ sizeLine) (hr : Room n callerA)
    (F : ∀ base : Heap, K.In base → base.Ns mainGlobals mg → (∀ p ∈ cs, TabB base mg p.1 p.2) → FnG P w K mg base cx n fa fd [x] sp)
    (hbind : ∀ (s : Shared) (u : Value), BindsTo s fd ⟨[u], []⟩ [(x, u)])
    (hsp : ∀ H : Hp, (∀ p ∈ cs, H p.2 = some (.tbl #[])) → SqL K H a (ns.map V.int) → sp [.ref a] H (fun v _ => v = .bl true) fun _ _ _ => False)
    (hCX : ∀ H e s', cx [] H s1 (fun _ _ _ => False) e s' → False) :
    codeAny (model P w) callerA (.call (.ref fa) ⟨[.ref a], []⟩) (Yes s1) s1 := by
  have rv := vals_ints hi
  have hz : vs.toArray.size ≤ sizeLine := by
    rw [List.size_toArray, hi.length]
    exact hl
  have na : ¬ ∃ p ∈ cs, a = p.2 := by
    rintro ⟨p, hp, e⟩
    have := hT p hp
    rw [← e, ha] at this
    cases Option.some.inj this
  have dec : ∀ b, Decidable (∃ p ∈ cs, b = p.2) := fun b => Classical.propDecidable _
  cases hk : K.lookup a with
  | some o =>
    have e : some o = some _ := (KX a o hk).symm.trans ha
    cases e
    let H : Hp := fun b => @ite _ (∃ p ∈ cs, b = p.2) (dec b) (some (.tbl #[])) none
    have Ht : ∀ {b}, (∃ p ∈ cs, b = p.2) → H b = some (.tbl #[]) := fun z => if_pos z
    have Hn : ∀ {b}, (¬ ∃ p ∈ cs, b = p.2) → H b = none := fun z => if_neg z
    have here : SqL K H a (ns.map V.int) := .inr ⟨_, vs.toArray, _, hk, rfl, rfl, rfl, hz, by simpa using rv⟩
    have hH : ∀ p ∈ cs, H p.2 = some (.tbl #[]) := fun p hp => Ht ⟨p, hp, rfl⟩
    refine begunT H hH (fun b => ?_) (fun b u z => ?_) (fun b z => ?_) (fun z => absurd (Hn na) z) hT nT C hbm KX hns hb hbb hlim hg ha hr F hbind (hsp H hH here) (hCX _)
    · by_cases hb : ∃ p ∈ cs, b = p.2
      · exact .inr (.inl hb)
      · exact .inl (Hn hb)
    · by_cases hb : ∃ p ∈ cs, b = p.2
      · rw [Ht hb] at z
        cases z
        obtain ⟨p, hp, rfl⟩ := hb
        exact hT p hp
      · rw [Hn hb] at z
        cases z
    · by_cases hb : ∃ p ∈ cs, b = p.2
      · exact .inr hb
      · exact absurd (Hn hb) z
  | none =>
    let H : Hp := fun b => if b = a then some (.frz { cls := .type "list", data := .seq vs.toArray } (.lst (ns.map V.int))) else @ite _ (∃ p ∈ cs, b = p.2) (dec b) (some (.tbl #[])) none
    have Ha : H a = some (.frz { cls := .type "list", data := .seq vs.toArray } (.lst (ns.map V.int))) := if_pos rfl
    have Ht : ∀ {b}, (∃ p ∈ cs, b = p.2) → H b = some (.tbl #[]) := fun {b} z => (if_neg (fun (e : b = a) => na (by rw [← e]; exact z))).trans (if_pos z)
    have Hn : ∀ {b}, b ≠ a → (¬ ∃ p ∈ cs, b = p.2) → H b = none := fun z1 z2 => (if_neg z1).trans (if_neg z2)
    have here : SqL K H a (ns.map V.int) := .inl (.inr ⟨_, Ha⟩)
    have hH : ∀ p ∈ cs, H p.2 = some (.tbl #[]) := fun p hp => Ht ⟨p, hp, rfl⟩
    refine begunT H hH (fun b => ?_) (fun b u z => ?_) (fun b z => ?_) (fun _ => hk) hT nT C hbm KX hns hb hbb hlim hg ha hr F hbind (hsp H hH here) (hCX _)
    · by_cases eb : b = a
      · exact .inr (.inr ⟨_, _, by rw [eb]; exact Ha⟩)
      by_cases hb : ∃ p ∈ cs, b = p.2
      · exact .inr (.inl hb)
      · exact .inl (Hn eb hb)
    · by_cases eb : b = a
      · subst eb
        rw [Ha] at z
        cases z
        exact ⟨ha, by rw [List.length_map]; exact hl, vs, _, rv, ha⟩
      by_cases hb : ∃ p ∈ cs, b = p.2
      · rw [Ht hb] at z
        cases z
        obtain ⟨p, hp, rfl⟩ := hb
        exact hT p hp
      · rw [Hn eb hb] at z
        cases z
    · by_cases eb : b = a
      · exact .inl eb
      by_cases hb : ∃ p ∈ cs, b = p.2
      · exact .inr hb
      · exact absurd (Hn eb hb) z
end
theorem walkT {l : PySem.W.OpenLaw} {m n : Nat} {q : Program} {loose : List Str} {XP : (Str → Option Value) → Heap → Prop}
    {YP : World → Heap → Prop} {d : DefRec} {K : Params → PySem.W.Frag} {sp : PySem.W.Frag → List (Addr × Addr) → Sp} {x : Str} {ys : List Str}
    (hn : l.most = some m) (hm : m ≤ sizeLine) (hdf : d.params.defaults = []) (hr : Room n callerA)
    (hY : ∀ (w : World) (h : Heap), YP w h → (K w.params).In h) (hys : (ys.all fun y => (recsOf q).any fun e => e.name == y) = true)
    (F : ∀ (w : World) (mg : Str → Option Value) (fa : Addr) (h : Heap), (K w.params).In h → h.Ns mainGlobals mg →
      mg d.name = some (.ref fa) → ∃ (fd : FuncData) (cs : List (Addr × Addr)), (∀ p ∈ cs, TabIn (K w.params) mg ys p) ∧ (∀ (s : Shared) (u : Value), BindsTo s fd ⟨[u], []⟩ [(x, u)]) ∧
        ∀ base : Heap, (K w.params).In base → base.Ns mainGlobals mg → (∀ p ∈ cs, TabB base mg p.1 p.2) → FnG l.prog w (K w.params) mg base CX0 n fa fd [x] (sp (K w.params) cs))
    (hsp : ∀ (K : PySem.W.Frag) (cs : List (Addr × Addr)) (H : Hp) (a : Addr) (ns : List Int), ns.length ≤ m →
      (∀ z ∈ ns, Builtin.Int.intBits z ≤ 1048576) → (∀ p ∈ cs, H p.2 = some (.tbl #[])) → SqL K H a (ns.map V.int) →
      sp K cs [.ref a] H (fun v _ => v = .bl true) fun _ _ _ => False) :
    PySem.W.WalkO q loose XP YP l.row.toRowW d [] (fun f vs => PySem.call f vs) := by
  refine Att.attach_callB hn hdf ?_
  intro w s0 s1 mg mb fa o pm cd dc a vs ns G Y ho hd hcd hmg hobj hints hlen hbits hg
  have KX := hY w _ Y
  obtain ⟨fd, cs, tabs, hb, hF⟩ := F w mg fa _ KX G.T.g hmg
  have all : ∀ p ∈ cs, s1.heap.get? p.2 = some { cls := .none, data := .fields #[] } ∧ (K w.params).lookup p.2 = none ∧ PySem.W.CodeHd s1.heap p.1 p.2 := by
    rintro ⟨c, P⟩ hp
    obtain ⟨y, f, oc, od, fd1, sl, e, dd, us, sl2, hy, t1, t2, t3, t4, t5, t6⟩ := tabs _ hp
    obtain ⟨dL, hL, en⟩ := List.any_eq_true.mp (List.all_eq_true.mp hys y hy)
    have en : dL.name = y := beq_iff_eq.mp en
    obtain ⟨a', o', fd', c', P', h1, h2, h3, h4, h5, h6⟩ := G.T.tab dL hL
    rw [en, t1] at h1
    cases h1
    rw [KX _ _ t2] at h2
    cases h2
    cases h3
    rw [t3] at h4
    cases h4
    have hcd := PySem.W.CodeHd.of h5 h6
    obtain ⟨⟨o2, vs2, q1, _, q3, q4⟩, hP⟩ := h6
    rw [KX _ _ t4] at q1
    cases q1
    cases q3
    rw [t5] at q4
    cases q4
    exact ⟨hP, t6, hcd⟩
  exact law_callT (fun p hp => (all p hp).1) (fun p hp => (all p hp).2.1) (fun p hp => (all p hp).2.2) G.T.bmain KX G.T.g G.T.b G.T.builtins G.T.nolimit hg hobj hints (Nat.le_trans hlen hm) hr hF hb
    (fun H hH hS => hsp _ cs H a ns hlen hbits hH hS) fun H e s' z => z.elim
end Gd
end

section
set_option Elab.async false
set_option linter.all false
set_option maxRecDepth 100000
set_option maxHeartbeats 4000000
/-! repr of data, the reading of a promise that is free of texts under way. -/
namespace Gd
open PySem PySem.Spec PyProof.Rows L2

section
variable {K : PySem.W.Frag} {H : Hp}
mutual
theorem Dp.plain : ∀ (d : PyData) {v : V}, Dp K H v d → d.hasDict = false
  | .none, _, _ => by simp only [PyData.hasDict]
  | .bool _, _, _ => by simp only [PyData.hasDict]
  | .int _, _, _ => by simp only [PyData.hasDict]
  | .str _, _, _ => by simp only [PyData.hasDict]
  | .list ds, _, h => by
    cases h with
    | lst _ k =>
      simp only [PyData.hasDict]
      exact DpAll.plain ds k
  | .tuple ds, _, h => by
    cases h with
    | tup _ k =>
      simp only [PyData.hasDict]
      exact DpAll.plain ds k
  | .dict _, _, h => by cases h
theorem DpAll.plain : ∀ (ds : List PyData) {vs : List V}, DpAll K H vs ds → PyData.hasDictAll ds = false
  | [], _, _ => by simp only [PyData.hasDictAll]
  | d :: ds, _, h => by
    cases h with
    | cons a b =>
      simp only [PyData.hasDictAll, Dp.plain d a, DpAll.plain ds b, Bool.or_self]
end
end

/-- repr(x), x data -/
def rRepr (K : PySem.W.Frag) : List V → Hp → VK → Prop := fun xs H Q =>
  ∃ (x : V) (d : PyData), xs = [x] ∧ Dp K H x d ∧ d.showable = true ∧ d.shown.length ≤ sizeLine ∧ d.depth ≤ 60 ∧ Q (.str d.shown) H

section
variable {X : Cx}
theorem call_repr (g : Free X.A) (hu : X.A.units + 64 < cLine) : CallR X (.builtin "repr") (rRepr X.K) := by
  intro pins s σ H xs us Q I r h
  obtain ⟨x, d, rfl, hd, hs, hz, hdp, q⟩ := h
  obtain ⟨u, rfl, ru⟩ := r.one
  have pl := Dp.plain d hd
  obtain ⟨as, rd⟩ := Dp.reads I d x u hd ru
  have fin : ∀ (h' : Heap) (tk tk' : Nat), (∀ b o, s.heap.get? b = some o → h'.get? b = some o) →
      EP X pins σ Q (.str d.shown tk) { s with heap := h', toks := tk' } :=
    fun h' tk tk' k => ⟨.str d.shown, H, I.kept k, ⟨tk, rfl⟩, q⟩
  have fin0 : ∀ (tk tk' : Nat), EP X pins σ Q (.str d.shown tk) { s with toks := tk' } :=
    fun tk tk' => ⟨.str d.shown, H, I.tok tk', ⟨tk, rfl⟩, q⟩
  cases rd with
  | none => exact P.repr_of_none (fin0 _ _)
  | bool b => exact P.repr_of_bool (fin0 _ _)
  | int i t => exact P.repr_of_int (by simpa [PyData.showable] using hs) (fin0 _ _)
  | str z t => exact P.repr_of_str (fin0 _ _) hz
  | list h1 h2 h3 h4 =>
    exact repr_of_reads' (.list h1 h2 h3 h4) hs (PyData.noDict_hsm pl) g (by omega) (fun _ _ e => e) (fun h' u tk k => fin h' u tk k) hz
  | tuple h1 h2 h3 h4 =>
    exact repr_of_reads' (.tuple h1 h2 h3 h4) hs (PyData.noDict_hsm pl) g (by omega) (fun _ _ e => e) (fun h' u tk k => fin h' u tk k) hz
  | dict h1 h2 h3 h4 h5 => simp [PyData.hasDict] at pl
end
end Gd
end

section
set_option Elab.async false
set_option linter.all false
set_option maxRecDepth 100000
set_option maxHeartbeats 4000000
/-! What the laws draw from: a list of three numbers, of which each draw takes one more. -/
namespace Gd
open PySem PySem.Spec PyProof.Rows L2

/-- at p: what is left of a great number, the seed, how many were drawn, at most S -/
def Feed (H : Hp) (p : Addr) (S : Int) : Prop := ∃ g x s : Int, H p = some (.lst [.int g, .int x, .int s]) ∧ 0 ≤ s ∧ s ≤ S
theorem Feed.le {H : Hp} {p : Addr} {S T : Int} (h : Feed H p S) (l : S ≤ T) : Feed H p T := by
  obtain ⟨g, x, s, e, a, b⟩ := h
  exact ⟨g, x, s, e, a, by omega⟩
theorem Feed.here {H : Hp} {p : Addr} {S g x s : Int} (h0 : 0 ≤ s) (h : s ≤ S) : Feed (upd H p (.lst [.int g, .int x, .int s])) p S :=
  ⟨g, x, s, upd_same, h0, h⟩
theorem Feed.stays {H : Hp} {p q : Addr} {S : Int} {o : HO} (h : Feed H p S) (n : H q = none) : Feed (upd H q o) p S := by
  obtain ⟨g, x, s, e, a, b⟩ := h
  refine ⟨g, x, s, ?_, a, b⟩
  rw [upd_ne (ne_of_none e n)]
  exact e
/-- all is as it was, but at p -/
def Ex1 (p : Addr) (H H' : Hp) : Prop := ∀ a o, a ≠ p → H a = some o → H' a = some o
theorem Ex1.refl (p : Addr) (H : Hp) : Ex1 p H H := fun _ _ _ h => h
theorem Ex1.trans {p : Addr} {H H1 H2 : Hp} (a : Ex1 p H H1) (b : Ex1 p H1 H2) : Ex1 p H H2 := fun x o n h => b x o n (a x o n h)
theorem Ex1.at {p : Addr} {H : Hp} {o : HO} : Ex1 p H (upd H p o) := fun a u n e => by
  rw [upd_ne n]
  exact e
theorem Ex1.new {p q : Addr} {H : Hp} {o : HO} (n : H q = none) : Ex1 p H (upd H q o) := fun a u _ e => by
  rw [upd_ne (ne_of_none e n)]
  exact e

theorem Feed.lst {H : Hp} {p : Addr} {S : Int} (h : Feed H p S) : ∃ xs, H p = some (.lst xs) := by
  obtain ⟨g, x, s, e, _⟩ := h
  exact ⟨_, e⟩
theorem Feed.ne {H : Hp} {p q : Addr} {S : Int} (h : Feed H p S) (n : H q = none) : q ≠ p := fun z => by
  obtain ⟨xs, e⟩ := h.lst
  rw [z, e] at n
  cases n
def spTake : Sp := fun vs H Q _ => ∃ (p : Addr) (m S : Int), vs = [.ref p, .int m] ∧ Feed H p S ∧ 0 < m ∧ m < 1073741824 ∧
  S ≤ 1000000000 ∧ ∀ (r : Int) (H' : Hp), 0 ≤ r → r < m → Feed H' p (S + 1) → Ex1 p H H' → Q (.int r) H'

theorem fmod_in (a : Int) {b : Int} (h : 0 < b) : 0 ≤ a.fmod b ∧ a.fmod b < b :=
  ⟨Int.fmod_nonneg_of_pos a h, Int.fmod_lt_of_pos a h⟩
end Gd
end

section
set_option Elab.async false
set_option linter.all false
set_option maxRecDepth 100000
set_option maxHeartbeats 4000000
/-! Data: numbers, texts, truths, None, tuples of such. -/
namespace Gd
open PySem PySem.Spec PyProof.Rows L2

mutual
def tupOnly : PyData → Bool
  | .none => true
  | .bool _ => true
  | .int _ => true
  | .str _ => true
  | .tuple ds => decide (ds.length ≤ 1000) && tupOnlyAll ds
  | .list _ => false
  | .dict _ => false
def tupOnlyAll : List PyData → Bool
  | [] => true
  | d :: ds => tupOnly d && tupOnlyAll ds
end

/-- tuples stay -/
def Tups (K : PySem.W.Frag) (H H' : Hp) : Prop := ∀ a xs, SqT K H a xs → SqT K H' a xs
theorem Tups.refl {K : PySem.W.Frag} {H : Hp} : Tups K H H := fun _ _ h => h
theorem Tups.trans {K : PySem.W.Frag} {H H1 H2 : Hp} (a : Tups K H H1) (b : Tups K H1 H2) : Tups K H H2 := fun x y h => b x y (a x y h)
theorem Tups.upd_lst {K : PySem.W.Frag} {H : Hp} {D : Addr} {xs ys : List V} (e : H D = some (.lst xs)) : Tups K H (upd H D (.lst ys)) := by
  intro a zs h
  rcases h with (h | ⟨o, h⟩) | h
  · refine .inl (.inl ?_)
    rw [upd_ne (fun z => by rw [z, e] at h; cases h)]
    exact h
  · refine .inl (.inr ⟨o, ?_⟩)
    rw [upd_ne (fun z => by rw [z, e] at h; cases h)]
    exact h
  · exact .inr h
theorem Tups.of_same {K : PySem.W.Frag} {H H' : Hp} (s : Same H H') : Tups K H H' := by
  intro a zs h
  rcases h with (h | ⟨o, h⟩) | h
  · exact .inl (.inl (s _ _ h))
  · exact .inl (.inr ⟨o, s _ _ h⟩)
  · exact .inr h

theorem Tups.new {K : PySem.W.Frag} {H : Hp} {q : Addr} {o : HO} (n : H q = none) : Tups K H (upd H q o) :=
  .of_same fun b u e => by
    rw [upd_ne (ne_of_none e n)]
    exact e
theorem Ex1.tups {K : PySem.W.Frag} {H H' : Hp} {p : Addr} {xs : List V} (x : Ex1 p H H') (e : H p = some (.lst xs)) : Tups K H H' := by
  intro a zs h
  rcases h with (h | ⟨o, h⟩) | h
  · exact .inl (.inl (x _ _ (fun z => by rw [z, e] at h; cases h) h))
  · exact .inl (.inr ⟨o, x _ _ (fun z => by rw [z, e] at h; cases h) h⟩)
  · exact .inr h
section
variable {K : PySem.W.Frag} {H H' : Hp}
mutual
theorem Dp.tups (t : Tups K H H') : ∀ (d : PyData) {v : V}, tupOnly d = true → Dp K H v d → Dp K H' v d
  | .none, _, _, h => by cases h; exact .non
  | .bool _, _, _, h => by cases h; exact .bl _
  | .int _, _, _, h => by cases h; exact .int _
  | .str _, _, _, h => by cases h; exact .str _
  | .tuple ds, _, o, h => by
    cases h with
    | tup a b =>
      simp only [tupOnly, Bool.and_eq_true] at o
      exact .tup (t _ _ a) (DpAll.tups t ds o.2 b)
  | .list _, _, o, _ => by simp [tupOnly] at o
  | .dict _, _, _, h => by cases h
theorem DpAll.tups (t : Tups K H H') : ∀ (ds : List PyData) {vs : List V}, tupOnlyAll ds = true → DpAll K H vs ds → DpAll K H' vs ds
  | [], _, _, h => by cases h; exact .nil
  | d :: ds, _, o, h => by
    simp only [tupOnlyAll, Bool.and_eq_true] at o
    cases h with
    | cons a b => exact .cons (Dp.tups t d o.1 a) (DpAll.tups t ds o.2 b)
end
mutual
theorem Dp.same (s : Same H H') : ∀ (d : PyData) {v : V}, Dp K H v d → Dp K H' v d
  | .none, _, h => by cases h; exact .non
  | .bool _, _, h => by cases h; exact .bl _
  | .int _, _, h => by cases h; exact .int _
  | .str _, _, h => by cases h; exact .str _
  | .tuple ds, _, h => by
    cases h with
    | tup a b => exact .tup (Tups.of_same s _ _ a) (DpAll.same s ds b)
  | .list ds, _, h => by
    cases h with
    | lst a b => exact .lst (s.seq a) (DpAll.same s ds b)
  | .dict _, _, h => by cases h
theorem DpAll.same (s : Same H H') : ∀ (ds : List PyData) {vs : List V}, DpAll K H vs ds → DpAll K H' vs ds
  | [], _, h => by cases h; exact .nil
  | d :: ds, _, h => by
    cases h with
    | cons a b => exact .cons (Dp.same s d a) (DpAll.same s ds b)
end
theorem DpAll.len : ∀ {vs : List V} {ds : List PyData}, DpAll K H vs ds → vs.length = ds.length
  | _, _, .nil => rfl
  | _, _, .cons _ b => congrArg (· + 1) (DpAll.len b)
theorem DpAll.at_ : ∀ {vs : List V} {ds : List PyData} {i : Nat} {v : V}, DpAll K H vs ds → vs[i]? = some v → ∃ d, ds[i]? = some d ∧ Dp K H v d
  | _, _, _, _, .nil, e => by simp at e
  | _, _, 0, _, .cons a _, e => by
    cases Option.some.inj e
    exact ⟨_, rfl, a⟩
  | _, _, i + 1, _, .cons _ b, e => DpAll.at_ (i := i) b e
theorem DpAll.snoc : ∀ {vs : List V} {ds : List PyData} {v : V} {d : PyData}, DpAll K H vs ds → Dp K H v d → DpAll K H (vs ++ [v]) (ds ++ [d])
  | _, _, _, _, .nil, h => .cons h .nil
  | _, _, _, _, .cons a b, h => .cons a (DpAll.snoc b h)
theorem tupOnlyAll_at : ∀ {ds : List PyData} {i : Nat} {d : PyData}, tupOnlyAll ds = true → ds[i]? = some d → tupOnly d = true
  | [], _, _, _, e => by simp at e
  | x :: r, 0, d, o, e => by
    simp only [tupOnlyAll, Bool.and_eq_true] at o
    cases Option.some.inj e
    exact o.1
  | x :: r, i + 1, d, o, e => by
    simp only [tupOnlyAll, Bool.and_eq_true] at o
    exact tupOnlyAll_at (i := i) o.2 e
theorem tupOnlyAll_take : ∀ {ds : List PyData}, tupOnlyAll ds = true → ∀ i : Nat, tupOnlyAll (ds.take i) = true
  | [], _, i => by rw [List.take_nil] <;> rfl
  | x :: r, o, 0 => rfl
  | x :: r, o, i + 1 => by
    simp only [tupOnlyAll, Bool.and_eq_true] at o
    simp only [List.take_succ_cons, tupOnlyAll, Bool.and_eq_true]
    exact ⟨o.1, tupOnlyAll_take o.2 i⟩
theorem depth_at : ∀ {ds : List PyData} {i : Nat} {d : PyData}, ds[i]? = some d → d.depth ≤ PyData.depthAll ds
  | [], _, _, e => by simp at e
  | x :: r, 0, d, e => by
    cases Option.some.inj e
    simp only [PyData.depthAll]
    omega
  | x :: r, i + 1, d, e => by
    have h := depth_at (ds := r) (i := i) e
    simp only [PyData.depthAll]
    omega
end

/-- the built-in class of data -/
def kindN : PyData → String
  | .none => "NoneType"
  | .bool _ => "bool"
  | .int _ => "int"
  | .str _ => "str"
  | .list _ => "list"
  | .tuple _ => "tuple"
  | .dict _ => "dict"
theorem Dp.kind {K : PySem.W.Frag} {H : Hp} {v : V} {d : PyData} (h : Dp K H v d) (o : tupOnly d = true) : TyX K H v (.type (kindN d)) := by
  cases h with
  | non => exact .base .non
  | bl b => exact .base (.bl b)
  | int i => exact .base (.int i)
  | str x => exact .base (.str x)
  | lst _ _ => simp [tupOnly] at o
  | tup a _ =>
    rcases a with (a | ⟨z, a⟩) | ⟨z, its, n, a, c, _⟩
    · exact .base (.tup a)
    · exact .fTuple a
    · exact .kTuple a c
section
theorem kb0 : kitB "NoneType" "list" = some false ∧ kitB "NoneType" "tuple" = some false ∧ kitB "NoneType" "dict" = some false := by decide +kernel
theorem kb1 : kitB "bool" "list" = some false ∧ kitB "bool" "tuple" = some false ∧ kitB "bool" "dict" = some false := by decide +kernel
theorem kb2 : kitB "int" "list" = some false ∧ kitB "int" "tuple" = some false ∧ kitB "int" "dict" = some false := by decide +kernel
theorem kb3 : kitB "str" "list" = some false ∧ kitB "str" "tuple" = some false ∧ kitB "str" "dict" = some false := by decide +kernel
theorem kb4 : kitB "tuple" "list" = some false ∧ kitB "tuple" "tuple" = some true ∧ kitB "tuple" "dict" = some false := by decide +kernel
theorem kind_list {d : PyData} (o : tupOnly d = true) : kitB (kindN d) "list" = some false := by
  cases d with
  | none => exact kb0.1
  | bool b => exact kb1.1
  | int i => exact kb2.1
  | str x => exact kb3.1
  | tuple ds => exact kb4.1
  | list ds => simp [tupOnly] at o
  | dict ds => simp [tupOnly] at o
theorem kind_dict {d : PyData} (o : tupOnly d = true) : kitB (kindN d) "dict" = some false := by
  cases d with
  | none => exact kb0.2.2
  | bool b => exact kb1.2.2
  | int i => exact kb2.2.2
  | str x => exact kb3.2.2
  | tuple ds => exact kb4.2.2
  | list ds => simp [tupOnly] at o
  | dict ds => simp [tupOnly] at o
theorem kind_tuple {d : PyData} (o : tupOnly d = true) (n : ¬ ∃ ds, d = .tuple ds) : kitB (kindN d) "tuple" = some false := by
  cases d with
  | none => exact kb0.2.1
  | bool b => exact kb1.2.1
  | int i => exact kb2.2.1
  | str x => exact kb3.2.1
  | tuple ds => exact absurd ⟨ds, rfl⟩ n
  | list ds => simp [tupOnly] at o
  | dict ds => simp [tupOnly] at o
end
end Gd
end

section
set_option Elab.async false
set_option linter.all false
set_option maxRecDepth 100000
set_option maxHeartbeats 4000000
/-! Lists of ints and slabs in the heap; what they show. -/
namespace Gd
open PySem PySem.Spec PyProof.Rows L2
theorem int_shown {i : Int} (h : i.natAbs ≤ 10 ^ 40) : (PyData.int i).shown.length ≤ 100 ∧ i.natAbs.log2 < 1920 ∧ (PyData.int i).weight ≤ 200 := by
  have h1 : i.natAbs < 10 ^ 41 := Nat.lt_of_le_of_lt h (by decide)
  have hl : i.natAbs.log2 < 190 := by
    by_cases z : i.natAbs = 0
    · rw [z]; decide
    · exact (Nat.log2_lt z).mpr (Nat.lt_of_lt_of_le h1 (by decide +kernel))
  refine ⟨?_, by omega, ?_⟩
  · have e := int_text_length_le10 (k := 41) (by decide) h1
    have e2 : (PyData.int i).shown.length = (toString i).length := by
      show (Str.ofString (toString i)).length = _
      rw [PySem.ofString_length]
    omega
  · simp only [PyData.weight]
    split <;> omega
theorem ints_leaves : ∀ {ns : List Int}, (∀ i ∈ ns, i.natAbs ≤ 10 ^ 40) → PyData.leavesShortAll 100 (ns.map .int) = true ∧ PyData.showableAll (ns.map .int) = true ∧ PyData.weightAll (ns.map .int) ≤ 201 * ns.length ∧ PyData.depthAll (ns.map .int) = 0
  | [], _ => ⟨rfl, rfl, Nat.zero_le _, rfl⟩
  | i :: ns, h => by
    obtain ⟨a, b, c, d⟩ := ints_leaves (ns := ns) fun j hj => h j (by simp [hj])
    obtain ⟨e1, e2, e3⟩ := int_shown (h i (by simp))
    refine ⟨?_, ?_, ?_, ?_⟩
    · simp only [List.map_cons, PyData.leavesShortAll, a, Bool.and_true, PyData.leavesShort, decide_eq_true_eq]
      exact e1
    · simp only [List.map_cons, PyData.showableAll, b, Bool.and_true, PyData.showable, decide_eq_true_eq]
      exact e2
    · simp only [List.map_cons, PyData.weightAll, List.length_cons]
      omega
    · simp only [List.map_cons, PyData.depthAll, d, PyData.depth]
      omega
/-- repr of a list of ints is served -/
theorem ints_shown {ns : List Int} (h : ∀ i ∈ ns, i.natAbs ≤ 10 ^ 40) (hl : ns.length ≤ 700) :
    (PyData.list (ns.map .int)).showable = true ∧ (PyData.list (ns.map .int)).shown.length ≤ sizeLine ∧ (PyData.list (ns.map .int)).depth ≤ 60 := by
  obtain ⟨a, b, c, d⟩ := ints_leaves h
  have hs := PyData.shown_le 100 (by decide) (.list (ns.map .int)) (by simpa only [PyData.leavesShort] using a)
  have hw : (PyData.list (ns.map .int)).weight ≤ 201 * ns.length + 1 := by
    simp only [PyData.weight]
    omega
  have z : sizeLine = 16777216 := rfl
  refine ⟨by simpa only [PyData.showable] using b, by omega, ?_⟩
  simp only [PyData.depth, d]
  omega
theorem one_shown {i : Int} (h : i.natAbs ≤ 10 ^ 40) : (PyData.int i).showable = true ∧ (PyData.int i).shown.length ≤ sizeLine ∧ (PyData.int i).depth ≤ 60 := by
  obtain ⟨e1, e2, e3⟩ := int_shown h
  have z : sizeLine = 16777216 := rfl
  refine ⟨by simpa [PyData.showable] using e2, by omega, by simp only [PyData.depth]; omega⟩
theorem ints_dp {K : PySem.W.Frag} {H : Hp} : ∀ ns : List Int, DpAll K H (ns.map V.int) (ns.map .int)
  | [] => .nil
  | i :: ns => .cons (.int i) (ints_dp ns)
theorem list_dp {K : PySem.W.Frag} {H : Hp} {a : Addr} {ns : List Int} (h : SqL K H a (ns.map V.int)) : Dp K H (.ref a) (.list (ns.map .int)) := .lst h (ints_dp ns)

/-! what stays -/
theorem new_same {H : Hp} {q : Addr} {o : HO} (n : H q = none) : Same H (upd H q o) := fun b u e => by
  rw [upd_ne (ne_of_none e n)]
  exact e
/-- a new object may change -/
theorem own_same {H H' : Hp} {q : Addr} {o : HO} (n : H q = none) (s : Same H H') : Same H (upd H' q o) := fun b u e => by
  rw [upd_ne (ne_of_none e n)]
  exact s b u e
theorem same_tup {K : PySem.W.Frag} {H H' : Hp} (s : Same H H') {a : Addr} {xs : List V} (h : SqT K H a xs) : SqT K H' a xs := by
  rcases h with (h | ⟨o, h⟩) | h
  · exact .inl (.inl (s _ _ h))
  · exact .inl (.inr ⟨o, s _ _ h⟩)
  · exact .inr h
/-- slabs at a: a list of pairs -/
def SlabsAt (K : PySem.W.Frag) (H : Hp) (a : Addr) (ss : List (Nat × Int)) : Prop :=
  ∃ bs : List Addr, SqL K H a (bs.map V.ref) ∧ bs.length = ss.length ∧ ∀ (i : Nat) (b : Addr) (s : Nat × Int), bs[i]? = some b → ss[i]? = some s → SqT K H b [.int (s.1 : Nat), .int s.2]
theorem SlabsAt.same {K : PySem.W.Frag} {H H' : Hp} {a : Addr} {ss : List (Nat × Int)} (h : SlabsAt K H a ss) (s : Same H H') : SlabsAt K H' a ss := by
  obtain ⟨bs, h1, h2, h3⟩ := h
  exact ⟨bs, s.seq h1, h2, fun i b t e1 e2 => same_tup s (h3 i b t e1 e2)⟩
theorem map_at {α : Type} {f : α → V} {xs : List α} {i : Nat} {v : V} (h : (xs.map f)[i]? = some v) : ∃ x, xs[i]? = some x ∧ v = f x := by
  rw [List.getElem?_map] at h
  cases e : xs[i]? with
  | none => rw [e] at h; cases h
  | some x => rw [e] at h; exact ⟨x, rfl, (Option.some.inj h).symm⟩
theorem at_of {α : Type} {xs : List α} {i n : Nat} (hl : xs.length = n) (h : i < n) : ∃ x, xs[i]? = some x := ⟨xs[i]'(by omega), List.getElem?_eq_getElem (by omega)⟩
theorem at_lt {α : Type} {xs : List α} {i : Nat} {x : α} (h : xs[i]? = some x) : i < xs.length := (List.getElem?_eq_some_iff.mp h).1
theorem getD_at {l : List Int} {i : Nat} (h : i < l.length) : l[i]? = some (l.getD i 0) := by
  rw [List.getD_eq_getElem?_getD, List.getElem?_eq_getElem h] <;> rfl
theorem ints_at {l : List Int} {i : Nat} (h : i < l.length) : (l.map V.int)[i]? = some (.int (l.getD i 0)) := by
  rw [List.getElem?_map, getD_at h] <;> rfl
theorem ints_atI {l : List Int} {i : Nat} (h : i < l.length) : atI (l.map V.int) ((i : Nat) : Int) = some (.int (l.getD i 0)) := atI_nat (ints_at h)
theorem take_at {α : Type} {xs : List α} {i : Nat} {x : α} (h : xs[i]? = some x) : xs.take (i + 1) = xs.take i ++ [x] := by
  rw [List.take_add_one, h] <;> rfl
theorem map_set {l : List Int} {i : Nat} {v : Int} : (l.map V.int).set i (.int v) = (l.set i v).map V.int := by
  rw [List.map_set]
section
variable {X : Cx}
/-- l[j], j from nought on, in l[j] op= x -/
def rGetL (K : PySem.W.Frag) : V → V → Hp → VK → Prop := fun o i H Q => ∃ (p : Addr) (xs : List V) (j : Nat) (v : V), o = .ref p ∧ i = .int (j : Nat) ∧ SqL K H p xs ∧ xs[j]? = some v ∧ Q v H
theorem get_list : PGet X (rGetL X.K) := by
  intro pins s σ H o i ov iv Q I r1 r2 h
  obtain ⟨p, xs, j, v, rfl, rfl, hq, he, q⟩ := h
  cases r1
  obtain ⟨t, rfl⟩ := r2
  obtain ⟨its, r, pl, hz⟩ := I.list hq
  obtain ⟨u, eu, ru⟩ := r.get he
  have hl := r.length
  have lt := at_lt he
  have zz : sizeLine = 16777216 := rfl
  have hi := at_lt eu
  refine wpAny_getItem_list pl.isList (by omega) (by omega) ?_ ⟨v, H, I, ru, q⟩
  simpa using eu
end
theorem ixN_nat {n j : Nat} (h : j < n) : ixN n (j : Int) = some j := by
  unfold ixN
  rw [if_pos (by omega), if_pos (by omega)] <;> simp
end Gd
end

section
set_option Elab.async false
set_option linter.all false
set_option maxRecDepth 100000
set_option maxHeartbeats 4000000
namespace Gd
open PySem PySem.Spec PyProof.Rows L2
section
variable {X : Cx}
/-- a list beside [] -/
def rL0 (K : PySem.W.Frag) (neg : Bool) : R2 := fun x y H Q => ∃ a b xs, x = .ref a ∧ y = .ref b ∧ SqL K H a xs ∧ SqL K H b [] ∧ Q (.bl (if neg then !xs.isEmpty else xs.isEmpty)) H
theorem op_eqL0 (hu : X.A.units < cLine) : OpR X (compareOp .Eq) (rL0 X.K false) := by
  intro pins s σ H x y v u Q I rx ry h
  obtain ⟨a, b, xs, rfl, rfl, ha, hb, q⟩ := h
  cases rx
  cases ry
  obtain ⟨its, r, pl, _⟩ := I.list ha
  obtain ⟨its2, r2, pl2, _⟩ := I.list hb
  cases r2
  cases r with
  | nil => exact SeqAt.RcAt.lists (e := fun _ => true) pl.isList pl2.isList rfl hu (fun j h1 _ => absurd h1 (by simp)) _ _ _ _ ⟨.bl _, H, I, rfl, q⟩
  | cons _ _ => exact SeqAt.RcAt.lists_lengths pl.isList pl2.isList (by simp) hu _ _ _ _ ⟨.bl _, H, I, rfl, q⟩
theorem op_neL0 (hu : X.A.units < cLine) : OpR X (compareOp .NotEq) (rL0 X.K true) := by
  intro pins s σ H x y v u Q I rx ry h
  obtain ⟨a, b, xs, rfl, rfl, ha, hb, q⟩ := h
  cases rx
  cases ry
  obtain ⟨its, r, pl, _⟩ := I.list ha
  obtain ⟨its2, r2, pl2, _⟩ := I.list hb
  cases r2
  cases r with
  | nil => exact SeqAt.RcNeAt.lists (e := fun _ => true) pl.isList pl2.isList rfl hu (fun j h1 _ => absurd h1 (by simp)) _ _ _ _ ⟨.bl _, H, I, rfl, q⟩
  | cons _ _ => exact SeqAt.RcNeAt.lists_lengths pl.isList pl2.isList (by simp) hu _ _ _ _ ⟨.bl _, H, I, rfl, q⟩
end
/-! what stays through draws -/
theorem ex1_of_same {p : Addr} {H H' : Hp} (s : Same H H') : Ex1 p H H' := fun b u _ e => s b u e
theorem ex1_own {p q : Addr} {H H' : Hp} {o : HO} (n : H q = none) (x : Ex1 p H H') : Ex1 p H (upd H' q o) := fun b u nb e => by
  rw [upd_ne (ne_of_none e n)]
  exact x b u nb e
theorem Feed.off {H : Hp} {p q : Addr} {S : Int} {o : HO} (F : Feed H p S) (n : q ≠ p) : Feed (upd H q o) p S := by
  obtain ⟨g, x, s, e, a, b⟩ := F
  exact ⟨g, x, s, by rw [upd_ne n.symm]; exact e, a, b⟩
theorem Feed.kept {H H' : Hp} {p : Addr} {S : Int} (F : Feed H p S) (s : Same H H') : Feed H' p S := by
  obtain ⟨g, x, z, ep, a, b⟩ := F
  exact ⟨g, x, z, s _ _ ep, a, b⟩
theorem Feed.not {H : Hp} {p q : Addr} {S : Int} (F : Feed H p S) (n : H q = none) : q ≠ p := F.ne n
theorem ex1_tup {K : PySem.W.Frag} {H H' : Hp} {p a : Addr} {S : Int} {xs : List V} (F : Feed H p S) (x : Ex1 p H H') (h : SqT K H a xs) : SqT K H' a xs := by
  obtain ⟨ys, ep⟩ := F.lst
  rcases h with (h | ⟨o, h⟩) | h
  · exact .inl (.inl (x _ _ (fun z => by rw [z, ep] at h; cases h) h))
  · exact .inl (.inr ⟨o, x _ _ (fun z => by rw [z, ep] at h; cases h) h⟩)
  · exact .inr h
theorem ex1_seq {K : PySem.W.Frag} {H H' : Hp} {p a : Addr} {xs : List V} (n : a ≠ p) (x : Ex1 p H H') (h : SqL K H a xs) : SqL K H' a xs := by
  rcases h with (h | ⟨o, h⟩) | h
  · exact .inl (.inl (x _ _ n h))
  · exact .inl (.inr ⟨o, x _ _ n h⟩)
  · exact .inr h
theorem SlabsAt.drawn {K : PySem.W.Frag} {H H' : Hp} {p a : Addr} {S : Int} {ss : List (Nat × Int)} (h : SlabsAt K H a ss) (F : Feed H p S) (n : a ≠ p) (x : Ex1 p H H') : SlabsAt K H' a ss := by
  obtain ⟨bs, h1, h2, h3⟩ := h
  exact ⟨bs, ex1_seq n x h1, h2, fun i b t e1 e2 => ex1_tup F x (h3 i b t e1 e2)⟩
/-- a new object is not p, and was not there before the draws -/
theorem ex1_free {p q : Addr} {H H' : Hp} (x : Ex1 p H H') (n : q ≠ p) (h : H' q = none) : H q = none := by
  cases e : H q with
  | none => rfl
  | some o => rw [x q o n e] at h; cases h
theorem at_list {α : Type} {f : α → V} {xs : List α} {r : Int} (h0 : 0 ≤ r) (h1 : r < xs.length) : ∃ x, x ∈ xs ∧ atI (xs.map f) r = some (f x) := by
  have h2 : r.toNat < xs.length := by omega
  refine ⟨xs[r.toNat], List.getElem_mem h2, ?_⟩
  have e : ((r.toNat : Nat) : Int) = r := by omega
  have z : atI (xs.map f) ((r.toNat : Nat) : Int) = some (f xs[r.toNat]) := atI_nat (by rw [List.getElem?_map, List.getElem?_eq_getElem h2] <;> rfl)
  rw [e] at z
  exact z
end Gd
end

section
set_option Elab.async false
set_option linter.all false
set_option maxRecDepth 100000
set_option maxHeartbeats 4000000
/-! A pen: a list of the cells' list at c, the place of the next one, what is left of a great one. -/
namespace Gd
open PySem PySem.Spec PyProof.Rows L2
def Pen (H : Hp) (l c : Addr) (S : Int) : Prop := ∃ (ns : List Int) (t ov : Int), H l = some (.lst [.ref c, .int t, .int ov]) ∧ H c = some (.lst (ns.map V.int)) ∧ ns.length ≤ 63 ∧ 0 ≤ t ∧ t ≤ S
section
variable {H H' : Hp} {l c q : Addr} {S T : Int} {o : HO}
theorem Pen.le (h : Pen H l c S) (le : S ≤ T) : Pen H l c T := by
  obtain ⟨ns, t, ov, a, b, d, e, f⟩ := h
  exact ⟨ns, t, ov, a, b, d, e, by omega⟩
theorem Pen.apart (h : Pen H l c S) : l ≠ c := by
  obtain ⟨ns, t, ov, a, b, _⟩ := h
  intro e
  rw [e, b] at a
  cases ns with
  | nil => cases a
  | cons x r => cases a
theorem Pen.not (h : Pen H l c S) (n : H q = none) : q ≠ l ∧ q ≠ c := by
  obtain ⟨ns, t, ov, a, b, _⟩ := h
  exact ⟨fun e => (by rw [e, a] at n; cases n), fun e => (by rw [e, b] at n; cases n)⟩
theorem Pen.same (h : Pen H l c S) (s : Same H H') : Pen H' l c S := by
  obtain ⟨ns, t, ov, a, b, d, e, f⟩ := h
  exact ⟨ns, t, ov, s _ _ a, s _ _ b, d, e, f⟩
theorem Pen.off (h : Pen H l c S) (n1 : q ≠ l) (n2 : q ≠ c) : Pen (upd H q o) l c S := by
  obtain ⟨ns, t, ov, a, b, d, e, f⟩ := h
  exact ⟨ns, t, ov, by rw [upd_ne n1.symm]; exact a, by rw [upd_ne n2.symm]; exact b, d, e, f⟩
end
theorem sq_le {t B : Int} (h0 : 0 ≤ t) (h : t ≤ B) : 0 ≤ t * t ∧ t * t ≤ B * B := ⟨Int.mul_nonneg h0 h0, Int.mul_le_mul h h h0 (by omega)⟩
theorem mul_le {x t A B : Int} (hx : 0 ≤ x) (hA : x ≤ A) (h0 : 0 ≤ t) (h : t ≤ B) : 0 ≤ x * t ∧ x * t ≤ A * B := ⟨Int.mul_nonneg hx h0, Int.mul_le_mul hA h h0 (by omega)⟩
def spDraw : Sp := fun vs H Q _ => ∃ (l c : Addr) (m S : Int), vs = [.ref l, .int m] ∧ Pen H l c S ∧ 0 < m ∧ m < 1073741824 ∧ S ≤ 100000 ∧
  ∀ (r : Int) (H' : Hp), 0 ≤ r → r < m → Pen H' l c (S + 1) → Ex1 l H H' → Q (.int r) H'
end Gd
end

section
set_option Elab.async false
set_option linter.all false
set_option maxRecDepth 100000
set_option maxHeartbeats 4000000
/-! o.m(k=e, ..): a method of an own object, its arguments by their names alone. -/
namespace Gd
open PySem PySem.Spec PyProof.Rows L2
section
variable {X : Cx} {cx : CXT} {n : Nat} {C f : Addr} {fd : FuncData} {ps ks : List Str} {sp : Sp} {E : XK} {m : Str} {o : Expr} {apos pos : Pos} {kws : List Keyword} {ta : TE} {tk : TA}
  {g : List Value → List Value → List Value} {gV : List V → List V → List V}
def tMethKw (C : Addr) (m : Str) (sp : Sp) (gV : List V → List V → List V) (E : XK) (ta : TE) (tk : TA) : TE := fun σ H Q => ta σ H fun x H1 => ∃ a dx fs, x = .ref a ∧ H1 a = some (.ins C dx fs) ∧ fs.lookup m = none ∧
  tk σ H1 fun zs H2 => sp (gV [x] zs) H2 Q E
theorem pe_methKw {pl : Sem Bool} (he : PE X o ta) (c : Cls X.K C) (hm : Meth X.K C m f) (F : FnOk X.prog X.w X.K X.mg X.base cx n f fd ps sp) (hr : Room n X.A) (hb : KBinds X.K fd ps ks g gV) (hx : Passes cx X E) (hkw : PK X kws tk)
    (hall : (backToKw pos (keywordEach kws X.env)).all (·.1.isSome) = true := by rfl) (hks : (backToKw pos (keywordEach kws X.env)).filterMap (·.1) = ks := by rfl)
    (hpl : ((backTo pos (starEach [] X.env)).any (·.1) || (backToKw pos (keywordEach kws X.env)).any (·.1.isNone)) = false := by rfl)
    (ht : eval (.Call (.Attribute o m apos) [] kws pos) X.env = (do
      let it ← eval o X.env
      standAt apos.atName
      let (q, ahead) ← holding [it] (getMethod it m pl)
      callWith pos q ahead (backTo pos (starEach [] X.env)) (backToKw pos (keywordEach kws X.env))) := by rfl) :
    PE X (.Call (.Attribute o m apos) [] kws pos) (tMethKw C m sp gV E ta tk) := by
  constructor
  intro pins s σ H Q I h
  refine PySem.W.methodCall_KW (pl := pl) (thn (he.run pins s σ H _ I h) ?_) ht
  rintro u s1 ⟨x, H1, J, rx, a, dx, fs, rfl, ea, l, q⟩
  obtain rfl : u = Value.ref a := rx
  refine getmeth_ok J ea c hm l ?_
  refine PySem.W.callWith_KW0 (first := [.ref a]) (h₀ := X.base) J.ok.mod.kin hm.kp hall (thn (hkw.run pos pins s1 σ H1 _ J q) ?_) hpl
  rintro ws s2 ⟨zs, H2, J2, rz, q2⟩
  refine ⟨J2.kIn, ?_⟩
  rw [hks]
  exact run_fnk (us := [.ref a]) (vs := [.ref a]) F hr hb hx J2 (.cons rfl .nil) rz q2
end
/-- self, and four by their names, told in the other order -/
def back4 {α : Type} : List α → List α → List α
  | [u], [a, b, c, d] => [u, d, c, b, a]
  | _, _ => []
theorem back4_rel {vs : List V} {us : List Value} {zs : List V} {ws : List Value} (a : Vals vs us) (b : Vals zs ws) : Vals (back4 vs zs) (back4 us ws) := by
  cases a with
  | nil => exact .nil
  | cons a1 a2 =>
    cases a2 with
    | cons _ _ => exact .nil
    | nil =>
      cases b with
      | nil => exact .nil
      | cons b1 b => cases b with
        | nil => exact .nil
        | cons b2 b => cases b with
          | nil => exact .nil
          | cons b3 b => cases b with
            | nil => exact .nil
            | cons b4 b => cases b with
              | nil => exact .cons a1 (.cons b4 (.cons b3 (.cons b2 (.cons b1 .nil))))
              | cons _ _ => exact .nil
theorem back4_of {K : PySem.W.Frag} {x qual p0 p1 p2 p3 p4 : Str} {st : Stmt} {f : Addr} {fd : FuncData} (F : Fun K x qual st f fd)
    (h : ∀ (kV doc pm : Value) (an : Option Addr) (cdv ct u a b c d : Value), bindArgs (PySem.W.fnOf x qual (defArgs st) (defBody st) (defScope st) .none kV doc pm an cdv ct) ⟨[u], [(p4, a), (p3, b), (p2, c), (p1, d)]⟩ = pure [(p0, u), (p1, d), (p2, c), (p3, b), (p4, a)]) :
    KBinds K fd [p0, p1, p2, p3, p4] [p4, p3, p2, p1] back4 back4 := by
  obtain ⟨oc, od, kV, doc, pm, an, cdv, ct, osl, rfl, lk, hcd⟩ := F.ex
  refine ⟨fun s us ws _ hl => ?_, fun a b => back4_rel a b⟩
  match us, ws, hl with
  | [u], [a, b, c, d], _ => exact .of_eq (h kV doc pm an cdv ct u a b c d)
end Gd
end

section
set_option Elab.async false
set_option linter.all false
set_option maxRecDepth 100000
set_option maxHeartbeats 4000000
/-! A def whose code object is known: for defs that hold lambdas. -/
namespace Gd
open PySem PySem.Spec PyProof.Rows L2 LamX
structure FunC (K : PySem.W.Frag) (x qual : Str) (st : Stmt) (f : Addr) (fd : FuncData) (c : Addr) : Prop where
  ex : ∃ (oc : Value) (od : Option Addr) (kV doc pm : Value) (an : Option Addr) (ct : Value) (osl : Array (Option Value)),
    fd = PySem.W.fnOf x qual (defArgs st) (defBody st) (defScope st) .none kV doc pm an (.ref c) ct ∧ K.lookup f = some ⟨oc, od, .func fd, osl⟩ ∧ PySem.W.codeIn K (.ref c) qual = true
  kp : PySem.W.keepIn K (.ref f) = true
theorem FunC.fn {K : PySem.W.Frag} {x qual : Str} {st : Stmt} {f : Addr} {fd : FuncData} {c : Addr} (F : FunC K x qual st f fd c) : Fun K x qual st f fd := by
  obtain ⟨oc, od, kV, doc, pm, an, ct, osl, h⟩ := F.ex
  exact ⟨⟨oc, od, kV, doc, pm, an, .ref c, ct, osl, h⟩, F.kp⟩
section
variable {P : Program} {w : World} {K : PySem.W.Frag} {mg : Str → Option Value} {base : Heap}
theorem okC {x ql : Str} {st : Stmt} {f c : Addr} {fd : FuncData} {N ps : List Str} {n : Nat} {sp : Sp}
    (F : FunC K x ql st f fd c) (S : FnScope N ps (defScope st)) (len : ∀ vs H Q E, sp vs H Q E → vs.length = ps.length)
    (hb : ∀ (A : Around) (out : List Env) (s : Shared) (H : Hp) (vs : List V) (Q : VK) (E : XK),
      Room n (A.deeper (envOfC ql (defScope st) s.heap.objs.size f (.ref c))) → sp vs H Q E →
      ∃ t, PSs (cxOf CX0 P w K mg base N ql (defScope st) f (.ref c) A out s H E).nox (defBody st) t ∧
        t { nx := fun _ H' => Q .non H', rt := Q } (start N vs) H) :
    FnOk P w K mg base CX0 (n + 1) f fd ps sp := by
  obtain ⟨oc, od, kV, dc, pm, an, ct, sl, rfl, lk, hc⟩ := F.ex
  refine fn_of lk hc S len fun A outer s H vs Q E hr hsp => ?_
  obtain ⟨t, h, q⟩ := hb A outer s H vs Q E hr hsp
  exact ⟨t, h.nox, q⟩
theorem okCG {x ql : Str} {st : Stmt} {f c : Addr} {fd : FuncData} {N ps : List Str} {n : Nat} {sp : Sp}
    (F : FunC K x ql st f fd c) (S : FnScope N ps (defScope st)) (len : ∀ vs H Q E, sp vs H Q E → vs.length = ps.length)
    (hb : ∀ (A : Around) (out : List Env) (s : Shared) (H : Hp) (vs : List V) (Q : VK) (E : XK),
      Free (A.deeper (envOfC ql (defScope st) s.heap.objs.size f (.ref c))) →
      Room n (A.deeper (envOfC ql (defScope st) s.heap.objs.size f (.ref c))) → sp vs H Q E →
      ∃ t, PSs (cxOf CX0 P w K mg base N ql (defScope st) f (.ref c) A out s H E).nox (defBody st) t ∧
        t { nx := fun _ H' => Q .non H', rt := Q } (start N vs) H) :
    FnG P w K mg base CX0 (n + 1) f fd ps sp := by
  obtain ⟨oc, od, kV, dc, pm, an, ct, sl, rfl, lk, hc⟩ := F.ex
  refine FnG.body lk hc S len ?_
  intro A out s H vs Q E g hr hsp
  obtain ⟨t, h, q⟩ := hb A out s H vs Q E g hr hsp
  exact ⟨t, h.nox, q⟩
end
/-- in a lambda's body a call lets out what the lambda may -/
theorem passLam {X : Cx} {A : Around} {outer : List Env} {s : Shared} {H : Hp} {E : XK} {scope : Scope} {f c' : Addr} : Passes (L2.CX X.prog X.w) (lamCx X A outer s H E scope f c') E :=
  passes_call (takes_of rfl rfl rfl rfl) (fun _ _ _ _ h => h)
end Gd
end

section
set_option Elab.async false
set_option linter.all false
set_option maxRecDepth 100000
set_option maxHeartbeats 4000000
/-! sorted(xs) of data of one form: tuples of texts, numbers, within tuples. -/
namespace Gd
open PySem PySem.Spec PyProof.Rows L2 PySem.W
def RD (K : PySem.W.Frag) (H : Hp) (u : Value) (d : PyData) : Prop := ∃ x, RelV x u ∧ Dp K H x d
section
variable {K : PySem.W.Frag} {H : Hp}
theorem each_of : ∀ {xs : List V} {us : List Value} {ds : List PyData}, Vals xs us → DpAll K H xs ds → EachIs (RD K H) us ds
  | _, _, _, .nil, h => by
    cases h
    exact .nil
  | _, _, _, .cons r rs, h => by
    cases h with
    | cons a b => exact .cons ⟨_, r, a⟩ (each_of rs b)
theorem of_each : ∀ {us : List Value} {ds : List PyData}, EachIs (RD K H) us ds → ∃ xs, Vals xs us ∧ DpAll K H xs ds
  | _, _, .nil => ⟨[], .nil, .nil⟩
  | _, _, .cons ⟨x, r, a⟩ h => by
    obtain ⟨xs, rs, b⟩ := of_each h
    exact ⟨x :: xs, .cons r rs, .cons a b⟩
end
/-- the order in which sorted tells -/
def told (ds : List PyData) : List PyData := ds.mergeSort (dataLe false id)
def rSortD (K : PySem.W.Frag) : List V → Hp → VK → Prop := fun xs H Q => ∃ (a : Addr) (vs : List V) (ds : List PyData), xs = [.ref a] ∧ SqL K H a vs ∧ DpAll K H vs ds ∧ AllAlike ds ∧ Sortable ds ∧ ds.length ≤ 1000 ∧ (∀ d ∈ ds, d.depth ≤ 50) ∧
  ∀ (us : List V) (p : Addr), H p = none → DpAll K H us (told ds) → Q (.ref p) (upd H p (.lst us))
theorem call_sortedD {X : Cx} (hu : X.A.units + 64 < cLine) : CallR X (.builtin "sorted") (rSortD X.K) := by
  intro pins s σ H xs us Q I r h
  obtain ⟨a, vs, ds, rfl, hs, hA, al, so, hz, hd, q⟩ := h
  obtain ⟨u, rfl, ru⟩ := r.one
  cases ru
  obtain ⟨its, rv, hl, _⟩ := I.list hs
  have e := each_of rv hA
  have er : EachIs (fun v b => ∃ as, Reads s.heap v (id b) as) its ds := e.mono fun v d ⟨x, r1, r2⟩ => Dp.reads I d x v r2 r1
  have zl : sizeLine = 16777216 := rfl
  refine sorted_data (enc := id) hl.isList e er (by rw [List.map_id]; exact al) (by rw [List.map_id]; exact so) (by omega) (fun b hb => ?_) fun out hlen eo => ?_
  · have := hd b hb
    show X.A.units + 2 + b.depth < cLine
    omega
  · obtain ⟨ws, r2, A2⟩ := of_each eo
    obtain ⟨ep, he⟩ := sortedAll_at s.heap its (List.toArray out)
    have hw : ws.length ≤ sizeLine := by
      have := r2.length
      omega
    exact ⟨.ref _, upd H (s.heap.objs.size + 1) (.lst ws), I.laid (t' := s.toks) (fun _ _ => sortedAll_old) (Nat.le_succ _) ⟨hw, out, ep, r2, he⟩, rfl, q ws _ (I.hok.fresh (Nat.le_succ _)) A2⟩
end Gd
end

section
set_option Elab.async false
set_option linter.all false
set_option maxRecDepth 100000
set_option maxHeartbeats 4000000
/-! Sorted lists of the same things are the same. -/
namespace Gd
open PySem PySem.Spec PyProof.Rows L2 PySem.W
theorem perm_sorted {α : Type} {r : α → α → Prop} : ∀ {l u : List α}, l.Perm u → l.Pairwise r → u.Pairwise r → (∀ a ∈ l, ∀ b ∈ l, r a b → r b a → a = b) → l = u
  | [], u, p, _, _, _ => (List.nil_perm.mp p).symm
  | a :: l, [], p, _, _, _ => absurd p.length_eq (by simp)
  | a :: l, b :: u, p, h1, h2, an => by
    have ha : a ∈ b :: u := p.subset (by simp)
    have hb : b ∈ a :: l := p.symm.subset (by simp)
    rw [List.pairwise_cons] at h1 h2
    have e : a = b := by
      rcases List.mem_cons.mp ha with e | ha
      · exact e
      · rcases List.mem_cons.mp hb with e | hb'
        · exact e.symm
        · exact an a (by simp) b hb (h1.1 b hb') (h2.1 a ha)
    subst e
    rw [perm_sorted (List.Perm.cons_inv p) h1.2 h2.2 fun x hx y hy => an x (by simp [hx]) y (by simp [hy])]
theorem le_trans (a b c : PyData) (h1 : dataLe false id a b = true) (h2 : dataLe false id b c = true) : dataLe false id a c = true := by
  have g : ∀ x y : PyData, dataLe false id x y = !dataLt y x := fun _ _ => rfl
  rw [g] at h1 h2 ⊢
  cases h : dataLt c a with
  | false => rfl
  | true =>
    rcases lex_negTrans (O := itemOrd) (keyToks c) (keyToks b) (keyToks a) h with q | q
    · have : dataLt c b = true := q
      rw [this] at h2
      cases h2
    · have : dataLt b a = true := q
      rw [this] at h1
      cases h1
theorem le_total (a b : PyData) : (dataLe false id a b || dataLe false id b a) = true := by
  have g : ∀ x y : PyData, dataLe false id x y = !dataLt y x := fun _ _ => rfl
  rw [g, g]
  cases h : dataLt b a with
  | false => rfl
  | true =>
    cases h2 : dataLt a b with
    | false => rfl
    | true =>
      have := lex_trans (O := itemOrd) (keyToks a) (keyToks b) (keyToks a) h2 h
      rw [lex_irrefl] at this
      cases this
theorem told_sorted (ds : List PyData) : (told ds).Pairwise fun a b => dataLe false id a b = true := List.pairwise_mergeSort le_trans le_total ds
theorem told_perm (ds : List PyData) : (told ds).Perm ds := List.mergeSort_perm ds _
/-- sorted of the same things in another order -/
theorem told_same {ds es : List PyData} (p : ds.Perm es) (an : ∀ a ∈ ds, ∀ b ∈ ds, dataLe false id a b = true → dataLe false id b a = true → a = b) : told ds = told es := by
  refine perm_sorted ((told_perm ds).trans (p.trans (told_perm es).symm)) (told_sorted ds) (told_sorted es) fun a ha b hb => ?_
  exact an a ((told_perm ds).mem_iff.mp ha) b ((told_perm ds).mem_iff.mp hb)
end Gd
end

section
set_option Elab.async false
set_option linter.all false
set_option maxRecDepth 100000
set_option maxHeartbeats 4000000
/-! Data of one form are told apart by their order. -/
namespace Gd
open PySem PySem.Spec PySem.W PyProof.Rows
mutual
theorem toks_inj : ∀ (x y : PyData), alike x y = true → ∀ l m : List (Int ⊕ List Nat), keyToks x ++ l = keyToks y ++ m → x = y ∧ l = m
  | .none, y, h, l, m, e => by
    cases y with
    | none => exact ⟨rfl, by simpa [keyToks] using e⟩
    | _ => exact absurd h (by simp [alike])
  | .bool b, y, h, l, m, e => by
    cases y with
    | bool c =>
      simp only [keyToks, List.cons_append, List.nil_append, List.cons.injEq, Sum.inl.injEq] at e
      refine ⟨?_, e.2⟩
      cases b <;> cases c <;> first | rfl | exact absurd e.1 (by decide)
    | _ => exact absurd h (by simp [alike])
  | .int b, y, h, l, m, e => by
    cases y with
    | int c =>
      simp only [keyToks, List.cons_append, List.nil_append, List.cons.injEq, Sum.inl.injEq] at e
      exact ⟨by rw [e.1], e.2⟩
    | _ => exact absurd h (by simp [alike])
  | .str b, y, h, l, m, e => by
    cases y with
    | str c =>
      simp only [keyToks, List.cons_append, List.nil_append, List.cons.injEq, Sum.inr.injEq] at e
      exact ⟨by rw [str_of_cps e.1], e.2⟩
    | _ => exact absurd h (by simp [alike])
  | .list xs, y, h, l, m, e => by
    cases y with
    | list ys =>
      simp only [keyToks] at e
      obtain ⟨a, b⟩ := toksAll_inj xs ys (by simpa [alike] using h) l m e
      exact ⟨by rw [a], b⟩
    | _ => exact absurd h (by simp [alike])
  | .tuple xs, y, h, l, m, e => by
    cases y with
    | tuple ys =>
      simp only [keyToks] at e
      obtain ⟨a, b⟩ := toksAll_inj xs ys (by simpa [alike] using h) l m e
      exact ⟨by rw [a], b⟩
    | _ => exact absurd h (by simp [alike])
  | .dict _, y, h, _, _, _ => absurd h (by cases y <;> simp [alike])
theorem toksAll_inj : ∀ (xs ys : List PyData), alikeAll xs ys = true → ∀ l m : List (Int ⊕ List Nat), keyToksAll xs ++ l = keyToksAll ys ++ m → xs = ys ∧ l = m
  | [], [], _, l, m, e => ⟨rfl, by simpa [keyToksAll] using e⟩
  | [], y :: ys, _, l, m, e => by
    simp only [keyToksAll, List.cons_append, List.nil_append, List.cons.injEq, Sum.inl.injEq] at e
    exact absurd e.1 (by decide)
  | x :: xs, [], _, l, m, e => by
    simp only [keyToksAll, List.cons_append, List.nil_append, List.cons.injEq, Sum.inl.injEq] at e
    exact absurd e.1 (by decide)
  | x :: xs, y :: ys, h, l, m, e => by
    obtain ⟨h1, h2⟩ := alike_all_cons h
    simp only [keyToksAll, List.cons_append, List.append_assoc, List.cons.injEq, true_and] at e
    obtain ⟨a, b⟩ := toks_inj x y h1 _ _ e
    obtain ⟨c, d⟩ := toksAll_inj xs ys h2 l m b
    exact ⟨by rw [a, c], d⟩
end
theorem alike_anti {a b : PyData} (h : alike a b = true) (h1 : dataLe false id a b = true) (h2 : dataLe false id b a = true) : a = b := by
  have g : ∀ x y : PyData, dataLe false id x y = !dataLt y x := fun _ _ => rfl
  rw [g] at h1 h2
  have e1 : dataLt b a = false := by simpa using h1
  have e2 : dataLt a b = false := by simpa using h2
  have := lex_total (O := itemOrd) (keyToks a) (keyToks b) e2 e1
  exact (toks_inj a b h [] [] (by rw [this])).1
/-- sorted of the same things, all alike, in another order -/
theorem told_alike {ds es : List PyData} (p : ds.Perm es) (al : AllAlike ds) : told ds = told es :=
  told_same p fun a ha b hb => alike_anti (al a ha b hb)
end Gd
end

section
set_option Elab.async false
set_option linter.all false
set_option maxRecDepth 100000
set_option maxHeartbeats 4000000
namespace Szg
open PySem PySem.Spec PyProof.Rows L2 Gd
/-! sizes of data -/
structure Sm (w n : Nat) (d : PyData) : Prop where
  lf : d.leavesShort 100 = true
  sh : d.showable = true
  wt : d.weight ≤ w
  dp : d.depth ≤ n
structure Sms (w n : Nat) (ds : List PyData) : Prop where
  lf : PyData.leavesShortAll 100 ds = true
  sh : PyData.showableAll ds = true
  wt : PyData.weightAll ds ≤ w
  dp : PyData.depthAll ds ≤ n
theorem Sm.mono {w n w' n' : Nat} {d : PyData} (h : Sm w n d) (a : w ≤ w') (b : n ≤ n') : Sm w' n' d := ⟨h.lf, h.sh, Nat.le_trans h.wt a, Nat.le_trans h.dp b⟩
theorem Sms.mono {w n w' n' : Nat} {ds : List PyData} (h : Sms w n ds) (a : w ≤ w') (b : n ≤ n') : Sms w' n' ds := ⟨h.lf, h.sh, Nat.le_trans h.wt a, Nat.le_trans h.dp b⟩
theorem Sms.nil {n : Nat} : Sms 0 n [] := ⟨rfl, rfl, Nat.le_refl _, Nat.zero_le _⟩
theorem Sms.cons {w v n : Nat} {d : PyData} {ds : List PyData} (h : Sm w n d) (g : Sms v n ds) : Sms (w + 1 + v) n (d :: ds) := by
  refine ⟨?_, ?_, ?_, ?_⟩
  · simp only [PyData.leavesShortAll, h.lf, g.lf, Bool.and_self]
  · simp only [PyData.showableAll, h.sh, g.sh, Bool.and_self]
  · have := h.wt
    have := g.wt
    simp only [PyData.weightAll]
    omega
  · have := h.dp
    have := g.dp
    simp only [PyData.depthAll]
    omega
theorem Sms.tup {w n : Nat} {ds : List PyData} (g : Sms w n ds) : Sm (w + 1) (n + 1) (.tuple ds) := by
  refine ⟨by simp only [PyData.leavesShort, g.lf], by simp only [PyData.showable, g.sh], ?_, ?_⟩
  · have := g.wt
    simp only [PyData.weight]
    omega
  · have := g.dp
    simp only [PyData.depth]
    omega
theorem Sms.lst {w n : Nat} {ds : List PyData} (g : Sms w n ds) : Sm (w + 1) (n + 1) (.list ds) := by
  refine ⟨by simp only [PyData.leavesShort, g.lf], by simp only [PyData.showable, g.sh], ?_, ?_⟩
  · have := g.wt
    simp only [PyData.weight]
    omega
  · have := g.dp
    simp only [PyData.depth]
    omega
theorem Sm.shown {w n : Nat} {d : PyData} (h : Sm w n d) (a : w ≤ 160000) (b : n ≤ 60) : d.showable = true ∧ d.shown.length ≤ sizeLine ∧ d.depth ≤ 60 := by
  have x := PyData.shown_le 100 (by decide) d h.lf
  have y := h.wt
  have z : sizeLine = 16777216 := rfl
  exact ⟨h.sh, by omega, Nat.le_trans h.dp b⟩
theorem sm_none : Sm 5 0 .none := ⟨rfl, rfl, by decide, by decide⟩
theorem sm_bool (b : Bool) : Sm 5 0 (.bool b) := by cases b <;> exact ⟨rfl, rfl, by decide, by decide⟩
theorem int_log {i : Int} (h : i.natAbs ≤ 10 ^ 62) : i.natAbs.log2 < 207 := by
  by_cases z : i.natAbs = 0
  · rw [z]; decide
  · exact (Nat.log2_lt z).mpr (Nat.lt_of_le_of_lt h (by decide +kernel))
theorem sm_int {i : Int} (h : i.natAbs ≤ 10 ^ 62) : Sm 212 0 (.int i) := by
  have h1 : i.natAbs < 10 ^ 63 := Nat.lt_of_le_of_lt h (by decide)
  have hl := int_log h
  refine ⟨?_, ?_, ?_, Nat.le_refl _⟩
  · have e := int_text_length_le10 (k := 63) (by decide) h1
    have e2 : (PyData.int i).shown.length = (toString i).length := by
      show (Str.ofString (toString i)).length = _
      rw [PySem.ofString_length]
    simp only [PyData.leavesShort, decide_eq_true_eq]
    omega
  · have : i.natAbs.log2 < 1920 := by omega
    simpa [PyData.showable] using this
  · simp only [PyData.weight]
    split <;> omega
/-- a plain text: codes under 128, no longer than 30 -/
def Pl (s : Str) : Prop := (∀ c ∈ s.cps.toList, c < 128) ∧ s.length ≤ 30
theorem sm_str {s : Str} (h : Pl s) : Sm 30 0 (.str s) := by
  refine ⟨?_, ?_, ?_, Nat.le_refl _⟩
  · simp only [PyData.leavesShort, List.all_eq_true, decide_eq_true_eq]
    intro c hc
    exact Nat.lt_of_lt_of_le (h.1 c hc) (by decide)
  · simp [PyData.showable]
  · have w : (PyData.str s).weight = s.length := by simp only [PyData.weight]; rfl
    have := h.2
    omega
theorem Sms.all {w n : Nat} {ds : List PyData} (h : ∀ d ∈ ds, Sm w n d) : Sms ((w + 1) * ds.length) n ds := by
  induction ds with
  | nil => exact Sms.nil
  | cons d ds ih =>
    refine (Sms.cons (h d (by simp)) (ih fun e m => h e (by simp [m]))).mono ?_ (Nat.le_refl _)
    rw [List.length_cons, Nat.mul_add]
    omega
end Szg
end

section
set_option Elab.async false
set_option linter.all false
set_option maxRecDepth 100000
set_option maxHeartbeats 4000000
/-! sorted(xs) of data of one form; what holds of each and its data stays so -/
namespace Gd
open PySem PySem.Spec PyProof.Rows L2 PySem.W
def RDZ (K : PySem.W.Frag) (H : Hp) (G : V → PyData → Prop) (u : Value) (d : PyData) : Prop := ∃ x, RelV x u ∧ Dp K H x d ∧ G x d
section
variable {K : PySem.W.Frag} {H : Hp} {G : V → PyData → Prop}
theorem each_ofZ : ∀ {xs : List V} {us : List Value} {ds : List PyData}, Vals xs us → DpAll K H xs ds → EachIs G xs ds → EachIs (RDZ K H G) us ds
  | _, _, _, .nil, h, _ => by
    cases h
    exact .nil
  | _, _, _, .cons r rs, h, g => by
    cases h with
    | cons a b =>
      cases g with
      | cons g1 g2 => exact .cons ⟨_, r, a, g1⟩ (each_ofZ rs b g2)
theorem of_eachZ : ∀ {us : List Value} {ds : List PyData}, EachIs (RDZ K H G) us ds → ∃ xs, Vals xs us ∧ DpAll K H xs ds ∧ EachIs G xs ds
  | _, _, .nil => ⟨[], .nil, .nil, .nil⟩
  | _, _, .cons ⟨x, r, a, g⟩ h => by
    obtain ⟨xs, rs, b, c⟩ := of_eachZ h
    exact ⟨x :: xs, .cons r rs, .cons a b, .cons g c⟩
theorem each_snoc {α β : Type} {R : α → β → Prop} {a : α} {b : β} : ∀ {as : List α} {bs : List β}, EachIs R as bs → R a b → EachIs R (as ++ [a]) (bs ++ [b])
  | _, _, .nil, h => .cons h .nil
  | _, _, .cons x r, h => .cons x (each_snoc r h)
theorem each_at {α β : Type} {R : α → β → Prop} : ∀ {as : List α} {bs : List β} {i : Nat} {a : α}, EachIs R as bs → as[i]? = some a → ∃ b, bs[i]? = some b ∧ R a b
  | _, _, _, _, .nil, e => by simp at e
  | _, _, 0, _, .cons x _, e => by
    cases Option.some.inj e
    exact ⟨_, rfl, x⟩
  | _, _, i + 1, _, .cons _ r, e => each_at (i := i) r e
end
def rSortZ (K : PySem.W.Frag) : List V → Hp → VK → Prop := fun xs H Q => ∃ (a : Addr) (vs : List V) (ds : List PyData) (G : V → PyData → Prop), xs = [.ref a] ∧ SqL K H a vs ∧ DpAll K H vs ds ∧ EachIs G vs ds ∧ AllAlike ds ∧ Sortable ds ∧ ds.length ≤ 1000 ∧ (∀ d ∈ ds, d.depth ≤ 50) ∧
  ∀ (us : List V) (p : Addr), H p = none → DpAll K H us (told ds) → EachIs G us (told ds) → Q (.ref p) (upd H p (.lst us))
theorem call_sortedZ {X : Cx} (hu : X.A.units + 64 < cLine) : CallR X (.builtin "sorted") (rSortZ X.K) := by
  intro pins s σ H xs us Q I r h
  obtain ⟨a, vs, ds, G, rfl, hs, hA, g, al, so, hz, hd, q⟩ := h
  obtain ⟨u, rfl, ru⟩ := r.one
  cases ru
  obtain ⟨its, rv, hl, _⟩ := I.list hs
  have e := each_ofZ rv hA g
  have er : EachIs (fun v b => ∃ as, Reads s.heap v (id b) as) its ds := e.mono fun v d ⟨x, r1, r2, _⟩ => Dp.reads I d x v r2 r1
  have zl : sizeLine = 16777216 := rfl
  refine sorted_data (enc := id) hl.isList e er (by rw [List.map_id]; exact al) (by rw [List.map_id]; exact so) (by omega) (fun b hb => ?_) fun out hlen eo => ?_
  · have := hd b hb
    show X.A.units + 2 + b.depth < cLine
    omega
  · obtain ⟨ws, r2, A2, g2⟩ := of_eachZ eo
    obtain ⟨ep, he⟩ := sortedAll_at s.heap its (List.toArray out)
    have hw : ws.length ≤ sizeLine := by
      have := r2.length
      omega
    exact ⟨.ref _, upd H (s.heap.objs.size + 1) (.lst ws), I.laid (t' := s.toks) (fun _ _ => sortedAll_old) (Nat.le_succ _) ⟨hw, out, ep, r2, he⟩, rfl, q ws _ (I.hok.fresh (Nat.le_succ _)) A2 g2⟩
end Gd
end

section
set_option Elab.async false
set_option linter.all false
set_option maxRecDepth 100000
set_option maxHeartbeats 4000000
/-! sorted(xs) of tuples, some of which may be empty. -/
namespace Gd
open PySem PySem.Spec PySem.W PySem.Calls PyProof.Rows PySem.SeqAt
section
variable {prog : Program} {w : World} {A : Around} {E : Value → Shared → Prop} {s : Shared}
theorem call_tup_lt {Q : Value → Shared → Prop} {l b : Addr} {items items2 : Array Value} {e r : Nat → Bool} (hl : s.heap.IsTuple l items) (hb : s.heap.IsTuple b items2)
    (he : ∀ j (h1 : j < items.size) (h2 : j < items2.size), EqAt A.in1 s items[j] items2[j] (e j)) (hr : ∀ j (h1 : j < items.size) (h2 : j < items2.size), e j = false → RcLt A.in1 s items[j] items2[j] (r j))
    (h : Q (.bool (firstLt e r (decide (items.size < items2.size)) (List.range (min items.size items2.size)))) s) : wpAny (model prog w) A (call (.builtin "tuple.__lt__") [.ref l, .ref b]) Q E s := by
  obtain ⟨⟨cls, dd, data, sl⟩, ho, hc, n, hd⟩ := id hl
  obtain ⟨⟨cls2, dd2, data2, sl2⟩, ho2, hc2, n2, hd2⟩ := id hb
  simp only at hc hd hc2 hd2
  subst hc hd hc2 hd2
  exact call_meets F.slot_tuple_lt ⟨_, ho, rfl⟩ F.entry_tuple_lt (F.args_tuple_lt_2 _ _) (tuple_ltAt l b items items2 n n2 dd dd2 sl sl2 e r)
    ⟨ho, ho2, he, hr, h⟩
/-- two keys of which both are tuples -/
theorem oneLt_tup {xs ys : List PyData} {a b : Value} {as bs : List Addr} {Q : Bool → Shared → Prop} (ra : Reads s.heap a (.tuple xs) as) (rb : Reads s.heap b (.tuple ys) bs) (h : alike (.tuple xs) (.tuple ys) = true)
    (hu : A.units + min (PyData.tuple xs).depth (PyData.tuple ys).depth < cLine) (hq : Q (dataLt (.tuple xs) (.tuple ys)) s) : wpAny (model prog w) A (oneLt' true a b) Q E s := by
  have hal : alikeAll xs ys = true := by simpa [alike] using h
  cases ra with
  | @tuple l o vs n _ as₁ h1 h2 h3 h4 =>
    cases rb with
    | @tuple l' o' vs' n' _ bs₁ k1 k2 k3 k4 =>
      have n1 : vs.size = xs.length := by simpa using SeqAt.ReadsAll.length _ _ _ h4
      have n2 : vs'.size = ys.length := by simpa using SeqAt.ReadsAll.length _ _ _ k4
      rw [dataLt_tuple, ← firstLt_toks xs ys hal, ← n1, ← n2] at hq
      rw [oneLt'_eq]
      simp only [if_true]
      refine wpAny_bind (wpAny_cRoomFor (SeqAt.room_here hu) ?_)
      refine wpAny_bind (wpAny_callSpecialIfBound?_slot (T := "tuple") ⟨_, h1, h2⟩ F.slot_tuple_lt (call_tup_lt (e := pairEq xs ys) (r := fun j => dataLt (xs.getD j .none) (ys.getD j .none)) ⟨_, h1, h2, _, h3⟩ ⟨_, k1, k2, _, k3⟩ (fun j j1 j2 => ?_) (fun j j1 j2 hj => ?_) ?_))
      · have := eqAt_alikeAll xs ys A.in1 s vs.toList vs'.toList _ _ h4 k4 hal (SeqAt.room_in hu) j (by simpa using j1) (by simpa using j2)
        simpa using this
      · have := rcLt_alikeAll xs ys A.in1 s vs.toList vs'.toList _ _ h4 k4 hal (SeqAt.room_in hu) j (by simpa using j1) (by simpa using j2) hj
        simpa using this
      · exact wpAny_truthy_bool hq
def nonE : PyData → Bool
  | .tuple (_ :: _) => true
  | _ => false
theorem tup_firsts {M : Model} : ∀ (vs : List Value) (ds : List PyData) {Q : List (Option Value) → Shared → Prop}, EachIs (fun v d => (∃ as, Reads s.heap v d as) ∧ ∃ xs, d = .tuple xs) vs ds →
    (∀ fs : List (Option Value), fs.map (·.isSome) = ds.map nonE → Q fs s) → wpAny M A (vs.mapM firstOfTuple') Q E s
  | _, _, Q, .nil, h => by
    rw [List.mapM_nil]
    exact wpAny_pure (h [] rfl)
  | v :: vs, d :: ds, Q, .cons ⟨⟨as, r⟩, xs, ed⟩ t, h => by
    subst ed
    cases r with
    | @tuple a o ys n _ _ ho hc hd hr =>
      rw [List.mapM_cons]
      refine wpAny_bind ?_
      rw [kas_first_eq]
      refine wpAny_bind (Looks.here (show Looks M s.heap (typeOf (.ref a)) o.cls from (Looks.ld ho).andThen .now) ?_)
      rw [hc, if_neg (by first | decide | simp)]
      refine wpAny_bind (listItems_at ho hd (wpAny_pure ?_))
      refine wpAny_bind (tup_firsts vs ds (Q := fun bs s' => wpAny M A (pure (ys[0]? :: bs)) Q E s') t fun fs hf => wpAny_pure (h _ ?_))
      rw [List.map_cons, List.map_cons, hf]
      refine congrArg (· :: _) ?_
      have n1 : ys.size = xs.length := by simpa using SeqAt.ReadsAll.length _ _ _ hr
      cases xs with
      | nil =>
        have : ys[0]? = none := Array.getElem?_eq_none (by rw [n1]; exact Nat.le_refl _)
        rw [this]
        rfl
      | cons x xr =>
        have : 0 < ys.size := by rw [n1]; exact Nat.succ_pos _
        rw [Array.getElem?_eq_getElem this]
        rfl
/-- tuples can be sorted, empty ones among them -/
theorem SortsAt.tups {vs : List Value} {ds : List PyData} (e : EachIs (fun v d => ∃ as, Reads s.heap v d as) vs ds) (hal : AllAlike ds) (ht : ∀ d ∈ ds, ∃ xs, d = .tuple xs) (hu : ∀ d, d ∈ ds → A.units + d.depth < cLine) : SortsAt prog w A s (dataKind s.heap ds) vs := by
  by_cases all : ∀ d, d ∈ ds → ∃ x r, d = .tuple (x :: r)
  · exact SortsAt.data e hal (.inl all) hu
  have room : ∀ {d d' : PyData}, d ∈ ds → A.units + min d.depth d'.depth < cLine := fun {d d'} hd => Nat.lt_of_le_of_lt (Nat.add_le_add_left (Nat.min_le_left _ _) _) (hu d hd)
  have et : EachIs (fun v d => (∃ as, Reads s.heap v d as) ∧ ∃ xs, d = .tuple xs) vs ds := (each_mem e).mono fun v d ⟨r, m⟩ => ⟨r, ht d m⟩
  have some_no : ds.all nonE = false := by
    cases h : ds.all nonE with
    | false => rfl
    | true =>
      refine absurd (fun d hd => ?_) all
      have := List.all_eq_true.mp h d hd
      obtain ⟨xs, rfl⟩ := ht d hd
      cases xs with
      | nil => cases this
      | cons x r => exact ⟨x, r, rfl⟩
  refine ⟨fun v hv => ?_, ?_⟩
  · obtain ⟨d, hd, as, r⟩ := e.left v hv
    exact ⟨_, dataKind_some hal hd r⟩
  have first : ∀ (fs : List (Option Value)), fs.map (·.isSome) = ds.map nonE → (fs.toArray.all fun x => x.isSome) = false := fun fs hf => by
    have : fs.all (fun x => x.isSome) = false := by
      have e1 : fs.all (fun x => x.isSome) = (fs.map (·.isSome)).all id := by rw [List.all_map]; rfl
      have e2 : ds.all nonE = (ds.map nonE).all id := by rw [List.all_map]; rfl
      rw [e1, hf, ← e2]
      exact some_no
    simpa using this
  by_cases g : (ds.head?.map nonE) = some true
  · refine ⟨general', ?_, fun h2 E Q hq => ?_⟩
    · intro E x y a b Q ha hb hq
      obtain ⟨d, as, hd, ra, rfl⟩ := dataKind_inv ha
      obtain ⟨d', as', hd', rb, rfl⟩ := dataKind_inv hb
      show wpAny _ _ (oneLt' false x y) _ _ _
      refine oneLt_alike (fun z => nomatch z) ra rb (hal d hd d' hd') ?_ (room hd) hq
      obtain ⟨xs, rfl⟩ := ht d hd
      exact fun z => nomatch z
    · rw [keyKind'_eq, List.mapM_toArray, map_eq_pure_bind]
      refine wpAny_bind (wpAny_bind (tup_firsts vs ds et fun fs hf => wpAny_pure ?_))
      rw [if_neg (by rw [first fs hf]; exact Bool.false_ne_true)]
      have h0 : ((fs.toArray)[0]?.bind id).isSome = true := by
        cases fs with
        | nil =>
          cases ds with
          | nil => cases g
          | cons d r => cases hf
        | cons f fr =>
          cases ds with
          | nil => cases hf
          | cons d r =>
            have e1 : f.isSome = nonE d := (List.cons.inj hf).1
            have e2 : nonE d = true := Option.some.inj g
            rw [e2] at e1
            cases f with
            | none => cases e1
            | some v => rfl
      rw [if_pos h0]
      exact wpAny_pure hq
  · refine ⟨oneType', ?_, fun h2 E Q hq => ?_⟩
    · intro E x y a b Q ha hb hq
      obtain ⟨d, as, hd, ra, rfl⟩ := dataKind_inv ha
      obtain ⟨d', as', hd', rb, rfl⟩ := dataKind_inv hb
      rw [keyLt'_oneType]
      have hl := hal d hd d' hd'
      have hr := room (d' := d') hd
      obtain ⟨xs, rfl⟩ := ht d hd
      obtain ⟨ys, rfl⟩ := ht d' hd'
      exact oneLt_tup ra rb hl hr hq
    · obtain ⟨v₁, rest, rfl⟩ : ∃ v₁ rest, vs = v₁ :: rest := by
        cases vs with
        | nil => simp at h2
        | cons v r => exact ⟨v, r, rfl⟩
      rw [keyKind'_eq, List.mapM_toArray, map_eq_pure_bind]
      refine wpAny_bind (wpAny_bind (tup_firsts _ ds et fun fs hf => wpAny_pure ?_))
      rw [if_neg (by rw [first fs hf]; exact Bool.false_ne_true)]
      have h0 : ¬ ((fs.toArray)[0]?.bind id).isSome = true := by
        cases fs with
        | nil => exact fun z => by cases z
        | cons f fr =>
          cases ds with
          | nil => cases hf
          | cons d r =>
            have e1 : f.isSome = nonE d := (List.cons.inj hf).1
            have e2 : nonE d = false := by
              cases hn : nonE d with
              | false => rfl
              | true => exact absurd (congrArg some hn) g
            rw [e2] at e1
            cases f with
            | none => exact fun z => by cases z
            | some v => cases e1
      rw [if_neg h0]
      rw [oneTypeOnly'_eq, List.mapM_toArray, map_eq_pure_bind]
      refine wpAny_bind (wpAny_bind (wpAny_bind (kas_mapM (r := Value.type "tuple") _ (fun v hv Q' hq => ?_) (wpAny_pure ?_))))
      · obtain ⟨d, hd, as, r⟩ := e.left v hv
        obtain ⟨xs, rfl⟩ := ht d hd
        exact (looks_reads r).here hq
      · have hall : ((List.map (fun _ => Value.type "tuple") (v₁ :: rest)).toArray.all fun x => x == Value.type "tuple") = true := by
          simp only [List.all_toArray, List.all_map, List.all_eq_true]
          intro _ _
          rfl
        have h0 : (List.map (fun _ => Value.type "tuple") (v₁ :: rest)).toArray[0]? = some (Value.type "tuple") := by simp
        rw [h0]
        simp only [hall, if_true]
        exact wpAny_pure (wpAny_pure hq)
end
section
open L2
def rSortW (K : PySem.W.Frag) : List V → Hp → VK → Prop := fun xs H Q => ∃ (a : Addr) (vs : List V) (ds : List PyData) (G : V → PyData → Prop), xs = [.ref a] ∧ SqL K H a vs ∧ DpAll K H vs ds ∧ EachIs G vs ds ∧ AllAlike ds ∧ (∀ d ∈ ds, ∃ xs, d = .tuple xs) ∧ ds.length ≤ 1000 ∧ (∀ d ∈ ds, d.depth ≤ 50) ∧
  ∀ (us : List V) (p : Addr), H p = none → DpAll K H us (told ds) → EachIs G us (told ds) → Q (.ref p) (upd H p (.lst us))
theorem call_sortedW {X : Cx} (hu : X.A.units + 64 < cLine) : CallR X (.builtin "sorted") (rSortW X.K) := by
  intro pins s σ H xs us Q I r h
  obtain ⟨a, vs, ds, G, rfl, hs, hA, g, al, ht, hz, hd, q⟩ := h
  obtain ⟨u, rfl, ru⟩ := r.one
  cases ru
  obtain ⟨its, rv, hl, _⟩ := I.list hs
  have e := each_ofZ rv hA g
  have er : EachIs (fun v b => ∃ as, Reads s.heap v (id b) as) its ds := e.mono fun v d ⟨x, r1, r2, _⟩ => Dp.reads I d x v r2 r1
  have zl : sizeLine = 16777216 := rfl
  have er' : EachIs (fun v b => ∃ as, Reads (sortingHeap (copyHeap s.heap its) (s.heap.objs.size + 1) its) v (id b) as) its ds := er.mono fun _ _ ⟨as, r⟩ => ⟨as, PyProof.Rows.Reads.keeps (fun _ _ => sorting_copy_old) r⟩
  have er2 : EachIs (fun v b => ∃ as, Reads (sortingHeap (copyHeap s.heap its) (s.heap.objs.size + 1) its) v b as) its ds := er'
  have hU : ∀ d, d ∈ ds → X.A.in1.in1.units + d.depth < cLine := fun d m => by
    have := hd d m
    show X.A.units + 2 + d.depth < cLine
    omega
  refine sorted_vals hl.isList (SortsAt.tups (s := { s with heap := sortingHeap (copyHeap s.heap its) (s.heap.objs.size + 1) its }) er2 al ht hU) (by rw [e.length]; omega) ?_
  have eo := sortVals_data (enc := id) false e er' (by rw [List.map_id]; exact al)
  rw [List.map_id] at eo
  have hlen : (sortVals (dataKind (sortingHeap (copyHeap s.heap its) (s.heap.objs.size + 1) its) ds) false its its).length = ds.length := by
    rw [sortVals_length false rfl]
    exact e.length
  generalize sortVals (dataKind (sortingHeap (copyHeap s.heap its) (s.heap.objs.size + 1) its) ds) false its its = out at eo hlen ⊢
  obtain ⟨ws, r2, A2, g2⟩ := of_eachZ eo
  obtain ⟨ep, he⟩ := sortedAll_at s.heap its (List.toArray out)
  have hw : ws.length ≤ sizeLine := by
    have := r2.length
    omega
  exact ⟨.ref _, upd H (s.heap.objs.size + 1) (.lst ws), I.laid (t' := s.toks) (fun _ _ => sortedAll_old) (Nat.le_succ _) ⟨hw, out, ep, r2, he⟩, rfl, q ws _ (I.hok.fresh (Nat.le_succ _)) A2 g2⟩
end
end Gd
end

section
set_option Elab.async false
set_option linter.all false
set_option maxRecDepth 100000
set_option maxHeartbeats 4000000
/-! sorted(xs) of tuples, of more of them. -/
namespace Gd
open PySem PySem.Spec PySem.W PySem.Calls PyProof.Rows PySem.SeqAt
section
open L2
def rSortV (K : PySem.W.Frag) : List V → Hp → VK → Prop := fun xs H Q => ∃ (a : Addr) (vs : List V) (ds : List PyData) (G : V → PyData → Prop), xs = [.ref a] ∧ SqL K H a vs ∧ DpAll K H vs ds ∧ EachIs G vs ds ∧ AllAlike ds ∧ (∀ d ∈ ds, ∃ xs, d = .tuple xs) ∧ ds.length ≤ 4000 ∧ (∀ d ∈ ds, d.depth ≤ 50) ∧
  ∀ (us : List V) (p : Addr), H p = none → DpAll K H us (told ds) → EachIs G us (told ds) → Q (.ref p) (upd H p (.lst us))
theorem call_sortedV {X : Cx} (hu : X.A.units + 64 < cLine) : CallR X (.builtin "sorted") (rSortV X.K) := by
  intro pins s σ H xs us Q I r h
  obtain ⟨a, vs, ds, G, rfl, hs, hA, g, al, ht, hz, hd, q⟩ := h
  obtain ⟨u, rfl, ru⟩ := r.one
  cases ru
  obtain ⟨its, rv, hl, _⟩ := I.list hs
  have e := each_ofZ rv hA g
  have er : EachIs (fun v b => ∃ as, Reads s.heap v (id b) as) its ds := e.mono fun v d ⟨x, r1, r2, _⟩ => Dp.reads I d x v r2 r1
  have zl : sizeLine = 16777216 := rfl
  have er' : EachIs (fun v b => ∃ as, Reads (sortingHeap (copyHeap s.heap its) (s.heap.objs.size + 1) its) v (id b) as) its ds := er.mono fun _ _ ⟨as, r⟩ => ⟨as, PyProof.Rows.Reads.keeps (fun _ _ => sorting_copy_old) r⟩
  have er2 : EachIs (fun v b => ∃ as, Reads (sortingHeap (copyHeap s.heap its) (s.heap.objs.size + 1) its) v b as) its ds := er'
  have hU : ∀ d, d ∈ ds → X.A.in1.in1.units + d.depth < cLine := fun d m => by
    have := hd d m
    show X.A.units + 2 + d.depth < cLine
    omega
  refine sorted_vals hl.isList (SortsAt.tups (s := { s with heap := sortingHeap (copyHeap s.heap its) (s.heap.objs.size + 1) its }) er2 al ht hU) (by rw [e.length]; omega) ?_
  have eo := sortVals_data (enc := id) false e er' (by rw [List.map_id]; exact al)
  rw [List.map_id] at eo
  have hlen : (sortVals (dataKind (sortingHeap (copyHeap s.heap its) (s.heap.objs.size + 1) its) ds) false its its).length = ds.length := by
    rw [sortVals_length false rfl]
    exact e.length
  generalize sortVals (dataKind (sortingHeap (copyHeap s.heap its) (s.heap.objs.size + 1) its) ds) false its its = out at eo hlen ⊢
  obtain ⟨ws, r2, A2, g2⟩ := of_eachZ eo
  obtain ⟨ep, he⟩ := sortedAll_at s.heap its (List.toArray out)
  have hw : ws.length ≤ sizeLine := by
    have := r2.length
    omega
  exact ⟨.ref _, upd H (s.heap.objs.size + 1) (.lst ws), I.laid (t' := s.toks) (fun _ _ => sortedAll_old) (Nat.le_succ _) ⟨hw, out, ep, r2, he⟩, rfl, q ws _ (I.hok.fresh (Nat.le_succ _)) A2 g2⟩
end
end Gd
end

section
set_option Elab.async false
set_option linter.all false
set_option maxRecDepth 100000
set_option maxHeartbeats 4000000
/-! [x for xs in xss for x in xs]: a list of lists, made one. -/
namespace Gd
open PySem PySem.Spec PyProof.Rows L2 PySem.W
theorem flat_take {α : Type} {xss : List (List α)} {i : Nat} {xs : List α} (h : xss[i]? = some xs) : (xss.take (i + 1)).flatten = (xss.take i).flatten ++ xs := by
  obtain ⟨hi, e⟩ := List.getElem?_eq_some_iff.mp h
  rw [List.take_succ_eq_append_getElem hi, List.flatten_append, e]
  simp
theorem each_get {α β : Type} {R : α → β → Prop} : ∀ {as : List α} {bs : List β} {i : Nat} {a : α}, EachIs R as bs → as[i]? = some a → ∃ b, bs[i]? = some b ∧ R a b
  | _, _, _, _, .nil, e => by simp at e
  | _, _, 0, _, .cons x _, e => by
    cases Option.some.inj e
    exact ⟨_, rfl, x⟩
  | _, _, i + 1, _, .cons _ r, e => each_get (i := i) r e
theorem flat_len {α : Type} {xss : List (List α)} {i : Nat} {xs : List α} (h : xss[i]? = some xs) : (xss.take i).flatten.length + xs.length ≤ xss.flatten.length := by
  have e : xss.flatten = (xss.take (i + 1)).flatten ++ (xss.drop (i + 1)).flatten := by rw [← List.flatten_append, List.take_append_drop]
  rw [e, flat_take h, List.length_append, List.length_append]
  omega
def LotVs (K : PySem.W.Frag) (H : Hp) : List V → List (List V) → Prop := EachIs fun v vs => ∃ b, v = .ref b ∧ SqL K H b vs
theorem lc2_flat {K : PySem.W.Frag} {a : Addr} {ls : List V} {xss : List (List V)} {li ri : Nat} {vs vs1 : List Nat} {σ : L2.St} {H1 : Hp} {D : Addr} {Qd : Hp → Prop}
    (hw : ∀ v, wipe ((wipe σ vs).set li (some v)) vs = wipe σ vs) (hl : ∀ v, ((wipe σ vs).set li (some v))[li]? = some (some v))
    (hw1 : ∀ v u, wipe ((wipe ((wipe σ vs).set li (some v)) vs1).set ri (some u)) vs1 = wipe ((wipe σ vs).set li (some v)) vs1)
    (hr : ∀ v u, ((wipe ((wipe σ vs).set li (some v)) vs1).set ri (some u))[ri]? = some (some u))
    (nD : H1 D = none) (ha : SqL K H1 a ls) (hL : LotVs K H1 ls xss) (hz : xss.flatten.length < sizeLine) (q : ∀ H', Same H1 H' → H' D = some (.lst xss.flatten) → Qd H') :
    ∃ W : Nat → Nat → Hp → Prop, (∃ m, W 0 m (upd H1 D (.lst []))) ∧ ∀ i m H, W i m H →
  ((Itl K a).stop i H ∧ Qd H) ∨ ((Itl K a).go i H ∧ ∃ Nx : Hp → Prop, (∀ H', Nx H' → ∃ m', m' < m ∧ W (i + 1) m' H') ∧ ∀ x H', (Itl K a).yld i H x H' → gName li x (wipe σ vs) H' fun σ2 H2 => wipe σ2 vs = wipe σ vs ∧ tYes σ2 H2 fun b H3 =>
    if b = true then iList K (tVar li) σ2 H3 fun J1 H4 => ∃ W1 : Nat → Nat → Hp → Prop, (∃ m, W1 0 m H4) ∧ ∀ j k H, W1 j k H →
      (J1.stop j H ∧ Nx H) ∨ (J1.go j H ∧ ∃ Nx1 : Hp → Prop, (∀ H', Nx1 H' → ∃ k', k' < k ∧ W1 (j + 1) k' H') ∧ ∀ x H', J1.yld j H x H' → gName ri x (wipe σ2 vs1) H' fun σ3 H5 => wipe σ3 vs1 = wipe σ2 vs1 ∧ tYes σ3 H5 fun b H6 =>
        if b = true then tVar ri σ3 H6 fun y H7 => ∃ acc, H7 D = some (.lst acc) ∧ acc.length < sizeLine ∧ Nx1 (upd H7 D (.lst (acc ++ [y]))) else Nx1 H6)
    else Nx H3) := by
  have len : ls.length = xss.length := hL.length
  have up : ∀ {H : Hp} {o : HO}, Same H1 H → Same H1 (upd H D o) := fun {H o} s b u e => by
    rw [upd_ne (ne_of_none e nD)]
    exact s _ _ e
  refine ⟨fun i m H => m = ls.length - i ∧ i ≤ ls.length ∧ Same H1 H ∧ H D = some (.lst (xss.take i).flatten), ⟨ls.length, rfl, Nat.zero_le _, up (Same.refl _), upd_same⟩, ?_⟩
  rintro i m H ⟨rfl, hi, s, eD⟩
  by_cases hlt : i < ls.length
  · obtain ⟨v, hv⟩ : ∃ v, ls[i]? = some v := ⟨ls[i], List.getElem?_eq_some_iff.mpr ⟨hlt, rfl⟩⟩
    obtain ⟨xs, hx, b, rfl, hb⟩ := each_get hL hv
    refine .inr ⟨⟨ls, _, s.seq ha, hv⟩, fun H' => Same H1 H' ∧ H' D = some (.lst (xss.take (i + 1)).flatten), fun H' ⟨s', e'⟩ => ⟨ls.length - (i + 1), by omega, rfl, hlt, s', e'⟩, fun x H' y => ?_⟩
    obtain ⟨e, y⟩ := y
    subst e
    have ex : ls[i]? = some x := y ls (s.seq ha)
    rw [hv] at ex
    cases ex
    refine ⟨hw _, ?_⟩
    simp only [tYes, if_true]
    refine ⟨_, hl _, b, rfl, ⟨xs, s.seq hb⟩, ?_⟩
    refine ⟨fun j k H => k = xs.length - j ∧ j ≤ xs.length ∧ Same H1 H ∧ H D = some (.lst ((xss.take i).flatten ++ xs.take j)), ⟨xs.length, rfl, Nat.zero_le _, s, by simpa using eD⟩, ?_⟩
    rintro j k H ⟨rfl, hj, s1, e1⟩
    by_cases hjl : j < xs.length
    · obtain ⟨w, hw0⟩ : ∃ w, xs[j]? = some w := ⟨xs[j], List.getElem?_eq_some_iff.mpr ⟨hjl, rfl⟩⟩
      refine .inr ⟨⟨xs, _, s1.seq hb, hw0⟩, fun H' => Same H1 H' ∧ H' D = some (.lst ((xss.take i).flatten ++ xs.take (j + 1))), fun H' ⟨s', e'⟩ => ⟨xs.length - (j + 1), by omega, rfl, hjl, s', e'⟩, fun x H' y => ?_⟩
      obtain ⟨e, y⟩ := y
      subst e
      have ex : xs[j]? = some x := y xs (s1.seq hb)
      rw [hw0] at ex
      cases ex
      refine ⟨hw1 _ _, ?_⟩
      refine ⟨_, hr _ _, _, e1, ?_, up s1, ?_⟩
      · have := flat_len hx
        rw [List.length_append, List.length_take]
        omega
      · rw [upd_same]
        obtain ⟨hj2, ew⟩ := List.getElem?_eq_some_iff.mp hw0
        rw [List.take_succ_eq_append_getElem hj2, ew, List.append_assoc]
    · have e : j = xs.length := by omega
      subst e
      refine .inl ⟨⟨xs, s1.seq hb, Nat.le_refl _⟩, s1, ?_⟩
      rw [e1, List.take_length, flat_take hx]
  · have e : i = ls.length := by omega
    subst e
    refine .inl ⟨⟨ls, s.seq ha, Nat.le_refl _⟩, q _ s ?_⟩
    rw [eD, len, List.take_length]
end Gd
end

section
set_option Elab.async false
set_option linter.all false
set_option maxRecDepth 100000
set_option maxHeartbeats 4000000
/-! Exceptions of own classes over ValueError, made as values. -/
namespace Gd
open PySem PySem.Spec PyProof.Rows L2

/-- C(..), C without an __init__ of its own -/
def tExB (C : Addr) (ta : TA) : TE := fun σ H Q => ta σ H fun vs H1 =>
  vs.length ≤ 1000 ∧ ∀ a, H1 a = none → Q (.ref a) (upd H1 a (exo a C none))
/-- C(..) with its own __init__, which keeps sp -/
def tExI (C : Addr) (sp : Sp) (ta : TA) : TE := fun σ H Q => ta σ H fun vs H1 =>
  vs.length ≤ 1000 ∧ ∀ a, H1 a = none →
    sp (.ref a :: vs) (upd H1 a (exo a C none)) (fun v H2 => v = .non ∧ Q (.ref a) H2) (fun _ _ _ => False)

section
variable {X : Cx} {pins : List (Addr × Obj)} {σ : L2.St} {H : Hp} {s : Shared} {C : Addr} {Q : VK}
theorem exB_run {us : List Value} {vs : List V} (T : OexC X.K C)
    (iB : PySem.W.findIn X.K (.ref C) "__init__" = some (some (.builtin "ValueError.__init__")))
    (I : Inv X pins σ H s) (r : Vals vs us) (hz : vs.length ≤ 1000)
    (q : ∀ a, H a = none → Q (.ref a) (upd H a (exo a C none))) :
    wpAny (model X.prog X.w) X.A (call (.ref C) us) (EP X pins σ Q) X.xe s := by
  obtain ⟨nm, qn, N, bs, bm, sn, sub, ab, col, dd, k0, k1, k2, k3, k5, hC, hbm⟩ := T.cls
  obtain ⟨hp, g, d, t, os⟩ := s
  have hu : us.length ≤ sizeLine := by
    rw [← Paired.length r, sizeLine_eq]
    omega
  have tails := fun Y : String => PySem.HandSPX.refsVE_contains Y bm hbm
  refine PySem.W.call_B F.excBase_ValueError tails (I.kIn _ _ hC) (PySem.W.looks_findIn I.kIn iB) hu ?_
  intro h' k e1 e2
  have up : hp.objs.size ≤ hp.objs.size + 1 := Nat.le_succ _
  have J := I.laid (t' := t) (a := hp.objs.size + 1) (o := exo (hp.objs.size + 1) C none) k up (exo_ok e1)
  exact ⟨.ref (hp.objs.size + 1), _, J, rfl, q _ (I.hok.fresh up)⟩
end

section
variable {X : Cx} {C : Addr} {x : Str} {p pos : Pos} {e : Expr} {es : List Expr} {ta : TA}
theorem pe_exB0 (T : OexC X.K C)
    (iB : PySem.W.findIn X.K (.ref C) "__init__" = some (some (.builtin "ValueError.__init__")))
    (hg : Gl X x) (hm : X.mg x = some (.ref C)) (hdb : (x == ("__debug__" : Str)) = false := by decide) :
    PE X (.Call (.Name x p) [] [] pos) (tExB C tNil) := by
  constructor
  intro pins s σ H Q I h
  refine wpAny_Call_Name_kw (ld_glob I hg hm ?_ hdb)
  exact PySem.W.callWith_K0 I.kIn T.kC (exB_run (us := []) T iB I .nil h.1 h.2)
theorem pe_exB (T : OexC X.K C)
    (iB : PySem.W.findIn X.K (.ref C) "__init__" = some (some (.builtin "ValueError.__init__")))
    (hg : Gl X x) (hm : X.mg x = some (.ref C)) (ha : PA X (e :: es) ta)
    (hdb : (x == ("__debug__" : Str)) = false := by decide)
    (he : starEach (e :: es) X.env = (false, eval e X.env) :: starEach es X.env := by rfl)
    (hpl : (backTo pos (starEach es X.env)).any (·.1) = false := by rfl) :
    PE X (.Call (.Name x p) (e :: es) [] pos) (tExB C ta) := by
  constructor
  intro pins s σ H Q I h
  refine wpAny_Call_Name_kw (ld_glob I hg hm ?_ hdb)
  refine PySem.W.callWith_K (h₀ := X.base) I.ok.mod.kin T.kC (thn (ha.run pos pins s σ H _ I h) ?_) he hpl
  rintro us s1 ⟨vs, H1, J, r, hz, q⟩
  exact ⟨J.kIn, exB_run T iB J r hz q⟩
end

section
variable {X : Cx} {pins : List (Addr × Obj)} {σ : L2.St} {H : Hp} {s : Shared} {C fI : Addr} {Q : VK}
  {cx : CXT} {n : Nat} {fd : FuncData} {ps : List Str} {sp : Sp}
/-- what is left where the object is laid and its __init__ is called -/
theorem exI_end {us : List Value} {vs : List V} {hp : Heap} {g : Array GenState} {d : Drawn} {t : Nat} {os : OsState} {A : Around}
    (F1 : FnOk X.prog X.w X.K X.mg X.base cx n fI fd ps sp) (hr : Room (n + 1) X.A)
    (eA : A = X.A.under (.builtin "type.__call__" ⟨.ref C :: us, []⟩))
    (hb : Binds X.K fd ps []) (hx : Passes cx X (fun _ _ _ => False)) (I : Inv X pins σ H ⟨hp, g, d, t, os⟩) (r : Vals vs us)
    (q : ∀ a, H a = none → sp (.ref a :: vs) (upd H a (exo a C none)) (fun v H2 => v = .non ∧ Q (.ref a) H2) (fun _ _ _ => False)) :
    codeAny (model X.prog X.w) A (.call (.ref fI) ⟨.ref (hp.objs.size + 1) :: us, []⟩)
      (PySem.W.InitBack (hp.objs.size + 1) fun o s' => match o with | .ok (.ret u) => EP X pins σ Q u s' | .ok _ => False | .error er => X.xe er s')
      ⟨(hp.push (PySem.W.kdv_tup us)).push (PySem.HandSPX.excO C hp.objs.size), g, d, t, os⟩ := by
  subst eA
  have up : hp.objs.size ≤ hp.objs.size + 1 := Nat.le_succ _
  have new := I.hok.fresh up
  have hq := q _ new
  have kk : ∀ b o, hp.get? b = some o →
      ((hp.push (PySem.W.kdv_tup us)).push (PySem.HandSPX.excO C hp.objs.size)).get? b = some o :=
    fun b o z => Heap.get?_push_of_some _ (Heap.get?_push_of_some _ z)
  have here : ((hp.push (PySem.W.kdv_tup us)).push (PySem.HandSPX.excO C hp.objs.size)).get? (hp.objs.size + 1)
      = some (PySem.HandSPX.excO C hp.objs.size) := by heap_get
  have J := I.laid (t' := t) (a := hp.objs.size + 1) (o := exo (hp.objs.size + 1) C none) kk up (exo_ok here)
  have r2 : Vals (V.ref (hp.objs.size + 1) :: vs) (Value.ref (hp.objs.size + 1) :: us) := .cons rfl r
  have hl : ((Value.ref (hp.objs.size + 1) :: us) ++ []).length = ps.length := by
    rw [List.append_nil, ← F1.len _ _ _ _ hq]
    exact (Paired.length r2).symm
  have bd := hb _ (Value.ref (hp.objs.size + 1) :: us) J.kIn hl
  rw [List.append_nil] at bd
  have all := F1.run _ X.stack _ _ ⟨Value.ref (hp.objs.size + 1) :: us, []⟩ _ _ _ _ (hr.make C us []) (J.env0.make C us []) bd r2 hq
  refine codeAny_mono all ?_
  intro o s' z
  cases o with
  | error er => exact hx pins σ _ _ er s' J z
  | ok fl =>
    cases fl with
    | ret u =>
      obtain ⟨v, H2, J2, rv, ev, q2⟩ := J.after z
      subst ev
      exact ⟨rv, .ref (hp.objs.size + 1), H2, J2, rfl, q2⟩
    | _ => exact False.elim z
/-- how the class at C is called, its __init__ being the def at fI -/
def Makes (P : Program) (w : World) (K : PySem.W.Frag) (C fI : Addr) : Prop :=
  ∀ (A : Around) (R : Result → Shared → Prop) (hp : Heap) (g : Array GenState) (d : Drawn) (t : Nat) (os : OsState) (us : List Value),
    K.In hp → us.length ≤ sizeLine →
    codeAny (model P w) (A.under (.builtin "type.__call__" ⟨.ref C :: us, []⟩)) (.call (.ref fI) ⟨.ref (hp.objs.size + 1) :: us, []⟩)
      (PySem.W.InitBack (hp.objs.size + 1) R) ⟨(hp.push (PySem.W.kdv_tup us)).push (PySem.HandSPX.excO C hp.objs.size), g, d, t, os⟩ →
    codeAny (model P w) A (.call (.ref C) ⟨us, []⟩) R ⟨hp, g, d, t, os⟩
theorem makesVE {P : Program} {w : World} {K : PySem.W.Frag} (T : OexC K C)
    (iC : PySem.W.findIn K (.ref C) "__init__" = some (some (.ref fI))) (tI : PySem.W.typeIn K (.ref fI) = some (.type "function")) :
    Makes P w K C fI := by
  obtain ⟨nm, qn, N, bs, bm, sn, sub, ab, col, dd, k0, k1, k2, k3, k5, hC, hbm⟩ := T.cls
  intro A R hp g d t os us X hu hq
  have tails := fun Y : String => PySem.HandSPX.refsVE_contains Y bm hbm
  have init := PySem.W.looks_findIn (M := model P w) X iC
  have bound := fun self => PySem.W.bind_fn (M := model P w) X self tI
  exact PySem.HandSPX.call_own F.excBase_ValueError tails (X _ _ hC) init bound hu hq
theorem exI_run {us : List Value} {vs : List V} (mk : Makes X.prog X.w X.K C fI)
    (F1 : FnOk X.prog X.w X.K X.mg X.base cx n fI fd ps sp) (hr : Room (n + 1) X.A)
    (hb : Binds X.K fd ps []) (hx : Passes cx X (fun _ _ _ => False)) (I : Inv X pins σ H s) (r : Vals vs us) (hz : vs.length ≤ 1000)
    (q : ∀ a, H a = none → sp (.ref a :: vs) (upd H a (exo a C none)) (fun v H2 => v = .non ∧ Q (.ref a) H2) (fun _ _ _ => False)) :
    wpAny (model X.prog X.w) X.A (call (.ref C) us) (EP X pins σ Q) X.xe s := by
  obtain ⟨hp, g, d, t, os⟩ := s
  have hu : us.length ≤ sizeLine := by
    rw [← Paired.length r, sizeLine_eq]
    omega
  have all := mk X.A _ hp g d t os us I.kIn hu
    (exI_end (A := X.A.under (.builtin "type.__call__" ⟨.ref C :: us, []⟩)) F1 hr rfl hb hx I r q)
  refine wpAny_call (codeAny_mono all ?_)
  intro o s' z
  exact z
end
section
variable {X : Cx} {C fI : Addr} {x : Str} {p pos : Pos} {e : Expr} {es : List Expr} {ta : TA}
  {cx : CXT} {n : Nat} {fd : FuncData} {ps : List Str} {sp : Sp}
theorem pe_exI (mk : Makes X.prog X.w X.K C fI) (kC : PySem.W.keepIn X.K (.ref C) = true)
    (F1 : FnOk X.prog X.w X.K X.mg X.base cx n fI fd ps sp) (hr : Room (n + 1) X.A)
    (hb : Binds X.K fd ps []) (hx : Passes cx X (fun _ _ _ => False))
    (hg : Gl X x) (hm : X.mg x = some (.ref C)) (ha : PA X (e :: es) ta)
    (hdb : (x == ("__debug__" : Str)) = false := by decide)
    (he : starEach (e :: es) X.env = (false, eval e X.env) :: starEach es X.env := by rfl)
    (hpl : (backTo pos (starEach es X.env)).any (·.1) = false := by rfl) :
    PE X (.Call (.Name x p) (e :: es) [] pos) (tExI C sp ta) := by
  constructor
  intro pins s σ H Q I h
  refine wpAny_Call_Name_kw (ld_glob I hg hm ?_ hdb)
  refine PySem.W.callWith_K (h₀ := X.base) I.ok.mod.kin kC (thn (ha.run pos pins s σ H _ I h) ?_) he hpl
  rintro us s1 ⟨vs, H1, J, r, hz, q⟩
  exact ⟨J.kIn, exI_run mk F1 hr hb hx J r hz q⟩
end
end Gd
end

section
set_option Elab.async false
set_option linter.all false
set_option maxRecDepth 100000
set_option maxHeartbeats 4000000
/-! raise C(): C of the program, over ValueError, made with nothing. -/
namespace Gd
open PySem PySem.Spec PyProof.Rows L2
section
variable {X : Cx} {C : Addr} {x : Str} {p pos : Pos}
theorem pmk_exB0 (T : OexC X.K C)
    (iB : PySem.W.findIn X.K (.ref C) "__init__" = some (some (.builtin "ValueError.__init__")))
    (hg : Gl X x) (hm : X.mg x = some (.ref C)) (rs : Raises X (.ref C)) (hdb : (x == ("__debug__" : Str)) = false := by decide) :
    PMk X (.Call (.Name x p) [] [] pos) (fun σ H Q => Q (.ref C) none H) := by
  intro pins s σ H Q I q
  refine wpAny_Call_Name_kw (ld_glob I hg hm ?_ hdb)
  refine PySem.W.callWith_K0 I.kIn T.kC ?_
  obtain ⟨nm, qn, N, bs, bm, sn, sub, ab, col, dd, k0, k1, k2, k3, k5, hC, hbm⟩ := T.cls
  obtain ⟨hp, g, d, t, os⟩ := s
  have tails := fun Y : String => PySem.HandSPX.refsVE_contains Y bm hbm
  refine PySem.W.call_B F.excBase_ValueError tails (I.kIn _ _ hC) (PySem.W.looks_findIn I.kIn iB) (Nat.zero_le _) ?_
  intro h' k e1 e2
  have up : hp.objs.size ≤ hp.objs.size + 1 := Nat.le_succ _
  have nn : hp.get? (hp.objs.size + 1) = none := by
    cases e : hp.get? (hp.objs.size + 1) with
    | none => rfl
    | some o => exact absurd (Heap.lt_size e) (Nat.not_lt.mpr up)
  exact ⟨_, _, _, ⟨hp, g, d, t, os⟩, H, .ref C, none, rfl, I, k, nn, e1, ⟨rfl, rfl⟩, rfl, rfl, I.hok.fresh up, rfl, I.bare, rs, q⟩
end
end Gd
end

section
set_option Elab.async false
set_option linter.all false
set_option maxRecDepth 100000
set_option maxHeartbeats 4000000
/-! Exceptions of the program's own classes as values: made, looked at, asked for their class. -/
namespace Gd
open PySem PySem.Spec PyProof.Rows L2

/-- what the written part must say of a class of exceptions so that its objects are looked at -/
structure EvC (K : PySem.W.Frag) (C : Addr) : Prop where
  ga : PySem.W.findIn K (.ref C) "__getattribute__" = some (some (.builtin "BaseException.__getattribute__"))
  gt : PySem.W.findIn K (.ref C) "__getattr__" = some none
  sub : PySem.W.subIn K (.ref C) (.type "BaseException") = some true
  hd : PySem.W.hasDictIn K C = true
  cl : PySem.W.findIn K (.ref C) "__class__" = some (some (.builtin "object.__class__"))
  mo : PySem.W.mroIn K C (.type "object") = some true
/-- of the built-in that tells an object's class -/
structure EvB (K : PySem.W.Frag) : Prop where
  gt : PySem.W.specialIn K (.builtin "object.__class__") "__get__" = some (some (.builtin "getset_descriptor.__get__"))
  tk : PySem.W.takesIn K (.builtin "object.__class__") = some true

section
variable {X : Cx} {pins : List (Addr × Obj)} {σ : L2.St} {H : Hp} {s : Shared} {a C dx : Addr} {fs : List (Str × V)}
/-- how such an object lies: without a dict, with one -/
theorem lies0 (I : Inv X pins σ H s) (e : H a = some (exo a C none)) : ∃ ox, PySem.W.InstAt s.heap a ox C none := by
  obtain ⟨t, g⟩ := exo_at I.hok e
  exact ⟨_, g, rfl, rfl, trivial⟩
theorem lies1 (I : Inv X pins σ H s) (e : H a = some (exo a C (some dx))) (ed : H dx = some (exd dx fs)) :
    ∃ ox od, PySem.W.InstAt s.heap a ox C (some od) ∧ ∀ f v, fs.lookup f = some v → ∃ u, RelV v u ∧ PySem.W.lookIn f od = some (some u) := by
  obtain ⟨t, g⟩ := exo_at I.hok e
  obtain ⟨m, n, r⟩ := exd_at I.hok ed
  obtain ⟨od, ho, hl⟩ := lookIn_ns n
  refine ⟨_, od, ⟨g, rfl, rfl, ho⟩, ?_⟩
  intro f v hv
  obtain ⟨u, hu, ru⟩ := RelO.some_of (v := v) (o := m f) (by rw [← hv]; exact r f)
  exact ⟨u, ru, by rw [hl, hu]⟩
end

/-- isinstance(e, c), e an exception of an own class -/
def rIsE (K : PySem.W.Frag) : List V → Hp → VK → Prop := fun xs H Q =>
  ∃ (a C : Addr) (c : V) (u : Value) (b : Bool), xs = [.ref a, c] ∧ ClsV c u ∧ EvC K C ∧ EvB K ∧
    (H a = some (exo a C none) ∨ ∃ dx fs, H a = some (exo a C (some dx)) ∧ H dx = some (exd dx fs)) ∧
    PySem.W.kitOne K (.ref C) u = some b ∧ Q (.bl b) H
theorem call_isE {X : Cx} : CallR X (.builtin "isinstance") (rIsE X.K) := by
  intro pins s σ H xs us Q I r h
  obtain ⟨a, C, c, u, b, rfl, k, T, B, at_, e, q⟩ := h
  obtain ⟨u1, u2, rfl, r1, r2⟩ := vals2 r
  cases k.eq r2
  obtain rfl : u1 = Value.ref a := r1
  have hcl := (PySem.W.any_some T.hd)
  have hcl' : (PySem.W.clsIn X.K C).isSome = true := by
    obtain ⟨cd, hc, _⟩ := hcl
    rw [hc]
    rfl
  have fin : ∀ tk, EP X pins σ Q (.bool b) { s with toks := tk } := fun tk => ⟨.bl b, H, I.tok tk, rfl, q⟩
  rcases at_ with ea | ⟨dx, fs, ea, ed⟩
  · obtain ⟨ox, J⟩ := lies0 I ea
    exact PySem.W.kia_one (PySem.W.kitx_exc hcl' T.ga T.gt T.sub T.cl B.gt B.tk T.mo) I.kIn J e (fun z => nomatch z) fin
  · obtain ⟨ox, od, J, _⟩ := lies1 I ea ed
    exact PySem.W.kia_one (PySem.W.kitx_exc hcl' T.ga T.gt T.sub T.cl B.gt B.tk T.mo) I.kIn J e (fun z => nomatch z) fin

/-- e.f, e an exception with a dict -/
def tEf (K : PySem.W.Frag) (f : Str) (te : TE) : TE := fun σ H Q => te σ H fun x H1 =>
  ∃ (a C dx : Addr) (fs : List (Str × V)) (v : V), x = .ref a ∧ H1 a = some (exo a C (some dx)) ∧ H1 dx = some (exd dx fs) ∧ EvC K C ∧
    PySem.W.findIn K (.ref C) f = some none ∧ fs.lookup f = some v ∧ Q v H1
theorem pe_ef {X : Cx} {e : Expr} {f : Str} {te : TE} {pos : Pos} (he : PE X e te)
    (hb : attributeBase e f X.env (eval e X.env) = eval e X.env := by rfl) : PE X (.Attribute e f pos) (tEf X.K f te) := by
  constructor
  intro pins s σ H Q I h
  refine attr_of hb (thn (he.run pins s σ H _ I h) ?_)
  rintro u s1 ⟨x, H1, J, rx, a, C, dx, fs, v, rfl, ea, ed, T, hno, l, q⟩
  obtain rfl : u = Value.ref a := rx
  obtain ⟨ox, od, at_, look⟩ := lies1 J ea ed
  obtain ⟨u, ru, hu⟩ := look f v l
  exact HandSPX.exc_get J.kIn at_ T.ga T.gt T.sub (PySem.W.findObj_own T.hd hno rfl hu) (handed_of ru) ⟨v, H1, J.tok _, ru, q⟩
end Gd
end

section
set_option Elab.async false
set_option linter.all false
set_option maxRecDepth 100000
set_option maxHeartbeats 4000000
/-! try: body / except x as n: suite, where the body raises on every way and the suite keeps the exception: what follows knows of the object (it is pinned there). -/
namespace Gd
open PySem PySem.Spec PyProof.Rows L2
section
variable {X : Cx} {pins : List (Addr × Obj)} {σ : L2.St} {H : Hp} {s : Shared}
/-- the suite is left, its exception stays pinned -/
theorem leftBy {a : Addr} {q : Addr × Obj} (I : Inv (X.suite a (q :: (X.pn ++ pins))) [] σ H s) (ok : X.Ok) : Inv X (q :: pins) σ H s :=
  ⟨ok, I.os, I.bare, I.base, I.loc, I.cell, I.free, I.freeC, fun p hp => I.pin p (by
    rcases List.mem_append.mp hp with h | h
    · exact List.mem_append_left _ (List.mem_cons_of_mem _ (List.mem_append_left _ h))
    · rcases List.mem_cons.mp h with h | h
      · rw [h]; exact List.mem_append_left _ List.mem_cons_self
      · exact List.mem_append_left _ (List.mem_cons_of_mem _ (List.mem_append_right _ h))), I.hok, I.len⟩
theorem pinIn {q : Addr × Obj} (I : Inv X (q :: pins) σ H s) : Inv (X.tr (q :: (X.pn ++ pins)) X.xe) [] σ H s :=
  ⟨I.ok.toTry _ _, I.os, I.bare, I.base, I.loc, I.cell, I.free, I.freeC, fun p hp => I.pin p (by
    have hp : p ∈ q :: (X.pn ++ pins) := by rw [List.append_nil] at hp; exact hp
    rcases List.mem_cons.mp hp with h | h
    · rw [h]; exact List.mem_append_right _ List.mem_cons_self
    · rcases List.mem_append.mp h with h | h
      · exact List.mem_append_left _ h
      · exact List.mem_append_right _ (List.mem_cons_of_mem _ h)), I.hok, I.len⟩
theorem pinOut {q : Addr × Obj} {xe : Value → Shared → Prop} (I : Inv (X.tr (q :: (X.pn ++ pins)) xe) [] σ H s) (ok : X.Ok) : Inv X pins σ H s :=
  ⟨ok, I.os, I.bare, I.base, I.loc, I.cell, I.free, I.freeC, fun p hp => I.pin p (List.mem_append_left _ (List.mem_cons_of_mem _ hp)), I.hok, I.len⟩
end
/-- what is wished of the body's exception -/
def wKeep (K : PySem.W.Frag) (c : Value) (l i : Nat) (ts tr : Addr → Value → Option Addr → TS) (D : Ends) : WX := fun cls d σ H =>
  PySem.W.exmOne K cls c = some true ∧ (σ.length = l → ∀ a, H a = none → ts a cls d { nx := fun σ' H' => tr a cls d D (σ'.set i none) H', rt := fun _ _ => False } (σ.set i (some (.ref a))) H)
def tKeep (K : PySem.W.Frag) (c : Value) (l i : Nat) (tb : WX → TS) (ts tr : Addr → Value → Option Addr → TS) : TS := fun D σ H =>
  tb (wKeep K c l i ts tr D) { nx := fun _ _ => False, rt := fun _ _ => False } σ H
section
variable {X : Cx} {x n : Str} {c : Value} {i : Nat} {body suite rest : List Stmt} {b₀ : Stmt} {np pos pos' : Pos} {tb : WX → TS} {ts tr : Addr → Value → Option Addr → TS}
theorem pss_keep (hs : X.stack = X.env :: X.outer) (hf : X.env.frame = some X.env.locals) (hN : X.N.Nodup) (hi : X.N[i]? = some n) (hln : X.env.kindOf n = some .local) (hc : Names X x c)
    (hb : ∀ (W : WX) (pn : List (Addr × Obj)) (xe : Value → Shared → Prop), Takes (X.tr pn xe) W → PassesOwn (model X.prog X.w) X.A X.env xe → PSs (X.tr pn xe) body (tb W))
    (hsu : ∀ (a : Addr) (oe : Obj) (cls : Value) (d : Option Addr) (pn : List (Addr × Obj)), Zc cls d oe → (∃ vs, oe.data = .fields vs) → PSs (X.suite a ((a, oe) :: pn)) (b₀ :: suite) (ts a cls d))
    (hre : ∀ (a : Addr) (oe : Obj) (cls : Value) (d : Option Addr) (pn : List (Addr × Obj)), Zc cls d oe → (∃ vs, oe.data = .fields vs) → PSs (X.tr ((a, oe) :: pn) X.xe) rest (tr a cls d)) :
    PSs X (.Try body [.ExceptHandler (some (.Name x np)) (some n) (b₀ :: suite) pos'] [] [] pos :: rest) (tKeep X.K c X.N.length i tb ts tr) := by
  constructor
  intro pins s σ H D I h
  have ok := I.ok
  have frames : X.A.frames = some (X.env :: X.outer) := ok.frames.trans (congrArg some hs)
  have local_ : Loc X.env.scope n := .inl hln
  refine wpAny_execs_cons (wpAny_Try_except ?_)
  -- what runs behind the statement
  let Nxt : Flow → Shared → Prop := fun f s1 => match f with
    | .next => wpAny (model X.prog X.w) X.A (execs rest X.env) (SP X pins D) X.xe s1
    | f => SP X pins D f s1
  have none_ : ∀ f s1, SP (X.tr (X.pn ++ pins) (fun e s₁ => wpAny (model X.prog X.w) X.A (noteFrame e X.env) (fun _ s₂ => wpAny (model X.prog X.w) X.A (setFlight e none) (fun _ s₃ =>
      wpAny (model X.prog X.w) X.A (handleBy e X.env [.ExceptHandler (some (.Name x np)) (some n) (b₀ :: suite) pos']) Nxt X.xe s₃) X.xe s₂) X.xe s₁)) [] { nx := fun _ _ => False, rt := fun _ _ => False } f s1 → False := by
    intro f s1 z
    cases f with
    | next => obtain ⟨_, _, _, q⟩ := z; exact q
    | brk => obtain ⟨_, _, _, q⟩ := z; exact q
    | cont => obtain ⟨_, _, _, q⟩ := z; exact q
    | ret u => obtain ⟨_, _, _, _, _, q⟩ := z; exact q
  refine wpAny_mono ((hb (wKeep X.K c X.N.length i ts tr D) (X.pn ++ pins) _ (fun u s' caught => ?_) PassesOwn.looking).run [] s σ H _ (I.toTry _) h) (fun f s1 z => (none_ f s1 z).elim) (fun e s1 z => z)
  obtain ⟨a, B, sI, pins', σ1, H1, cls, d, rfl, J', nb, up, sky, na, os, ag, hexm, go⟩ := caught
  have J : Inv X pins σ1 H1 sI := J'.ofTry ok
  rw [hs] at sky
  show wpAny _ X.A (noteFrame (.ref a) X.env) _ _ _
  refine Sky.land Zc.steady frames hf sky fun hA flA upA => ?_
  have JA : Inv X pins σ1 H1 { s' with heap := hA } := J.landed nb flA.1 (up.trans upA) os ag
  obtain ⟨oA, vsA, eA, zA, dA⟩ := flA.there
  have apart : a ∉ frs (X.env :: X.outer) := by
    intro m
    obtain ⟨_, o', e', no⟩ := flA.2.2.1.mem m
    rw [eA] at e'
    cases e'
    exact no _ dA
  have nL : a ≠ X.env.locals := fun z => apart (List.mem_filterMap.mpr ⟨X.env, by simp, by rw [hf, z]⟩)
  have nF : a ∉ X.fs := by
    intro m
    obtain ⟨e, he, q⟩ := List.mem_filterMap.mp m
    exact apart (List.mem_filterMap.mpr ⟨e, by simp [he], q⟩)
  have SA := JA.suite eA dA na nL nF
  refine wpAny_handleBy_cons (codeAny_handlers_test ?_) (by intro q; cases q)
  have type_ : PySem.W.Looks (model X.prog X.w) hA (typeOf (.ref a)) cls := fun A Q E s k q => wpAny_typeOf_ref (k _ _ eA) (by rw [zA.1]; exact q)
  have meets := PySem.W.exm_one (M := model X.prog X.w) JA.kIn type_ hexm
  have clause : ∀ {Q : Value → Shared → Prop} {E : Value → Shared → Prop}, Q c { s' with heap := hA } → wpAny (model X.prog X.w) (X.A.mark (some (.ref a))) (eval (.Name x np) X.env) Q E { s' with heap := hA } := by
    intro Q E q
    obtain ⟨hg, hdbg, hm | ⟨hm, hv, hnn⟩⟩ := hc
    · exact ld_glob (X := X.suite a ((a, oA) :: (X.pn ++ pins))) SA hg hm q hdbg
    · exact ld_blt (X := X.suite a ((a, oA) :: (X.pn ++ pins))) SA hg hm hv q hnn hdbg
  refine clause (meets.here (codeAny_handlers_suite_as (HandSPX.lands_againZ flA fun hB flB upB => ?_)))
  obtain ⟨oB, vsB, eB, zB, dB⟩ := flB.there
  have SB := (J.landed nb flB.1 ((up.trans upA).trans upB) os ag : Inv X pins σ1 H1 { s' with heap := hB }).suite eB dB na nL nF
  refine store_ok (X := X.suite a ((a, oB) :: (X.pn ++ pins))) (v := .ref a) SB hN hi local_ rfl (fun s5 S5 => ?_) (.inr hln)
  refine wpAny_mono ((hsu a oB cls d (X.pn ++ pins) zB ⟨_, dB⟩).run [] s5 _ H1 _ S5 (go J.len a na)) (fun f s6 z => ?_) (fun _ _ z => False.elim z)
  cases f with
  | next =>
    obtain ⟨σ6, H6, S6, q6⟩ := z
    refine gone_ok (leftBy S6 ok) hN hi hln fun s7 J7 => ?_
    refine wpAny_mono ((hre a oB cls d (X.pn ++ pins) zB ⟨_, dB⟩).run [] s7 _ _ D (pinIn J7) q6) (fun f s8 z => ?_) (fun _ _ z => z)
    cases f with
    | next => obtain ⟨σ8, H8, S8, q⟩ := z; exact ⟨σ8, H8, pinOut S8 ok, q⟩
    | brk => obtain ⟨σ8, H8, S8, q⟩ := z; exact ⟨σ8, H8, pinOut S8 ok, q⟩
    | cont => obtain ⟨σ8, H8, S8, q⟩ := z; exact ⟨σ8, H8, pinOut S8 ok, q⟩
    | ret u => obtain ⟨v8, σ8, H8, S8, r8, q⟩ := z; exact ⟨v8, σ8, H8, pinOut S8 ok, r8, q⟩
  | brk => obtain ⟨_, _, _, q⟩ := z; exact q.elim
  | cont => obtain ⟨_, _, _, q⟩ := z; exact q.elim
  | ret u => obtain ⟨_, _, _, _, _, q⟩ := z; exact q.elim
end
end Gd
end

section
set_option Elab.async false
set_option linter.all false
set_option maxRecDepth 100000
set_option maxHeartbeats 4000000
/-! isinstance of an exception that is pinned: of one class, of a tuple of classes that was just laid. -/
namespace Gd
open PySem PySem.Spec PyProof.Rows L2
def rIsP (K : PySem.W.Frag) (a : Addr) (cls : Value) (d : Option Addr) : List V → Hp → VK → Prop := fun xs H Q => ∃ (C : Addr) (b : Bool), cls = .ref C ∧ d = none ∧ EvC K C ∧ EvB K ∧
  ((∃ (c : V) (u : Value), xs = [.ref a, c] ∧ ClsV c u ∧ PySem.W.kitOne K (.ref C) u = some b) ∨
    ∃ (tp : Addr) (cs : List V) (us : List Value), xs = [.ref a, .ref tp] ∧ H tp = some (.tup cs) ∧ Paired ClsV cs us ∧ PySem.W.kitAny K (.ref C) us = some b) ∧ Q (.bl b) H
theorem call_isP {X : Cx} {a : Addr} {oe : Obj} {cls : Value} {d : Option Addr} (mem : (a, oe) ∈ X.pn) (hz : Zc cls d oe) (hd : ∃ vs, oe.data = .fields vs) : CallR X (.builtin "isinstance") (rIsP X.K a cls d) := by
  intro pins s σ H xs us Q I r h
  obtain ⟨C, b, rfl, rfl, T, B, way, q⟩ := h
  have at_ := (I.pin (a, oe) (List.mem_append_left _ mem)).1
  have J : PySem.W.InstAt s.heap a oe C none := ⟨at_, hz.1, by obtain ⟨vs, e⟩ := hd; unfold PySem.W.notCls; rw [e], by rw [hz.2]; trivial⟩
  obtain ⟨cd, hc, _⟩ := PySem.W.any_some T.hd
  have hcl : (PySem.W.clsIn X.K C).isSome = true := by
    rw [hc]
    rfl
  have Z := PySem.W.kitx_exc (x := a) (ox := oe) (od := none) hcl T.ga T.gt T.sub T.cl B.gt B.tk T.mo
  have fin : ∀ tk, EP X pins σ Q (.bool b) { s with toks := tk } := fun tk => ⟨.bl b, H, I.tok tk, rfl, q⟩
  rcases way with ⟨c, u, rfl, k, e⟩ | ⟨tp, cs, ws, rfl, hT, k, e⟩
  · obtain ⟨u1, u2, rfl, r1, r2⟩ := vals2 r
    cases k.eq r2
    obtain rfl : u1 = Value.ref a := r1
    exact PySem.W.kia_one Z I.kIn J e (fun z => nomatch z) fin
  · obtain ⟨u1, u2, rfl, r1, r2⟩ := vals2 r
    obtain rfl : u1 = Value.ref a := r1
    obtain rfl : u2 = Value.ref tp := r2
    obtain ⟨_, its, rv, o, h1, h2, n, h3⟩ := (show ObjOk X.prog X.w H s.heap tp (.tup cs) from I.hok tp _ hT)
    cases ClsV.all k rv
    obtain ⟨oc, od, dt, sl⟩ := o
    simp only at h2 h3
    subst h2 h3
    exact PySem.W.kia_tup Z I.kIn J h1 e (fun z => nomatch z) fin
end Gd
end

section
set_option Elab.async false
set_option linter.all false
set_option maxRecDepth 100000
set_option maxHeartbeats 4000000
/-! sum(xs), xs a list of truths. -/
namespace Gd
open PySem PySem.Spec PyProof.Rows L2
def oneIf (bs : List Bool) (i : Nat) : Int := if bs.getD i false = true then 1 else 0
theorem pre_count (bs : List Bool) : ∀ n, n ≤ bs.length → preSum (oneIf bs) n = (((bs.take n).count true : Nat) : Int)
  | 0, _ => rfl
  | n + 1, h => by
    have hb : bs[n]? = some bs[n] := List.getElem?_eq_getElem h
    show preSum (oneIf bs) n + oneIf bs n = _
    rw [pre_count bs n (Nat.le_of_succ_le h), List.take_add_one, hb, List.count_append]
    unfold oneIf
    rw [List.getD_eq_getElem?_getD, hb]
    cases bs[n] <;> simp
def rSumB (K : PySem.W.Frag) : List V → Hp → VK → Prop := fun xs H Q => ∃ (a : Addr) (bs : List Bool), xs = [V.ref a] ∧ SqL K H a (bs.map V.bl) ∧ Q (.int ((bs.count true : Nat) : Int)) H
theorem call_sumB {X : Cx} (hc : X.calm = true) : CallR X (.builtin "sum") (rSumB X.K) := by
  intro pins s σ H xs us Q I r h
  obtain ⟨a, bs, rfl, hs, q⟩ := h
  obtain ⟨its, rv, hl, _⟩ := I.list hs
  rw [Vals.ref1 r]
  have ei := Vals.bls rv
  have hh := I.ok.hd hc
  have hh1 : X.A.in1.handled = none := hh
  have hL := hl.isList
  have ll : a < s.heap.objs.size := by obtain ⟨o, ho, _⟩ := hL; exact Heap.lt_size ho
  have sz : its.toArray.size = bs.length := by rw [ei]; simp
  refine call_sum_walkAnyB (wpAny_pyIter_list hL ?_)
  refine ⟨_, _, _, _, _, _, _, oneIf bs, rfl, (Walks.list (A := X.A.in1) hh1 s.heap.objs.size a (Nat.ne_of_lt ll) its.toArray).toS, ⟨⟨_, Heap.get?_push_size _ rfl, rfl, rfl⟩, hL.push _⟩, fun b hb => ?_, fun i v hv => ?_, fun s' t' hm => ?_⟩
  · show b < (s.heap.push _).objs.size
    rw [Heap.size_push]
    rcases List.mem_cons.mp hb with rfl | hb
    · exact Nat.lt_succ_self _
    · rw [List.mem_singleton.mp hb]; exact Nat.lt_succ_of_lt ll
  · have hv' : its[i]? = some v := by simpa using hv
    rw [ei, List.getElem?_map, Option.map_eq_some_iff] at hv'
    obtain ⟨b, eb, rfl⟩ := hv'
    refine .inr ⟨b, rfl, ?_⟩
    unfold oneIf
    rw [List.getD_eq_getElem?_getD, eb]
    rfl
  · rw [Moved.eq_with hm, sz, pre_count bs _ (Nat.le_refl _), List.take_length]
    refine ⟨.int _, H, I.kept (t' := s'.toks) fun b o e => ?_, ⟨t', rfl⟩, q⟩
    exact hm.heap b o (fun m => Nat.ne_of_lt (Heap.lt_size e) (List.mem_singleton.mp m)) (Heap.get?_push_of_some _ e)
end Gd
end

section
set_option Elab.async false
set_option linter.all false
set_option maxRecDepth 100000
set_option maxHeartbeats 4000000
/-! zip(t, l): a tuple beside a list. -/
namespace Gd
open PySem PySem.Spec PyProof.Rows L2

/-- the tuple at a, the list at b, as they stand at each turn -/
def ItTL (K : PySem.W.Frag) (a b : Addr) : It where
  go i H := ∃ (xs ys : List V) (x y : V), SqT K H a xs ∧ SqL K H b ys ∧ xs[i]? = some x ∧ ys[i]? = some y
  yld i H v H' := ∃ T x y, v = .ref T ∧ H T = none ∧ H' = upd H T (.tup [x, y]) ∧ (∀ xs, SqT K H a xs → xs[i]? = some x) ∧ ∀ ys, SqL K H b ys → ys[i]? = some y
  stop i H := ∃ xs ys : List V, SqT K H a xs ∧ SqL K H b ys ∧ ys.length = i ∧ xs.length = i

theorem apN {a b : Nat} (h : ¬ a = b) : (a : Addr) ≠ (b : Addr) := h
theorem apL {x a b : Nat} (h1 : ¬ x = a) (h2 : ¬ x = b) : (x : Addr) ∉ ([a, b] : List Addr) := by
  intro h
  rcases List.mem_cons.mp h with h | h
  · exact h1 h
  · rcases List.mem_cons.mp h with h | h
    · exact h2 h
    · cases h
/-- the five cells of such a zip, the first at n -/
def five (n : Nat) : List Addr := [n + 4, n + 2, n + 3, n, n + 1]
theorem mem5 {n c : Nat} (h : c ∈ five n) : n ≤ c ∧ c < n + 5 := by
  simp only [five, List.mem_cons, List.not_mem_nil, or_false] at h
  omega
theorem in5 {n c : Nat} (h : n ≤ c) (h' : c < n + 5) : c ∈ five n := by
  simp only [five, List.mem_cons, List.not_mem_nil, or_false]
  omega
theorem sep5 {n a b : Nat} (ha : a < n) (hb : b < n) : ZipSep2 (n + 4) (n + 2) (n + 3) n (n + 1) [n, a] [n + 1, b] := by
  constructor
  · exact apN (by omega)
  · exact apN (by omega)
  · exact apN (by omega)
  · exact apN (by omega)
  · simp
  · exact apL (by omega) (by omega)
  · exact apL (by omega) (by omega)
  · exact apN (by omega)
  · simp
  · exact apL (by omega) (by omega)
  · exact apL (by omega) (by omega)
  · exact apL (by omega) (by omega)
  · exact apL (by omega) (by omega)
def St5 (n a b : Nat) (i : Nat) (h : Heap) : Prop :=
  IsZip h (n + 4) (n + 2) (n + 3) .none ∧ IsTupOf2 h (n + 2) (.ref n) (.ref (n + 1)) ∧ (∃ x y, IsTupOf2 h (n + 3) x y) ∧
    h.IsTupleIter n a i ∧ h.IsListIter (n + 1) b i ∧ a < n ∧ b < n ∧ n + 5 ≤ h.objs.size
theorem st5_obj {n a b i : Nat} {h : Heap} (st : St5 n a b i h) {c : Addr} (hc : c ∈ five n) : ∃ o, h.get? c = some o ∧ ∀ v, o.data ≠ .cell v := by
  obtain ⟨hz, hi, ⟨x, y, ho⟩, ⟨o1, e1, _, d1⟩, ⟨o2, e2, _, d2⟩, _⟩ := st
  simp only [five, List.mem_cons, List.not_mem_nil, or_false] at hc
  rcases hc with rfl | rfl | rfl | rfl | rfl
  · exact ⟨_, hz, fun v z => nomatch z⟩
  · exact ⟨_, hi, fun v z => nomatch z⟩
  · exact ⟨_, ho, fun v z => nomatch z⟩
  · exact ⟨o1, e1, fun v z => by rw [d1] at z; cases z⟩
  · exact ⟨o2, e2, fun v z => by rw [d2] at z; cases z⟩
theorem st5_keep {n a b i : Nat} {h h' : Heap} (st : St5 n a b i h) (hs : n + 5 ≤ h'.objs.size) (k : ∀ c ∈ five n, ∀ o, h.get? c = some o → h'.get? c = some o) : St5 n a b i h' := by
  obtain ⟨hz, hi, ⟨x, y, ho⟩, h1, h2, la, lb, _⟩ := st
  have m : ∀ j, j < 5 → n + j ∈ five n := fun j hj => in5 (by omega) (by omega)
  exact ⟨k _ (m 4 (by omega)) _ hz, k _ (m 2 (by omega)) _ hi, ⟨x, y, k _ (m 3 (by omega)) _ ho⟩, h1.at fun o e => k n (m 0 (by omega)) o e, h2.at fun o e => k _ (m 1 (by omega)) o e, la, lb, hs⟩
theorem size_of_get {h : Heap} {n : Nat} {o : Obj} (e : h.get? (n + 4) = some o) : n + 5 ≤ h.objs.size := Heap.lt_size e

theorem turn_TL {P : Program} {w : World} {K : PySem.W.Frag} {elts : List Expr} {kk : Nat} {tpos : Pos} {a b n : Addr} :
    Turn P w K (.Tuple elts kk tpos) (ItTL K a b) (five n) (n + 4) (St5 n a b) where
  mem := in5 (by omega) (by omega)
  obj := fun i h st c hc => st5_obj st hc
  keep := fun i h h' st k => by
    obtain ⟨o, e⟩ : ∃ o, h.get? (n + 4) = some o := ⟨_, st.1⟩
    exact st5_keep st (size_of_get (k _ (in5 (by omega) (by omega)) _ e)) k
  item := by
    intro X hP hw hK hc i pins s σ H E I hf st hg
    subst hP hw hK
    have st0 := st
    obtain ⟨hz, hi, ⟨x0, y0, ho⟩, h1, h2, la, lb, _⟩ := st
    obtain ⟨xs, ys, x, y, qx, qy, hx, hy⟩ := hg
    obtain ⟨as, rv, p, _⟩ := I.tuple qx
    obtain ⟨bs, rv2, p2, _⟩ := I.list qy
    obtain ⟨u, hu, ru⟩ := rv.get hx
    obtain ⟨u2, hu2, ru2⟩ := rv2.get hy
    have hh := I.ok.hd hc
    have hh1 : X.A.in1.handled = none := hh
    have hia : i < as.toArray.size := by
      rw [List.size_toArray]
      exact (List.getElem?_eq_some_iff.mp hu).1
    have hib : i < bs.toArray.size := by
      rw [List.size_toArray]
      exact (List.getElem?_eq_some_iff.mp hu2).1
    refine wpAny_pyNext_zipD2_item (sep5 la lb) (.tuple hh1 n a (Nat.ne_of_lt la) as.toArray) (.list hh1 (n + 1) b (apN (by omega)) bs.toArray) hz hi ho ⟨h1, p⟩ ⟨h2, p2.isList⟩ hia hib ?_
    intro x1 x2 h' tk e1 e2 z' o' g1 g2 hT hsz hk
    have eu : x1 = u := by
      have : as.toArray[i]? = some u := by simpa using hu
      exact Option.some.inj (e1.symm.trans this)
    have eu2 : x2 = u2 := by
      have : bs.toArray[i]? = some u2 := by simpa using hu2
      exact Option.some.inj (e2.symm.trans this)
    subst eu eu2
    have old : ∀ {c o}, s.heap.get? c = some o → c ≠ s.heap.objs.size := fun e => Nat.ne_of_lt (Heap.lt_size e)
    refine ⟨_, rfl, wpAny_letOwnedTupleGo_zip z' fun h3 z3 sb => ?_⟩
    have stay : ∀ c o, c ∉ five n → s.heap.get? c = some o → h3.get? c = some o := fun c o nc e =>
      (sb.2 c (fun q => nc (q ▸ in5 (by omega) (by omega)))).trans (hk c o (fun q => nc (q ▸ in5 (by omega) (by omega))) (fun q => nc (q ▸ in5 (by omega) (by omega)))
        (fun q => nc (q ▸ in5 (by omega) (by omega))) (fun q => nc (q ▸ in5 (by omega) (by omega))) e)
    have t3 : h3.get? s.heap.objs.size = some { cls := .type "tuple", data := .seq #[x1, x2] } := (sb.2 _ (old hz).symm).trans hT
    have fine : ObjOk X.prog X.w (upd H s.heap.objs.size (.tup [x, y])) h3 s.heap.objs.size (.tup [x, y]) :=
      ⟨by show 2 ≤ sizeLine; decide, [x1, x2], .cons ru (.cons ru2 .nil), ⟨_, t3, rfl, _, rfl⟩⟩
    have I3 := I.turnedNew (t' := tk) (ch := five n) stay hf (Nat.le_refl _) fine
    have sz : h3.objs.size = h'.objs.size := sb.1
    have sz2 : n + 5 ≤ s.heap.objs.size := size_of_get hz
    refine ⟨.ref s.heap.objs.size, _, I3, rfl, ⟨_, x, y, rfl, I.hok.fresh (Nat.le_refl _), rfl, fun l hl => ?_, fun l hl => ?_⟩, ⟨z3, ?_, ⟨x1, x2, ?_⟩, ?_, ?_, la, lb, ?_⟩, fun c hcm => ?_⟩
    · rw [I.tuple_inj hl qx]; exact hx
    · rw [I.list_inj hl qy]; exact hy
    · exact (sb.2 _ (apN (by omega))).trans (hk _ _ (apN (by omega)) (apN (by omega)) (apN (by omega)) (apN (by omega)) hi)
    · exact (sb.2 _ (apN (by omega))).trans o'
    · exact g1.1.at fun o q => (sb.2 _ (apN (by omega))).trans q
    · exact g2.1.at fun o q => (sb.2 _ (apN (by omega))).trans q
    · rw [sz, hsz]
      omega
    · have := (mem5 hcm).2
      rw [upd_ne (apN (by omega))]
      exact (hf c hcm).1
  done := by
    intro X hP hw hK hc i pins s σ H E I hf st hg
    subst hP hw hK
    obtain ⟨hz, hi, ⟨x0, y0, ho⟩, h1, h2, la, lb, _⟩ := st
    obtain ⟨xs, ys, qx, qy, ey, ex⟩ := hg
    obtain ⟨as, rv, p, _⟩ := I.tuple qx
    obtain ⟨bs, rv2, p2, _⟩ := I.list qy
    have l1 := rv.length
    have l2 := rv2.length
    have hh := I.ok.hd hc
    have hh1 : X.A.in1.handled = none := hh
    have sa : as.toArray.size = i := by rw [List.size_toArray]; omega
    have sb : bs.toArray.size = i := by rw [List.size_toArray]; omega
    refine wpAny_pyNext_zipD2_end (sep5 la lb) (.tuple hh1 n a (Nat.ne_of_lt la) as.toArray) (.list hh1 (n + 1) b (apN (by omega)) bs.toArray) hz hi ho ⟨h1, p⟩ ⟨h2, p2.isList⟩ (by omega) (by omega) (by omega) ?_
    intro h' tk hk
    refine ⟨rfl, I.turnedL (t' := tk) (ch := five n) (fun c o nc e => ?_) hf⟩
    exact hk c o (fun q => nc (q ▸ in5 (by omega) (by omega))) (fun q => nc (q ▸ in5 (by omega) (by omega))) (fun q => nc (q ▸ in5 (by omega) (by omega))) (fun q => nc (q ▸ in5 (by omega) (by omega))) e
  self := fun A i s Q E st h => wpAny_pyIter_zip st.1 h

def iTL (K : PySem.W.Frag) (ta : TA) : TI := fun σ H R => ta σ H fun vs H1 => ∃ a b xs ys, vs = [.ref a, .ref b] ∧ SqT K H1 a xs ∧ SqL K H1 b ys ∧ xs.length = ys.length ∧ R (ItTL K a b) H1
theorem pi_TL {X : Cx} {e e2 : Expr} {ta : TA} {p pos tpos : Pos} {elts : List Expr} {kk : Nat} (hg : Gl X "zip") (hm : X.mg "zip" = none) (ha : PA X [e, e2] ta)
    (hs : starEach [e, e2] X.env = (false, eval e X.env) :: starEach [e2] X.env := by rfl) (hpl : (backTo pos (starEach [e2] X.env)).any (·.1) = false := by rfl) :
    PI X (.Tuple elts kk tpos) (.Call (.Name "zip" p) [e, e2] [] pos) (iTL X.K ta) := by
  refine ⟨fun pins s σ H R I h => Call_ (ld_blt I hg hm PyProof.Rows.boot_zip (PyProof.Rows.callWith_type1 (thn (ha.run pos pins s σ H _ I h) ?_) hs hpl))⟩
  rintro us s1 ⟨vs, H1, J, r, a, b, xs, ys, rfl, qx, qy, hl, q⟩
  obtain ⟨u1, u2, rfl, r1, r2⟩ := vals2 r
  cases r1
  cases r2
  obtain ⟨as, rv, p1, _⟩ := J.tuple qx
  obtain ⟨bs, rv2, p2, _⟩ := J.list qy
  have la : a < s1.heap.objs.size := by
    obtain ⟨o, e, _⟩ := id p1
    exact Heap.lt_size e
  refine zip_begins2 (begins_tuple a as.toArray) (begins_list b bs.toArray) p1 p2.isList ?_
  intro h' hz hi ho g1 g2 hsz hk
  refine wpAny_pyIter_zip hz ?_
  refine ⟨s1.heap.objs.size + 4, five s1.heap.objs.size, _, _, H1, rfl, J.kept (t' := s1.toks) hk, turn_TL (a := a) (b := b), ?_, fun c hc => ?_, q⟩
  · exact ⟨hz, hi, ⟨_, _, ho⟩, ⟨_, g1, rfl, rfl⟩, ⟨_, g2, rfl, rfl⟩, la, p2.lt, by rw [hsz]; exact Nat.le_refl _⟩
  · have hle := (mem5 hc).1
    exact (J.kept (t' := s1.toks) (fun _ _ z => z)).fpOk hle (J.hok.fresh hle)
end Gd
end

section
set_option Elab.async false
set_option linter.all false
set_option maxRecDepth 100000
set_option maxHeartbeats 4000000
/-! enumerate(t), t a tuple. -/
namespace Gd
open PySem PySem.Spec PyProof.Rows L2
/-- the tuple at a, numbered -/
def ItET (K : PySem.W.Frag) (a : Addr) : It where
  go i H := ∃ (xs : List V) (x : V), SqT K H a xs ∧ xs[i]? = some x
  yld i H v H' := ∃ T x, v = .ref T ∧ H T = none ∧ H' = upd H T (.tup [.int (i : Nat), x]) ∧ ∀ xs, SqT K H a xs → xs[i]? = some x
  stop i H := ∃ xs : List V, SqT K H a xs ∧ xs.length = i
/-- its two cells, the first at n -/
def duo (n : Nat) : List Addr := [n + 1, n]
theorem mem2 {n c : Nat} (h : c ∈ duo n) : n ≤ c ∧ c < n + 2 := by
  simp only [duo, List.mem_cons, List.not_mem_nil, or_false] at h
  omega
theorem in2 {n c : Nat} (h : n ≤ c) (h' : c < n + 2) : c ∈ duo n := by
  simp only [duo, List.mem_cons, List.not_mem_nil, or_false]
  omega
def StE (n a : Nat) (i : Nat) (h : Heap) : Prop := (∃ old, IsEnum h (n + 1) n ((i : Nat) : Int) old) ∧ h.IsTupleIter n a i ∧ a < n ∧ n + 2 ≤ h.objs.size
theorem size2 {h : Heap} {n : Nat} {o : Obj} (e : h.get? (n + 1) = some o) : n + 2 ≤ h.objs.size := Heap.lt_size e
theorem turn_ET {P : Program} {w : World} {K : PySem.W.Frag} {elts : List Expr} {kk : Nat} {tpos : Pos} {a n : Addr} :
    Turn P w K (.Tuple elts kk tpos) (ItET K a) (duo n) (n + 1) (StE n a) where
  mem := in2 (by omega) (by omega)
  obj := fun i h st c hc => by
    obtain ⟨⟨old, e1⟩, ⟨o, e2, _, d2⟩, _⟩ := st
    simp only [duo, List.mem_cons, List.not_mem_nil, or_false] at hc
    rcases hc with rfl | rfl
    · exact ⟨_, e1, fun v z => nomatch z⟩
    · exact ⟨o, e2, fun v z => by rw [d2] at z; cases z⟩
  keep := fun i h h' st k => by
    obtain ⟨⟨old, e1⟩, t1, la, _⟩ := st
    have e3 := k (n + 1) (in2 (by omega) (by omega)) _ e1
    exact ⟨⟨old, e3⟩, t1.at fun o e => k n (in2 (by omega) (by omega)) o e, la, size2 e3⟩
  item := by
    intro X hP hw hK hc i pins s σ H E I hf st hg
    subst hP hw hK
    obtain ⟨⟨old, e1⟩, t1, la, sz0⟩ := st
    obtain ⟨xs, x, qx, hx⟩ := hg
    obtain ⟨as, rv, p, _⟩ := I.tuple qx
    obtain ⟨u, hu, ru⟩ := rv.get hx
    have hh1 : X.A.in1.handled = none := I.ok.hd hc
    have hia : i < as.toArray.size := by
      rw [List.size_toArray]
      exact (List.getElem?_eq_some_iff.mp hu).1
    have nin : (n + 1 : Nat) ∉ ([n, a] : List Addr) := apL (by omega) (by omega)
    refine wpAny_pyNext_enum_itemD (.tuple hh1 n a (Nat.ne_of_lt la) as.toArray) e1 ⟨t1, p⟩ hia (apN (by omega)) nin ?_
    intro y h' tk ey z' g1 hT hsz hk
    have eu : y = u := by
      have : as.toArray[i]? = some u := by simpa using hu
      exact Option.some.inj (ey.symm.trans this)
    subst eu
    refine ⟨_, rfl, wpAny_letOwnedTupleGo_enum z' fun h3 z3 sb => ?_⟩
    have old3 : ∀ {c o}, s.heap.get? c = some o → c ≠ s.heap.objs.size := fun e => Nat.ne_of_lt (Heap.lt_size e)
    have stay : ∀ c o, c ∉ duo n → s.heap.get? c = some o → h3.get? c = some o := fun c o nc e =>
      (sb.2 c (fun q => nc (q ▸ in2 (by omega) (by omega)))).trans (hk c o (fun q => nc (q ▸ in2 (by omega) (by omega))) (fun q => nc (q ▸ in2 (by omega) (by omega))) e)
    have t3 : h3.get? s.heap.objs.size = some { cls := .type "tuple", data := .seq #[.int i tk, y] } := (sb.2 _ (old3 e1).symm).trans hT
    have fine : ObjOk X.prog X.w (upd H s.heap.objs.size (.tup [.int (i : Nat), x])) h3 s.heap.objs.size (.tup [.int (i : Nat), x]) :=
      ⟨by show 2 ≤ sizeLine; decide, [.int i tk, y], .cons ⟨_, rfl⟩ (.cons ru .nil), ⟨_, t3, rfl, _, rfl⟩⟩
    have I3 := I.turnedNew (t' := tk + 1) (ch := duo n) stay hf (Nat.le_refl _) fine
    have sz : h3.objs.size = h'.objs.size := sb.1
    refine ⟨.ref s.heap.objs.size, _, I3, rfl, ⟨_, x, rfl, I.hok.fresh (Nat.le_refl _), rfl, fun l hl => ?_⟩, ⟨⟨y, ?_⟩, ?_, la, ?_⟩, fun c hcm => ?_⟩
    · rw [I.tuple_inj hl qx]; exact hx
    · rw [show ((i + 1 : Nat) : Int) = (i : Int) + 1 by omega]
      exact z3
    · exact g1.1.at fun o q => (sb.2 _ (apN (by omega))).trans q
    · rw [sz, hsz]
      omega
    · have := (mem2 hcm).2
      rw [upd_ne (apN (by omega))]
      exact (hf c hcm).1
  done := by
    intro X hP hw hK hc i pins s σ H E I hf st hg
    subst hP hw hK
    obtain ⟨⟨old, e1⟩, t1, la, sz0⟩ := st
    obtain ⟨xs, qx, ex⟩ := hg
    obtain ⟨as, rv, p, _⟩ := I.tuple qx
    have l1 := rv.length
    have hh1 : X.A.in1.handled = none := I.ok.hd hc
    have sa : as.toArray.size = i := by rw [List.size_toArray]; omega
    subst sa
    refine wpAny_pyNext_enum_endD (.tuple hh1 n a (Nat.ne_of_lt la) as.toArray) e1 ⟨t1, p⟩ ?_
    intro h' hk
    exact ⟨rfl, I.turnedL (t' := s.toks) (ch := duo n) (fun c o nc e => hk c o (fun q => nc (q ▸ in2 (by omega) (by omega))) e) hf⟩
  self := fun A i s Q E st h => by
    obtain ⟨⟨old, e1⟩, _⟩ := st
    exact wpAny_pyIter_enum e1 h

/-! making it -/
abbrev cellE (n : Nat) : Obj := { cls := .type "enumerate", data := .fields #[.none, .bool false, .ref n, rawInt 0, .none, .none] }
theorem make_ET {v : Value} {o : Obj} {Z : Heap → Prop} (B : Begins v o Z) : Meets (Builtin.«enumerate.__new__» ⟨[.type "enumerate", v], []⟩)
    (fun _ R s => Z s.heap ∧ R (.ok (.ret (.ref (s.heap.push o).objs.size))) { s with heap := (s.heap.push o).push (cellE s.heap.objs.size) }) := by
  refine .of_wp fun prog w A R s z => ?_
  obtain ⟨hp, g, d, tk, os⟩ := s
  have sub := sub_enumerate
  have go : ∀ {A' : Around} {F Q : Value → Shared → Prop}, Q (.ref hp.objs.size) ⟨hp.push o, g, d, tk, os⟩ → wpAny (model prog w) A' (pyIter v) Q F ⟨hp, g, d, tk, os⟩ := fun y => B.iter prog w _ _ ⟨hp, g, d, tk, os⟩ _ z.1 y
  wp_walk using go
  refine wpAny_stack_any fun stk => wpAny_pure ?_
  split
  · rename_i c _ _ _ _ _
    cases (c == Value.type "enumerate") <;> (wp_walk using go; exact ⟨_, rfl, z.2⟩)
  · wp_walk using go
    exact ⟨_, rfl, z.2⟩
theorem call_ET {prog : Program} {w : World} {A : Around} {G Q : Value → Shared → Prop} {s : Shared} {v : Value} {o : Obj} {Z : Heap → Prop} (B : Begins v o Z) (z : Z s.heap)
    (q : ∀ h', IsEnum h' (s.heap.objs.size + 1) s.heap.objs.size 0 .none → h'.get? s.heap.objs.size = some o → h'.objs.size = s.heap.objs.size + 2 → (∀ b o', s.heap.get? b = some o' → h'.get? b = some o') →
      Q (.ref (s.heap.objs.size + 1)) { s with heap := h' }) : wpAny (model prog w) A (call (.type "enumerate") [v]) Q G s := by
  have e1 : (s.heap.push o).objs.size = s.heap.objs.size + 1 := Heap.size_push ..
  have e2 : IsEnum ((s.heap.push o).push (cellE s.heap.objs.size)) (s.heap.objs.size + 1) s.heap.objs.size 0 .none := by
    rw [← e1]
    exact Heap.get?_push_size (s.heap.push o) (o := cellE s.heap.objs.size) rfl
  refine callType_new F.called_enumerate (by decide) (F.typeCall_enumerate_1 _) (F.newCall_enumerate_1 _) (fun obj => F.args_object_init_2 obj _) F.entry_enumerate_new (make_ET B) ⟨z, ?_⟩
  show _ ∧ _
  rw [e1]
  exact ⟨⟨_, e2, rfl⟩, q _ e2 (Heap.get?_push_of_some _ (Heap.get?_push_size _ B.free)) (by rw [Heap.size_push, e1]) fun b o' y => Heap.get?_push_of_some _ (Heap.get?_push_of_some _ y)⟩
def iET (K : PySem.W.Frag) (ta : TA) : TI := fun σ H R => ta σ H fun vs H1 => ∃ a xs, vs = [.ref a] ∧ SqT K H1 a xs ∧ R (ItET K a) H1
theorem pi_ET {X : Cx} {e : Expr} {ta : TA} {p pos tpos : Pos} {elts : List Expr} {kk : Nat} (hg : Gl X "enumerate") (hm : X.mg "enumerate" = none) (ha : PA X [e] ta) (hs : starEach [e] X.env = [(false, eval e X.env)] := by rfl) :
    PI X (.Tuple elts kk tpos) (.Call (.Name "enumerate" p) [e] [] pos) (iET X.K ta) := by
  refine ⟨fun pins s σ H R I h => Call_ (ld_blt I hg hm boot_enumerate (PyProof.Rows.callWith_type1 (thn (ha.run pos pins s σ H _ I h) ?_) hs rfl))⟩
  rintro us s1 ⟨vs, H1, J, r, a, xs, rfl, qx, q⟩
  obtain ⟨u1, rfl, r1⟩ := vals1 r
  cases r1
  obtain ⟨as, rv, p1, _⟩ := J.tuple qx
  have la : a < s1.heap.objs.size := by
    obtain ⟨o, e, _⟩ := id p1
    exact Heap.lt_size e
  refine call_ET (begins_tuple a as.toArray) p1 ?_
  intro h' he g1 hsz hk
  refine wpAny_pyIter_enum he ?_
  refine ⟨s1.heap.objs.size + 1, duo s1.heap.objs.size, _, _, H1, rfl, J.kept (t' := s1.toks) hk, turn_ET (a := a), ?_, fun c hc => ?_, q⟩
  · exact ⟨⟨_, he⟩, ⟨_, g1, rfl, rfl⟩, la, by rw [hsz]; exact Nat.le_refl _⟩
  · have hle := (mem2 hc).1
    exact (J.kept (t' := s1.toks) (fun _ _ z => z)).fpOk hle (J.hok.fresh hle)
theorem walk_ET {K : PySem.W.Frag} {a : Addr} {xs : List V} : Walk (ItET K a) xs.length (fun H => SqT K H a xs) (YPair (fun i => some (.int (i : Nat))) (fun i => xs[i]?)) := by
  refine ⟨fun i _ hi q => ⟨xs, xs[i], q, by simp [hi]⟩, fun _ q => ⟨xs, q, rfl⟩, fun i H v H' _ q y => ?_⟩
  obtain ⟨T, x, h1, h2, h3, h4⟩ := y
  exact ⟨T, .int (i : Nat), x, h1, h2, h3, rfl, h4 xs q⟩
/-! is a truth, of a truth or None -/
theorem op_is_fl {X : Cx} : OpR X (compareOp .Is) (fun x y H Q => ∃ b, y = .bl b ∧ ((∃ a, x = .bl a ∧ Q (.bl (decide (a = b))) H) ∨ (x = .non ∧ Q (.bl false) H))) := by
  intro pins s σ H x y v u Q I rx ry h
  obtain ⟨b, rfl, ⟨a, rfl, q⟩ | ⟨rfl, q⟩⟩ := h
  · exact op_is_bl pins s σ H _ _ v u Q I rx ry ⟨a, b, rfl, rfl, q⟩
  · cases rx
    cases (show u = Value.bool b from ry)
    exact wpAny_is_other rfl (fun z => nomatch z) ⟨.bl false, H, I, rfl, q⟩
theorem op_isnot_fl {X : Cx} : OpR X (compareOp .IsNot) (fun x y H Q => ∃ b, y = .bl b ∧ ((∃ a, x = .bl a ∧ Q (.bl (!decide (a = b))) H) ∨ (x = .non ∧ Q (.bl true) H))) := by
  intro pins s σ H x y v u Q I rx ry h
  obtain ⟨b, rfl, ⟨a, rfl, q⟩ | ⟨rfl, q⟩⟩ := h
  · exact op_isnot_bl pins s σ H _ _ v u Q I rx ry ⟨a, b, rfl, rfl, q⟩
  · cases rx
    cases (show u = Value.bool b from ry)
    exact wpAny_isNot_other rfl (fun z => nomatch z) ⟨.bl true, H, I, rfl, q⟩
end Gd
end

section
set_option Elab.async false
set_option linter.all false
set_option maxRecDepth 100000
set_option maxHeartbeats 4000000
/-! repr and sorted within a comprehension. -/
namespace Gd
open PySem PySem.Spec PyProof.Rows L2
section
variable {X : Cx}
theorem call_reprK (K : PySem.W.Frag) (g : Free X.A) (hu : X.A.units + 64 < cLine) (hK : X.K = K := by rfl) : CallR X (.builtin "repr") (rRepr K) := by
  subst hK
  exact call_repr g hu
theorem call_sortedVK (K : PySem.W.Frag) (hu : X.A.units + 64 < cLine) (hK : X.K = K := by rfl) : CallR X (.builtin "sorted") (rSortV K) := by
  subst hK
  exact call_sortedV hu
end
end Gd
end

section
set_option Elab.async false
set_option linter.all false
set_option maxRecDepth 100000
set_option maxHeartbeats 4000000
namespace K42
open PySem PySem.Spec PyProof.Rows L2 Gd
def topS (i : Nat) : Stmt := PySem.Challenge.pw_plansamid_k42_whole_how_many_mergings.main.body.getD i (.Pass ⟨0, 0, 0, 0⟩)
abbrev sPen : Stmt := topS 12
abbrev sDraw : Stmt := topS 13
theorem scPen : FnScope ["_law_script"] ["_law_script"] (defScope sPen) := ⟨rfl, rfl, rfl, by decide +kernel, rfl, by decide +kernel, by decide +kernel⟩
abbrev nDraw : List Str := ["_law_pen_here", "_law_many", "_law_digit", "_law_at", "_law_cell", "_law_great", "_law_mixed"]
theorem scDraw : FnScope nDraw ["_law_pen_here", "_law_many"] (defScope sDraw) := ⟨rfl, rfl, rfl, by decide +kernel, rfl, by decide +kernel, by decide +kernel⟩
def spPen (K : PySem.W.Frag) : Sp := fun vs H Q _ => ∃ (a : Addr) (ns : List Int), vs = [.ref a] ∧ SqL K H a (ns.map V.int) ∧ ns.length ≤ 63 ∧ ∀ (l c : Addr) (H' : Hp), Same H H' → H l = none → H c = none → Pen H' l c 0 → Q (.ref l) H'
theorem cut_all (xs : List V) (h : xs.length ≤ 63) : cutV xs none (some (63 : Int)) = xs := by
  unfold cutV
  rw [HT.sIx_none, show (63 : Int) = ((63 : Nat) : Int) from rfl, HT.sIx_nat, List.drop_zero, Nat.sub_zero, Nat.min_eq_right h, List.take_length]
section
variable {P : Program} {w : World} {K : PySem.W.Frag} {mg : Str → Option Value} {base : Heap} {f fT : Addr} {fd dT : FuncData}
theorem ok_pen (F : Fun K "_law_pen" "_law_pen" sPen f fd) (ml : mg "list" = none) : FnOk P w K mg base CX0 1 f fd ["_law_script"] (spPen K) := by
  refine F.ok scPen (fun vs H Q E h => ?_) (fun cdv A outer s H vs Q E hr h => ?_)
  · obtain ⟨a, ns, rfl, _⟩ := h
    rfl
  obtain ⟨a, ns, rfl, ha, hn, q⟩ := h
  have nd := scPen.nd
  refine ⟨_, pss_one (ps_ret (pe_lst (pa_cons (pe_callTy call_list_of (by rfl) ml (by decide +kernel) (pa_cons (pe_slice sl_list (pv 0) po_none (po_some pe_int)) pa_nil)) (pa_cons pe_int (pa_cons pe_int pa_nil))))), ?_⟩
  refine ⟨_, rfl, _, rfl, a, _, rfl, ha, fun b nb => ?_⟩
  rw [cut_all _ (by rw [List.length_map]; exact hn)]
  have s1 := new_same (o := .lst (ns.map V.int)) nb
  refine ⟨b, _, rfl, .inl (SqL.of upd_same), fun c nc => ?_⟩
  have s2 := s1.trans (new_same (o := .lst (ns.map V.int)) nc)
  refine ⟨(by show 3 ≤ sizeLine; decide), fun l nl => ?_⟩
  have s3 := s2.trans (new_same (o := .lst [.ref c, .int 0, .int 0]) nl)
  have ncl : c ≠ l := fun e => by rw [← e, upd_same] at nl; cases nl
  exact q l c _ s3 (s2.free nl) (s1.free nc) ⟨ns, 0, 0, upd_same, by rw [upd_ne ncl]; exact upd_same, hn, by omega, by omega⟩
theorem ok_draw (F : Fun K "_law_draw" "_law_draw" sDraw f fd) (mn : mg "len" = none) (ma : mg "abs" = none) (mi : mg "int" = none) : FnOk P w K mg base CX0 1 f fd ["_law_pen_here", "_law_many"] spDraw := by
  refine F.ok scDraw (fun vs H Q E h => ?_) (fun cdv A outer s H vs Q E hr h => ?_)
  · obtain ⟨l, c, m, S, rfl, _⟩ := h
    rfl
  obtain ⟨l, c, m, S, rfl, hP, m0, m1, hS, q⟩ := h
  have nlc := hP.apart
  obtain ⟨ns, t, ov, el, ec, hn, t0, t1⟩ := hP
  have nd := scDraw.nd
  have zl : sizeLine = 16777216 := rfl
  refine ⟨_, pss_cons (ps_if (pt_cmpR op_gt (pe_ix ix_list (pv 0) pe_int (fun _ _ => rfl)) pe_int (nomark _))
      (pss_cons (ps_set (i := 2) nd rfl (.inl rfl) (pe_op op_modN (pe_ix ix_list (pv 0) pe_int (fun _ _ => rfl)) (pv 1)))
      (pss_cons (ps_asg (pe_op op_fdivN (pe_ix ix_list (pv 0) pe_int (fun _ _ => rfl)) (pv 1)) (pg_sub (pv 0) pe_int set_list))
      (pss_one (ps_ret (pv 2))))) pss_nil)
    (pss_cons (ps_set (i := 3) nd rfl (.inl rfl) (pe_ix ix_list (pv 0) pe_int (fun _ _ => rfl)))
    (C8.pss_cut (ps_asg (pe_op op_add (pv 3) pe_int) (pg_sub (pv 0) pe_int set_list))
    (pss_cons (ps_set (i := 4) nd rfl (.inl rfl) (pe_op op_add (pe_op op_mul pe_int (pv 3)) pe_int))
    (C8.pss_cut (ps_if (pt_cmpR (op_neL0 hr.units0) (pe_ix ix_list (pv 0) pe_int (fun _ _ => rfl)) (pe_lst pa_nil) (nomark _))
      (pss_one (ps_set (i := 4) nd rfl (.inl rfl) (pe_ix ix_list (pe_ix ix_list (pv 0) pe_int (fun _ _ => rfl)) (pe_op op_modN (pv 3) (pe_callB call_len_seq (by rfl) mn PySem.boot_len (pa_cons (pe_ix ix_list (pv 0) pe_int (fun _ _ => rfl)) pa_nil))) (fun _ _ => rfl)))) pss_nil)
    (C8.pss_cut (ps_if (PW.pt (pw_and (pt_cmpR op_lt (pv 3) (pe_callB call_len_seq (by rfl) mn PySem.boot_len (pa_cons (pe_ix ix_list (pv 0) pe_int (fun _ _ => rfl)) pa_nil)) (nomark _))
        (pw_and1 (pt_cmpR op_ge (pe_callB call_abs (by rfl) ma (by decide +kernel) (pa_cons (pv 4) pa_nil)) (pe_op op_pow pe_int pe_int) (nomark _)))))
      (pss_cons (ps_set (i := 5) nd rfl (.inl rfl) (pe_op op_add (pe_op op_mul pe_int (pe_callB call_abs (by rfl) ma (by decide +kernel) (pa_cons (pv 4) pa_nil))) (pe_callTy call_int1 (by rfl) mi (by decide +kernel) (pa_cons (pe_cmpR op_lt (pv 4) pe_int (nomark _)) pa_nil))))
      (pss_cons (ps_asg (pe_op op_fdivN (pv 5) (pv 1)) (pg_sub (pv 0) pe_int set_list))
      (pss_one (ps_ret (pe_op op_modN (pv 5) (pv 1)))))) pss_nil)
    (C8.pss_cut (ps_set (i := 6) nd rfl (.inl rfl) (pe_op op_modN (pe_op op_pow (pe_op op_add (pe_op op_add (pe_op op_add (pe_op op_modN (pv 4) pe_int) (pe_op op_mul (pe_op op_mul pe_int (pv 3)) (pv 3))) (pe_op op_mul pe_int (pv 3))) pe_int) pe_int) pe_int))
    (C8.pss_cut (ps_set (i := 6) nd rfl (.inl rfl) (pe_op op_modN (pe_op op_pow (pe_op op_add (pe_op op_add (pe_op op_mul (pv 6) (pe_op op_add (pv 3) pe_int)) (pe_op op_mul pe_int (pv 3))) pe_int) pe_int) pe_int))
    (pss_one (ps_ret (pe_op op_modN (pe_op op_fdivN (pv 6) pe_int) (pv 1))))))))))), ?_⟩
  have L : SqL K H l [.ref c, .int t, .int ov] := SqL.of el
  refine ⟨_, rfl, l, _, 2, _, rfl, rfl, L, atI_nat (j := 2) rfl, _, _, rfl, rfl, _, rfl, ite2 (fun e => ?_) (fun e => ?_)⟩
  · refine ⟨_, rfl, l, _, 2, _, rfl, rfl, L, atI_nat (j := 2) rfl, _, rfl, _, _, rfl, rfl, by omega, ?_⟩
    refine ⟨_, rfl, l, _, 2, _, rfl, rfl, L, atI_nat (j := 2) rfl, _, rfl, _, _, rfl, rfl, ⟨by omega, by omega⟩, ?_⟩
    refine ⟨_, rfl, l, _, 2, 2, rfl, rfl, el, rfl, ?_⟩
    refine ⟨_, rfl, ?_⟩
    obtain ⟨r0, r1⟩ := fmod_in ov m0
    exact q _ _ r0 r1 ⟨ns, t, _, upd_same, by rw [upd_ne nlc.symm]; exact ec, hn, t0, by omega⟩ .at
  refine ⟨_, rfl, l, _, 1, _, rfl, rfl, L, atI_nat (j := 1) rfl, ?_⟩
  refine ⟨fun σ' H' => H' l = some (.lst [.ref c, .int (t + 1), .int ov]) ∧ H' c = some (.lst (ns.map V.int)) ∧ Ex1 l H H' ∧ σ' = [some (.ref l), some (.int m), none, some (.int t), none, none, none], ?_, ?_⟩
  · refine ⟨_, rfl, _, _, rfl, rfl, _, rfl, l, _, 1, 1, rfl, rfl, el, rfl, ?_⟩
    exact ⟨upd_same, by rw [upd_ne nlc.symm]; exact ec, .at, rfl⟩
  rintro σ2 H2 ⟨el2, ec2, x2, rfl⟩
  refine ⟨_, rfl, _, _, rfl, rfl, .inl ⟨by decide, by decide⟩, _, _, rfl, rfl, ?_⟩
  refine ⟨fun σ' H' => Same H2 H' ∧ ∃ v : Int, σ' = [some (.ref l), some (.int m), none, some (.int t), some (.int v), none, none], ?_, ?_⟩
  · refine ⟨_, rfl, l, _, 0, _, rfl, rfl, SqL.of el2, atI_nat (j := 0) rfl, (by show 0 ≤ sizeLine; decide), fun b nb => ?_⟩
    have s3 := new_same (o := .lst []) nb
    refine ⟨c, b, _, rfl, rfl, SqL.of (s3 _ _ ec2), SqL.of upd_same, _, rfl, ite2 (fun e => ?_) (fun e => ?_)⟩
    · have e : (!(ns.map V.int).isEmpty) = true := e
      have pos : 0 < ns.length := by
        cases ns with
        | nil => cases e
        | cons x r => simp
      obtain ⟨i0, i1⟩ := fmod_in t (b := ((ns.length : Nat) : Int)) (by omega)
      obtain ⟨v, hv, ev⟩ := at_list (f := V.int) (xs := ns) i0 i1
      refine ⟨_, rfl, l, _, 0, _, rfl, rfl, SqL.of (s3 _ _ el2), atI_nat (j := 0) rfl, _, rfl, _, rfl, l, _, 0, _, rfl, rfl, SqL.of (s3 _ _ el2), atI_nat (j := 0) rfl, c, _, rfl, .inl (SqL.of (s3 _ _ ec2)), _, _, rfl, rfl, by rw [List.length_map]; omega, ?_⟩
      refine ⟨c, _, _, .int v, rfl, rfl, SqL.of (s3 _ _ ec2), by rw [List.length_map]; exact ev, ?_⟩
      exact ⟨s3, v, rfl⟩
    · exact ⟨s3, _, rfl⟩
  rintro σ3 H3 ⟨s3, v, rfl⟩
  have el3 := s3 _ _ el2
  have ec3 := s3 _ _ ec2
  have x3 : Ex1 l H H3 := x2.trans (ex1_of_same s3)
  refine ⟨fun σ' H' => H' = H3 ∧ σ' = [some (.ref l), some (.int m), none, some (.int t), some (.int v), none, none], ?_, ?_⟩
  · refine ⟨_, rfl, _, rfl, l, _, 0, _, rfl, rfl, SqL.of el3, atI_nat (j := 0) rfl, c, _, rfl, .inl (SqL.of ec3), _, _, rfl, rfl, _, rfl, ite2 (fun e => ?_) (fun e => ?_)⟩
    · refine ⟨_, rfl, _, rfl, 10, 18, rfl, rfl, ⟨by decide, by decide, by decide⟩, _, _, rfl, rfl, _, rfl, ite2 (fun e => ?_) (fun e => ?_)⟩
      · refine ⟨_, rfl, _, rfl, _, _, rfl, rfl, .inl ⟨by decide, by decide⟩, _, rfl, _, _, rfl, rfl, .inr ⟨_, rfl, _, _, rfl, rfl, ?_⟩⟩
        refine ⟨_, rfl, _, rfl, _, _, rfl, rfl, ⟨by omega, by omega⟩, _, rfl, l, _, 2, 2, rfl, rfl, el3, rfl, ?_⟩
        refine ⟨_, rfl, _, rfl, _, _, rfl, rfl, by omega, ?_⟩
        exact q _ _ (fmod_in _ m0).1 (fmod_in _ m0).2 ⟨ns, t + 1, _, upd_same, by rw [upd_ne nlc.symm]; exact ec3, hn, by omega, by omega⟩ (x3.trans .at)
      · exact ⟨rfl, rfl⟩
    · exact ⟨rfl, rfl⟩
  rintro σ4 H4 ⟨rfl, rfl⟩
  obtain ⟨a0, a1⟩ := fmod_in v (b := 2147483579) (by omega)
  obtain ⟨q0, q1⟩ := sq_le t0 (show t ≤ 100000 by omega)
  have e40 : 47017 * t * t = 47017 * (t * t) := Int.mul_assoc ..
  generalize hx0 : v.fmod 2147483579 = x0 at a0 a1
  refine ⟨fun σ' H' => H' = H4 ∧ ∃ x : Int, 0 ≤ x ∧ x < 2147483647 ∧ σ' = [some (.ref l), some (.int m), none, some (.int t), some (.int v), none, some (.int x)], ?_, ?_⟩
  · refine ⟨_, rfl, _, _, rfl, rfl, by omega, _, rfl, _, _, rfl, rfl, .inl ⟨by decide, by decide⟩, _, rfl, _, _, rfl, rfl, .inr ⟨by omega, by omega⟩, _, _, rfl, rfl, _, rfl, _, _, rfl, rfl, .inl ⟨by decide, by decide⟩, _, _, rfl, rfl, _, _, rfl, rfl,
      _, _, rfl, rfl, ⟨by decide, by decide, by rw [hx0, e40]; omega⟩, _, _, rfl, rfl, by omega, ?_⟩
    exact ⟨rfl, _, (fmod_in _ (by omega)).1, (fmod_in _ (by omega)).2, rfl⟩
  rintro σ5 H5 ⟨rfl, x1, b0, b1, rfl⟩
  obtain ⟨c0, c1⟩ := mul_le b0 (show x1 ≤ 2147483647 by omega) (show 0 ≤ t + 16807 by omega) (show t + 16807 ≤ 116807 by omega)
  refine ⟨fun σ' H' => H' = H5 ∧ ∃ x : Int, 0 ≤ x ∧ x < 2147483587 ∧ σ' = [some (.ref l), some (.int m), none, some (.int t), some (.int v), none, some (.int x)], ?_, ?_⟩
  · refine ⟨_, rfl, _, rfl, _, _, rfl, rfl, _, _, rfl, rfl, .inl ⟨by omega, by omega⟩, _, rfl, _, _, rfl, rfl, .inl ⟨by decide, by decide⟩, _, _, rfl, rfl, _, _, rfl, rfl, _, _, rfl, rfl, ⟨by decide, by decide, by omega⟩, _, _, rfl, rfl, by omega, ?_⟩
    exact ⟨rfl, _, (fmod_in _ (by omega)).1, (fmod_in _ (by omega)).2, rfl⟩
  rintro σ6 H6 ⟨rfl, x2', d0, d1, rfl⟩
  refine ⟨_, rfl, _, _, rfl, rfl, ⟨by omega, by omega⟩, _, rfl, _, _, rfl, rfl, by omega, ?_⟩
  exact q _ _ (fmod_in _ m0).1 (fmod_in _ m0).2 ⟨ns, t + 1, ov, el3, ec3, hn, by omega, by omega⟩ x3
end
end K42
end

section
set_option Elab.async false
set_option linter.all false
set_option maxRecDepth 100000
set_option maxHeartbeats 4000000
namespace K42
open PySem PySem.Spec PyProof.Rows L2 Gd LamX
abbrev sHeard : Stmt := topS 15
abbrev nHeard : List Str := ["_law_ask", "_law_caught", "_law_found", "e", "_law_words"]
theorem scHeard : FnScope nHeard ["_law_ask"] (defScope sHeard) := ⟨rfl, rfl, rfl, by decide +kernel, rfl, by decide +kernel, by decide +kernel⟩
/-- the classes of exceptions: Done, NotDone, NoRoom, Busy, NoDeed, NoStand, PlanError -/
structure Cls42 (K : PySem.W.Frag) (mg : Str → Option Value) (cs : Nat → Addr) : Prop where
  g0 : mg "Done" = some (.ref (cs 0))
  g1 : mg "NotDone" = some (.ref (cs 1))
  g2 : mg "NoRoom" = some (.ref (cs 2))
  g3 : mg "Busy" = some (.ref (cs 3))
  g4 : mg "NoDeed" = some (.ref (cs 4))
  g5 : mg "NoStand" = some (.ref (cs 5))
  g6 : mg "PlanError" = some (.ref (cs 6))
  inj : ∀ i j, i < 7 → j < 7 → cs i = cs j → i = j
  ev : ∀ i, i < 7 → EvC K (cs i)
  ty : ∀ i, i < 7 → ((PySem.W.clsIn K (cs i)).isSome && PySem.W.typeIn K (.ref (cs i)) == some (.type "type")) = true
  mro : ∀ i, i < 6 → ∃ cd, PySem.W.clsIn K (cs i) = some cd ∧ cd.mro = [.ref (cs i), .ref (cs 6), .type "ValueError", .type "Exception", .type "BaseException", .type "object"]
  vb : EvB K
  isi : mg "isinstance" = none
section
variable {K : PySem.W.Frag} {mg : Str → Option Value} {cs : Nat → Addr}
theorem kit_self (C : Addr) : PySem.W.kitOne K (.ref C) (.ref C) = some true := by
  unfold PySem.W.kitOne
  rw [if_pos (by simp)]
theorem sub_by {C : Addr} {cd : ClassData} {b : Value} (h : PySem.W.clsIn K C = some cd) (ne : cd.mro.isEmpty = false) :
    PySem.W.subIn K (.ref C) b = some (cd.mro.contains b) := by
  show PySem.W.mroIn K C b = _
  unfold PySem.W.mroIn
  rw [h, Option.bind_some, if_neg (by rw [ne]; decide)]
theorem kit_ref {C D : Addr} {cd : ClassData} (h : PySem.W.clsIn K C = some cd) (ne : cd.mro.isEmpty = false)
    (t : ((PySem.W.clsIn K D).isSome && PySem.W.typeIn K (.ref D) == some (.type "type")) = true) (n : C ≠ D) :
    PySem.W.kitOne K (.ref C) (.ref D) = some (cd.mro.contains (.ref D)) := by
  unfold PySem.W.kitOne
  rw [if_neg (by simpa using n)]
  show (if ((PySem.W.clsIn K D).isSome && PySem.W.typeIn K (.ref D) == some (.type "type")) = true then PySem.W.subIn K (.ref C) (.ref D) else none) = _
  rw [if_pos t]
  exact sub_by h ne
theorem kit_type {C : Addr} {T : String} {b : Bool} (h : PySem.W.subIn K (.ref C) (.type T) = some b) (m : PySem.W.kitMeta T = true) :
    PySem.W.kitOne K (.ref C) (.type T) = some b := by
  unfold PySem.W.kitOne
  rw [if_neg (by simp)]
  show (if PySem.W.kitMeta T = true then PySem.W.subIn K (.ref C) (.type T) else none) = _
  rw [if_pos m, h]
theorem Cls42.typ (T : Cls42 K mg cs) {i : Nat} (hi : i < 7) : PySem.W.typeIn K (.ref (cs i)) = some (.type "type") := by
  have h := T.ty i hi
  simp only [Bool.and_eq_true] at h
  exact eq_of_beq h.2
theorem Cls42.kit (T : Cls42 K mg cs) {i j : Nat} (hi : i < 6) (hj : j < 6) : PySem.W.kitOne K (.ref (cs i)) (.ref (cs j)) = some (decide (i = j)) := by
  by_cases e : i = j
  · subst e
    rw [kit_self]
    simp
  have n : cs i ≠ cs j := fun z => e (T.inj i j (by omega) (by omega) z)
  have n6 : cs 6 ≠ cs j := fun z => by
    have := T.inj 6 j (by omega) (by omega) z
    omega
  obtain ⟨cd, h1, h2⟩ := T.mro i hi
  rw [kit_ref h1 (by rw [h2] <;> rfl) (T.ty j (by omega)) n, h2]
  simp [e, n.symm, n6.symm]
theorem Cls42.kitV (T : Cls42 K mg cs) {i : Nat} (hi : i < 6) : PySem.W.kitOne K (.ref (cs i)) (.type "ValueError") = some true := by
  obtain ⟨cd, h1, h2⟩ := T.mro i hi
  refine kit_type ?_ (by decide +kernel)
  rw [sub_by h1 (by rw [h2] <;> rfl), h2]
  simp
theorem Cls42.plan (T : Cls42 K mg cs) {i : Nat} (hi : i < 6) : PySem.W.exmOne K (.ref (cs i)) (.ref (cs 6)) = some true := by
  have e6 := T.ev 6 (by decide)
  obtain ⟨cd, h1, h2⟩ := T.mro i hi
  refine PySem.W.exm_ref e6.sub e6.hd (T.typ (by decide)) ?_
  rw [sub_by h1 (by rw [h2]; rfl), h2]
  simp
end
def told3 (i : Nat) : Str := if i = 0 then "done" else if i = 1 then "not done" else "no room"
/-- heard(lambda: ..), the lambda's body raising one of the three on every way -/
def THeard (K : PySem.W.Frag) (cs : Nat → Addr) : (XK → Hp → VK → Prop) → Hp → VK → Prop := fun tl H Q =>
  ∃ i, i < 3 ∧ ∀ Qn : VK, tl (fun cls d H' => cls = .ref (cs i) ∧ d = none ∧ ∀ H'', Same H' H'' → Q (.str (told3 i)) H'') H Qn
section
variable {X : Cx} {cs : Nat → Addr}
theorem pss_by {XX : Cx} {st : List Stmt} {t u : TS} (h : PSs XX st t) (i : ∀ D σ H, u D σ H → t D σ H) : PSs XX st u := ⟨fun pins s σ H D I q => h.run pins s σ H D I (i _ _ _ q)⟩
/-- the statements behind the try -/
def tsRest (K : PySem.W.Frag) (cs : Nat → Addr) (a : Addr) (cls : Value) (d : Option Addr) : TS := fun D σ H => ∃ i, i < 3 ∧ cls = .ref (cs i) ∧ d = none ∧ σ.length = 5 ∧ σ[1]? = some (some (.ref a)) ∧ ∀ H', Same H H' → D.rt (.str (told3 i)) H'
theorem rest_ok {g : Addr} {cdg : Value} {s : Shared} {H : Hp} (T : Cls42 X.K X.mg cs) (ms : X.mg "sum" = none) (mv : X.mg "ValueError" = none) (a : Addr) (oe : Obj) (cls : Value) (d : Option Addr) (pn : List (Addr × Obj)) (hz : Zc cls d oe) (hd : ∃ vs, oe.data = .fields vs)
    {XX : Cx} (eX : XX = (cxOf C8.CX0 X.prog X.w X.K X.mg X.base nHeard "_law_heard" (defScope sHeard) g cdg X.A X.stack s H C8.E0).nox) :
    PSs (XX.tr ((a, oe) :: pn) XX.xe) ((defBody sHeard).drop 2) (tsRest X.K cs a cls d) := by
  have nd := scHeard.nd
  have hu : (XX.tr ((a, oe) :: pn) XX.xe).calm = true := by rw [eX]; rfl
  have mem : (a, oe) ∈ (XX.tr ((a, oe) :: pn) XX.xe).pn := List.mem_cons_self
  have isP := call_isP mem hz hd
  subst eX
  refine pss_by (t := _) (pss_cons (ps_if (pt_cmpR op_isN (pv 1) pe_non (nomark _)) pss_never pss_nil)
    (pss_cons (ps_set (i := 4) nd rfl (.inl rfl) (pe_lst (pa_cons (pe_callB isP (by rfl) T.isi (by decide +kernel) (pa_cons (pv 1) (pa_cons (pe_glob (v := .ref (cs 0)) (by rfl) T.g0 rfl) pa_nil)))
        (pa_cons (pe_callB isP (by rfl) T.isi (by decide +kernel) (pa_cons (pv 1) (pa_cons (pe_glob (v := .ref (cs 1)) (by rfl) T.g1 rfl) pa_nil)))
        (pa_cons (pe_callB isP (by rfl) T.isi (by decide +kernel) (pa_cons (pv 1) (pa_cons (pe_glob (v := .ref (cs 2)) (by rfl) T.g2 rfl) pa_nil))) pa_nil)))))
    (pss_cons (ps_if (PW.pt (pw_or (pt_not (pt_val (pe_callB isP (by rfl) T.isi (by decide +kernel) (pa_cons (pv 1) (pa_cons (pe_bltn (v := .ty "ValueError") (by rfl) mv (by decide +kernel) rfl) pa_nil)))))
        (pw_or (pt_val (pe_callB isP (by rfl) T.isi (by decide +kernel) (pa_cons (pv 1) (pa_cons (pe_tup (pa_cons (pe_glob (v := .ref (cs 3)) (by rfl) T.g3 rfl) (pa_cons (pe_glob (v := .ref (cs 4)) (by rfl) T.g4 rfl) (pa_cons (pe_glob (v := .ref (cs 5)) (by rfl) T.g5 rfl) pa_nil)))) pa_nil))))
        (pw_or1 (pt_cmpR op_ne (pe_callB (call_sumB rfl) (by rfl) ms (by decide +kernel) (pa_cons (pv 4) pa_nil)) pe_int (nomark _)))))) pss_never pss_nil)
    (pss_one (ps_ret (pe_ix ix_list (pe_lst (pa_cons pe_str (pa_cons pe_str (pa_cons pe_str pa_nil)))) (pe_bm PySem.F.plainAttrs_list PySem.F.slot_list_index PySem.F.type_list_index mt_index (pv 4) (pa_cons pe_bl pa_nil)) (fun _ _ => rfl))))))) ?_
  rintro D σ H ⟨i, hi, rfl, rfl, len, e1, q⟩
  have ei := T.ev i (by omega)
  refine ⟨.ref a, e1, rfl, _, rfl, iteF ?_⟩
  refine ⟨.ref a, e1, cs i, _, rfl, rfl, ei, T.vb, .inl ⟨_, _, rfl, .own _, T.kit (j := 0) (by omega) (by omega)⟩, ?_⟩
  refine ⟨.ref a, e1, cs i, _, rfl, rfl, ei, T.vb, .inl ⟨_, _, rfl, .own _, T.kit (j := 1) (by omega) (by omega)⟩, ?_⟩
  refine ⟨.ref a, e1, cs i, _, rfl, rfl, ei, T.vb, .inl ⟨_, _, rfl, .own _, T.kit (j := 2) (by omega) (by omega)⟩, ?_⟩
  refine ⟨(by show 3 ≤ sizeLine; decide), fun L nL => ?_⟩
  have jL := new_same (o := .lst [.bl (decide (i = 0)), .bl (decide (i = 1)), .bl (decide (i = 2))]) nL
  have eL : upd H L (.lst [.bl (decide (i = 0)), .bl (decide (i = 1)), .bl (decide (i = 2))]) L = some (.lst [.bl (decide (i = 0)), .bl (decide (i = 1)), .bl (decide (i = 2))]) := upd_same
  generalize upd H L (.lst [.bl (decide (i = 0)), .bl (decide (i = 1)), .bl (decide (i = 2))]) = H1 at jL eL ⊢
  have t1 : (σ.set 4 (some (.ref L)))[1]? = some (some (.ref a)) := by rw [List.getElem?_set_ne (by decide)]; exact e1
  have t4 : (σ.set 4 (some (.ref L)))[4]? = some (some (.ref L)) := by rw [List.getElem?_set_self (by omega)]
  refine ⟨.ref a, t1, cs i, _, rfl, rfl, ei, T.vb, .inl ⟨_, _, rfl, .ty _, T.kitV (by omega)⟩, ⟨_, rfl, iteF ?_⟩⟩
  refine ⟨.ref a, t1, (by show 3 ≤ sizeLine; decide), fun tp ntp => ?_⟩
  have jt := new_same (o := .tup [.ref (cs 3), .ref (cs 4), .ref (cs 5)]) ntp
  have any : PySem.W.kitAny X.K (.ref (cs i)) [.ref (cs 3), .ref (cs 4), .ref (cs 5)] = some false := by
    have k3 := T.kit (i := i) (j := 3) (by omega) (by omega)
    have k4 := T.kit (i := i) (j := 4) (by omega) (by omega)
    have k5 := T.kit (i := i) (j := 5) (by omega) (by omega)
    rw [decide_eq_false (by omega)] at k3 k4 k5
    simp only [PySem.W.kitAny, k3, k4, k5]
  refine ⟨cs i, _, rfl, rfl, ei, T.vb, .inr ⟨tp, _, _, rfl, upd_same, .cons (.own _) (.cons (.own _) (.cons (.own _) .nil)), any⟩, ⟨_, rfl, iteF ?_⟩⟩
  have eL2 := jt _ _ eL
  generalize upd H1 tp (.tup [.ref (cs 3), .ref (cs 4), .ref (cs 5)]) = H2 at jt eL2 ⊢
  have cnt : ([decide (i = 0), decide (i = 1), decide (i = 2)] : List Bool).count true = 1 := by
    have : i = 0 ∨ i = 1 ∨ i = 2 := by omega
    rcases this with rfl | rfl | rfl <;> decide
  refine ⟨.ref L, t4, L, [decide (i = 0), decide (i = 1), decide (i = 2)], rfl, SqL.of eL2, ?_⟩
  rw [cnt]
  refine ⟨rfl, _, rfl, iteF ?_⟩
  refine ⟨(by show 3 ≤ sizeLine; decide), fun M nM => ?_⟩
  have jM := new_same (o := .lst [.str "done", .str "not done", .str "no room"]) nM
  refine ⟨.ref L, t4, .inl ⟨rfl, _, SqL.of (jM _ _ eL2)⟩, L, [.bl (decide (i = 0)), .bl (decide (i = 1)), .bl (decide (i = 2))], .bl true, i, .bl true, rfl, rfl, SqL.of (jM _ _ eL2), rfl, rfl, ?_, rfl, ?_, ?_⟩
  · have : i = 0 ∨ i = 1 ∨ i = 2 := by omega
    rcases this with rfl | rfl | rfl <;> rfl
  · intro m z hm hz
    have : i = 0 ∨ i = 1 ∨ i = 2 := by omega
    rcases this with rfl | rfl | rfl
    · omega
    · obtain rfl : m = 0 := by omega
      cases hz
      rfl
    · have : m = 0 ∨ m = 1 := by omega
      rcases this with rfl | rfl <;> cases hz <;> rfl
  · refine ⟨M, _, _, .str (told3 i), rfl, rfl, SqL.of upd_same, ?_, q _ ((jL.trans jt).trans jM)⟩
    have : i = 0 ∨ i = 1 ∨ i = 2 := by omega
    rcases this with rfl | rfl | rfl
    · exact atI_nat (j := 0) rfl
    · exact atI_nat (j := 1) rfl
    · exact atI_nat (j := 2) rfl
theorem heard_gives {g : Addr} {q : Str} {cdg : Value} (T : Cls42 X.K X.mg cs) (ms : X.mg "sum" = none) (mv : X.mg "ValueError" = none) : GivesTo X nHeard "_law_heard" (defScope sHeard) g cdg (defBody sHeard) "_law_ask" q (THeard X.K cs) := by
  intro f c' s H Q tl act hc h
  obtain ⟨i, hi, h⟩ := h
  have nd := scHeard.nd
  refine ⟨_, pss_cons (ps_set (i := 1) nd rfl (.inl rfl) pe_non)
    (pss_keep (X := (cxOf C8.CX0 X.prog X.w X.K X.mg X.base nHeard "_law_heard" (defScope sHeard) g cdg X.A X.stack s H C8.E0).nox) (i := 3) (c := .ref (cs 6))
      (tb := fun W D σ H => ∃ Ech : XK, (∀ cls d σ' H', Ech cls d H' → W cls d σ' H') ∧ σ[0]? = some (some (.ref f)) ∧ H c' = some (CodeO c' q) ∧ ∀ Qn : VK, tl Ech H Qn)
      (ts := fun a cls d => tAsg (tVar 3) (gName 1)) (tr := tsRest X.K cs)
      rfl rfl nd rfl rfl ⟨rfl, by decide, .inl T.g6⟩ (fun W pn xe tk _ => ?_) (fun a oe cls d pn _ _ => pss_one (ps_set (i := 1) nd rfl (.inl rfl) (pv 3))) (fun a oe cls d pn hz hd => rest_ok T ms mv a oe cls d pn hz hd rfl)), ?_⟩
  · refine ⟨fun pins s' σ H' D I h' => ?_⟩
    obtain ⟨Ech, hW, h1, h2, h3⟩ := h'
    exact PSs.run (pss_one (ps_set (i := 2) nd rfl (.inl rfl) (pe_lst (pa_cons (act W pn xe Ech _ _ tk hW) pa_nil)))) pins s' σ H' D I ⟨h1, h2, h3 _⟩
  · refine ⟨fun cls d H' => cls = .ref (cs i) ∧ d = none ∧ ∀ H'', Same H' H'' → Q (.str (told3 i)) H'', fun cls d σ' H' hcd => ?_, rfl, hc, h⟩
    obtain ⟨rfl, rfl, hq⟩ := hcd
    refine ⟨T.plan (by omega), fun len a na => ?_⟩
    have len : σ'.length = 5 := len
    refine ⟨.ref a, ?_, i, hi, rfl, rfl, by simp [len], ?_, hq⟩
    · rw [List.getElem?_set_self (by omega)]
    · rw [List.getElem?_set_ne (by decide), List.getElem?_set_self (by rw [List.length_set]; omega)]
end
end K42
end

section
set_option Elab.async false
set_option linter.all false
set_option maxRecDepth 100000
set_option maxHeartbeats 4000000
namespace K42
open PySem PySem.Spec PyProof.Rows L2 Gd
abbrev sInit : Stmt := inClass (topS 10) 0
abbrev sPut : Stmt := inClass (topS 10) 1
abbrev sEmp : Stmt := inClass (topS 10) 2
abbrev sAdd : Stmt := inClass (topS 10) 3
abbrev sFin : Stmt := inClass (topS 10) 6
abbrev sMrg : Stmt := inClass (topS 10) 7
abbrev sLots : Stmt := inClass (topS 10) 8
abbrev sSteps : Stmt := inClass (topS 10) 9
abbrev sHand : Stmt := inClass (topS 10) 10
abbrev sTold : Stmt := inClass (topS 10) 13
theorem scInit : FnScope ["self", "hand"] ["self", "hand"] (defScope sInit) := ⟨rfl, rfl, rfl, by decide +kernel, rfl, by decide +kernel, by decide +kernel⟩
theorem scPut : FnScope ["self", "row"] ["self", "row"] (defScope sPut) := ⟨rfl, rfl, rfl, by decide +kernel, rfl, by decide +kernel, by decide +kernel⟩
theorem scEmp : FnScope ["self"] ["self"] (defScope sEmp) := ⟨rfl, rfl, rfl, by decide +kernel, rfl, by decide +kernel, by decide +kernel⟩
theorem scAdd : FnScope ["self", "rows"] ["self", "rows"] (defScope sAdd) := ⟨rfl, rfl, rfl, by decide +kernel, rfl, by decide +kernel, by decide +kernel⟩
theorem scFin : FnScope ["self"] ["self"] (defScope sFin) := ⟨rfl, rfl, rfl, by decide +kernel, rfl, by decide +kernel, by decide +kernel⟩
abbrev nMrg : List Str := ["self", "many", "merged", "lot", "row"]
theorem scMrg : FnScope nMrg ["self"] (defScope sMrg) := ⟨rfl, rfl, rfl, by decide +kernel, rfl, by decide +kernel, by decide +kernel⟩
theorem scLots : FnScope ["self"] ["self"] (defScope sLots) := ⟨rfl, rfl, rfl, by decide +kernel, rfl, by decide +kernel, by decide +kernel⟩
theorem scSteps : FnScope ["self"] ["self"] (defScope sSteps) := ⟨rfl, rfl, rfl, by decide +kernel, rfl, by decide +kernel, by decide +kernel⟩
theorem scHand : FnScope ["self"] ["self"] (defScope sHand) := ⟨rfl, rfl, rfl, by decide +kernel, rfl, by decide +kernel, by decide +kernel⟩
abbrev nTold : List Str := ["self", "lot", "row"]
theorem scTold : FnScope nTold ["self"] (defScope sTold) := ⟨rfl, rfl, rfl, by decide +kernel, rfl, by decide +kernel, by decide +kernel⟩

/-! ### what a pile is -/
structure Pi where
  m : Int
  rows : List PyData
  lots : List (List PyData)
  s : Int
  e : Bool
def Pi.addLot (x : Pi) (r : List PyData) : Pi := { x with lots := x.lots ++ [told r], s := x.s + (r.length : Int) }
def Pi.flush (x : Pi) : Pi := if x.rows.length = 0 then x else { x.addLot x.rows with rows := [] }
def Pi.put (x : Pi) (d : PyData) : Pi := let y := if x.m ≤ (x.rows.length : Int) then x.flush else x; { y with rows := y.rows ++ [d] }
def Pi.fin (x : Pi) : Pi := { x.flush with e := true }
def Pi.many (x : Pi) : Int := if x.m > 2 then x.m else 2
def Pi.merge (x : Pi) : Pi := ({ x with lots := x.lots.drop x.many.toNat }).addLot (x.lots.take x.many.toNat).flatten
structure RowsOk (ds : List PyData) : Prop where
  al : PySem.W.AllAlike ds
  tu : ∀ d ∈ ds, ∃ xs, d = .tuple xs
  len : ds.length ≤ 4000
  dep : ∀ d ∈ ds, d.depth ≤ 50
def pf (m : Int) (r l : Addr) (s : Int) (e : Bool) : List (Str × V) := [("_most", .int m), ("_rows", .ref r), ("_lots", .ref l), ("_steps", .int s), ("_ended", .bl e)]
section
variable {m : Int} {r l : Addr} {s : Int} {e : Bool}
theorem pf_most : (pf m r l s e).lookup ("_most" : Str) = some (.int m) := by rfl
theorem pf_rows : (pf m r l s e).lookup ("_rows" : Str) = some (.ref r) := by rfl
theorem pf_lots : (pf m r l s e).lookup ("_lots" : Str) = some (.ref l) := by rfl
theorem pf_steps : (pf m r l s e).lookup ("_steps" : Str) = some (.int s) := by rfl
theorem pf_ended : (pf m r l s e).lookup ("_ended" : Str) = some (.bl e) := by rfl
theorem put_rows (x : Addr) : putF "_rows" (.ref x) (pf m r l s e) = pf m x l s e := by rfl
theorem put_lots (x : Addr) : putF "_lots" (.ref x) (pf m r l s e) = pf m r x s e := by rfl
theorem put_steps (x : Int) : putF "_steps" (.int x) (pf m r l s e) = pf m r l x e := by rfl
theorem put_ended (x : Bool) : putF "_ended" (.bl x) (pf m r l s e) = pf m r l s x := by rfl
theorem pf_no {n : Str} (h : (["_most", "_rows", "_lots", "_steps", "_ended"] : List Str).contains n = false) : (pf m r l s e).lookup n = none := by
  simp only [List.contains_cons, Bool.or_eq_false_iff, List.contains_nil] at h
  unfold pf
  simp [List.lookup, h]
end
def LotsAt (K : PySem.W.Frag) (D H0 H : Hp) (r l : Addr) : List V → List (List PyData) → Prop := PySem.W.EachIs fun v lot => ∃ a vs, v = .ref a ∧ H0 a = none ∧ a ≠ r ∧ a ≠ l ∧ H a = some (.lst vs) ∧ DpAll K D vs lot
/-- behind the heap H0 (all kept) a pile stands at p; its rows and lots show the data of x by the heap D -/
def PileAt (K : PySem.W.Frag) (C : Addr) (D H0 H : Hp) (p : Addr) (x : Pi) : Prop :=
  Same D H0 ∧ Same H0 H ∧ H0 p = none ∧ ∃ (dx r l : Addr) (vs ls : List V), H0 r = none ∧ H0 l = none ∧ r ≠ l ∧ H p = some (.ins C dx (pf x.m r l x.s x.e)) ∧ H r = some (.lst vs) ∧ DpAll K D vs x.rows ∧ H l = some (.lst ls) ∧ LotsAt K D H0 H r l ls x.lots
section
variable {K : PySem.W.Frag} {C : Addr} {D H0 H0' H H' : Hp} {p r l r' l' : Addr} {x : Pi}
theorem LotsAt.go {ls : List V} {lots : List (List PyData)} (h : LotsAt K D H0 H r l ls lots) (st : ∀ a vs, H0 a = none → a ≠ r → a ≠ l → H a = some (.lst vs) → H0' a = none ∧ H' a = some (.lst vs) ∧ a ≠ r' ∧ a ≠ l') : LotsAt K D H0' H' r' l' ls lots :=
  h.mono fun v lot ⟨a, vs, e, n0, n1, n2, hv, d⟩ => ⟨a, vs, e, (st a vs n0 n1 n2 hv).1, (st a vs n0 n1 n2 hv).2.2.1, (st a vs n0 n1 n2 hv).2.2.2, (st a vs n0 n1 n2 hv).2.1, d⟩
theorem each_dp : ∀ {vs : List V} {ds : List PyData}, DpAll K D vs ds → PySem.W.EachIs (fun v d => Dp K D v d) vs ds
  | _, _, .nil => .nil
  | _, _, .cons a b => .cons a (each_dp b)
theorem dp_each : ∀ {vs : List V} {ds : List PyData}, PySem.W.EachIs (fun v d => Dp K D v d) vs ds → DpAll K D vs ds
  | _, _, .nil => .nil
  | _, _, .cons a b => .cons a (dp_each b)
theorem ins_ne {o : HO} {q : Addr} {dx : Addr} {fs : List (Str × V)} (h : H p = some (.ins C dx fs)) (h2 : H q = some o) (n : ∀ C dx fs, o ≠ .ins C dx fs) : q ≠ p := fun e => by
  rw [e, h] at h2
  exact n _ _ _ (Option.some.inj h2).symm
/-- things that are kept elsewhere -/
theorem PileAt.same (h : PileAt K C D H0 H p x) (s : Same H H') : PileAt K C D H0 H' p x := by
  obtain ⟨a, b, c, dx, r, l, vs, ls, d, e, f, g, i, j, k, m⟩ := h
  exact ⟨a, b.trans s, c, dx, r, l, vs, ls, d, e, f, s _ _ g, s _ _ i, j, s _ _ k, m.go fun a vs n0 n1 n2 q => ⟨n0, s _ _ q, n1, n2⟩⟩
theorem PileAt.back {H1 : Hp} (h : PileAt K C D H1 H p x) (a : Same D H0) (s : Same H0 H1) : PileAt K C D H0 H p x := by
  obtain ⟨_, b, c, dx, r, l, vs, ls, d, e, f, g, i, j, k, m⟩ := h
  exact ⟨a, s.trans b, s.free c, dx, r, l, vs, ls, s.free d, s.free e, f, g, i, j, k, m.go fun a vs n0 n1 n2 q => ⟨s.free n0, q, n1, n2⟩⟩
end
def spInit (K : PySem.W.Frag) (C : Addr) : Sp := fun vs H Q _ => ∃ (D H0 : Hp) (p dx : Addr) (m : Int), vs = [.ref p, .int m] ∧ Same D H0 ∧ Same H0 H ∧ H0 p = none ∧ H p = some (.ins C dx []) ∧ ∀ H' : Hp, PileAt K C D H0 H' p ⟨m, [], [], 0, false⟩ → Q .non H'
def spAdd (K : PySem.W.Frag) (C : Addr) : Sp := fun vs H Q _ => ∃ (D H0 : Hp) (p b : Addr) (x : Pi) (us : List V) (ds : List PyData), vs = [.ref p, .ref b] ∧ PileAt K C D H0 H p x ∧ H b = some (.lst us) ∧ (∀ dx r l, H p = some (.ins C dx (pf x.m r l x.s x.e)) → b ≠ l) ∧ DpAll K D us ds ∧ RowsOk ds ∧ x.lots.length ≤ 4000 ∧ ∀ H' : Hp, PileAt K C D H0 H' p (x.addLot ds) → Q .non H'
def spEmp (K : PySem.W.Frag) (C : Addr) : Sp := fun vs H Q _ => ∃ (D H0 : Hp) (p : Addr) (x : Pi), vs = [.ref p] ∧ PileAt K C D H0 H p x ∧ RowsOk x.rows ∧ x.lots.length ≤ 4000 ∧ ∀ H' : Hp, PileAt K C D H0 H' p x.flush → Q .non H'
def spPut (K : PySem.W.Frag) (C : Addr) (cs : Nat → Addr) : Sp := fun vs H Q E => ∃ (D H0 : Hp) (p : Addr) (y : V) (d : PyData) (x : Pi), vs = [.ref p, y] ∧ PileAt K C D H0 H p x ∧ Dp K D y d ∧ RowsOk x.rows ∧ x.lots.length ≤ 4000 ∧
  (x.e = true → E (.ref (cs 0)) none H) ∧ (x.e = false → ∀ H' : Hp, PileAt K C D H0 H' p (x.put d) → Q .non H')
def spFin (K : PySem.W.Frag) (C : Addr) (cs : Nat → Addr) : Sp := fun vs H Q E => ∃ (D H0 : Hp) (p : Addr) (x : Pi), vs = [.ref p] ∧ PileAt K C D H0 H p x ∧ (x.e = true → E (.ref (cs 0)) none H) ∧
  (x.e = false → RowsOk x.rows ∧ x.lots.length ≤ 4000 ∧ ∀ H' : Hp, PileAt K C D H0 H' p x.fin → Q .non H')
def spMrg (K : PySem.W.Frag) (C : Addr) (cs : Nat → Addr) : Sp := fun vs H Q E => ∃ (D H0 : Hp) (p : Addr) (x : Pi), vs = [.ref p] ∧ PileAt K C D H0 H p x ∧ (x.e = false → E (.ref (cs 1)) none H) ∧ (x.e = true → (x.lots.length < 2 → E (.ref (cs 0)) none H) ∧
  (2 ≤ x.lots.length → x.lots.length ≤ 4000 ∧ RowsOk (x.lots.take x.many.toNat).flatten ∧ ∀ H' : Hp, PileAt K C D H0 H' p x.merge → Q .non H'))
def spLots (K : PySem.W.Frag) (C : Addr) : Sp := fun vs H Q _ => ∃ (D H0 : Hp) (p : Addr) (x : Pi), vs = [.ref p] ∧ PileAt K C D H0 H p x ∧ Q (.int x.lots.length) H
def spSteps (K : PySem.W.Frag) (C : Addr) : Sp := fun vs H Q _ => ∃ (D H0 : Hp) (p : Addr) (x : Pi), vs = [.ref p] ∧ PileAt K C D H0 H p x ∧ Q (.int x.s) H
def spHand (K : PySem.W.Frag) (C : Addr) : Sp := fun vs H Q _ => ∃ (D H0 : Hp) (p : Addr) (x : Pi), vs = [.ref p] ∧ PileAt K C D H0 H p x ∧ Q (.int x.m) H
def spTold (K : PySem.W.Frag) (C : Addr) (cs : Nat → Addr) : Sp := fun vs H Q E => ∃ (D H0 : Hp) (p : Addr) (x : Pi), vs = [.ref p] ∧ PileAt K C D H0 H p x ∧ (x.e = false ∨ 1 < x.lots.length → E (.ref (cs 1)) none H) ∧
  (x.e = true → x.lots.length ≤ 1 → x.lots.flatten.length ≤ 4000 ∧ ∀ (q : Addr) (us : List V) (H' : Hp), Same H H' → H q = none → H' q = some (.lst us) → DpAll K D us x.lots.flatten → Q (.ref q) H')
structure Txt (K : PySem.W.Frag) (mg : Str → Option Value) (C : Addr) (cs : Nat → Addr) : Prop where
  cl : Cls K C
  nM : NoAttr K C "_most"
  nR : NoAttr K C "_rows"
  nL : NoAttr K C "_lots"
  nS : NoAttr K C "_steps"
  nE : NoAttr K C "_ended"
  mgC : mg "Pile" = some (.ref C)
  len : mg "len" = none
  so : mg "sorted" = none
  mx : mg "max" = none
  ex : ∀ i, i < 3 → OexC K (cs i) ∧ PySem.W.findIn K (.ref (cs i)) "__init__" = some (some (.builtin "ValueError.__init__"))
section
variable {P : Program} {w : World} {K : PySem.W.Frag} {mg : Str → Option Value} {base : Heap} {f fA fE C : Addr} {fd dA dE : FuncData} {cs : Nat → Addr}
theorem ok_init (F : Fun K "__init__" "Pile.__init__" sInit f fd) (T : Txt K mg C cs) : FnOk P w K mg base CX0 1 f fd ["self", "hand"] (spInit K C) := by
  refine F.ok scInit (fun vs H Q E h => ?_) (fun cdv A outer s H vs Q E hr h => ?_)
  · obtain ⟨D, H0, p, dx, m, rfl, _⟩ := h
    rfl
  obtain ⟨D, H0, p, dx, m, rfl, sD, s0, p0, hp, q⟩ := h
  refine ⟨_, pss_cons (ps_fld (pv 0) (pv 1) rfl) (pss_cons (ps_fld (pv 0) (pe_lst pa_nil) rfl) (pss_cons (ps_fld (pv 0) (pe_lst pa_nil) rfl) (pss_cons (ps_fld (pv 0) pe_int rfl) (pss_one (ps_fld (pv 0) pe_bl rfl))))), ?_⟩
  refine ⟨_, rfl, _, rfl, p, C, dx, [], rfl, hp, T.cl, T.nM, (by show 0 < 1000; decide), ?_⟩
  have h1 : upd H p (.ins C dx (putF "_most" (.int m) [])) p = some (.ins C dx (putF "_most" (.int m) [])) := upd_same
  have k1 : ∀ b, b ≠ p → upd H p (.ins C dx (putF "_most" (.int m) [])) b = H b := fun b n => upd_ne n
  generalize upd H p (.ins C dx (putF "_most" (.int m) [])) = H1 at h1 k1 ⊢
  refine ⟨Nat.zero_le _, fun r nr => ?_⟩
  have npr : p ≠ r := ne_of_none h1 nr
  refine ⟨_, rfl, p, C, dx, _, rfl, (by rw [upd_ne npr]; exact h1), T.cl, T.nR, (by show 1 < 1000; decide), ?_⟩
  have h2 : upd (upd H1 r (.lst [])) p (.ins C dx (putF "_rows" (.ref r) (putF "_most" (.int m) []))) p = some (.ins C dx (putF "_rows" (.ref r) (putF "_most" (.int m) []))) := upd_same
  have r2 : upd (upd H1 r (.lst [])) p (.ins C dx (putF "_rows" (.ref r) (putF "_most" (.int m) []))) r = some (.lst []) := by rw [upd_ne npr.symm, upd_same]
  have k2 : ∀ b, b ≠ p → b ≠ r → upd (upd H1 r (.lst [])) p (.ins C dx (putF "_rows" (.ref r) (putF "_most" (.int m) []))) b = H b := fun b n n2 => by rw [upd_ne n, upd_ne n2, k1 b n]
  have nr0 : H r = none := by rw [k1 r npr.symm] at nr; exact nr
  generalize upd (upd H1 r (.lst [])) p (.ins C dx (putF "_rows" (.ref r) (putF "_most" (.int m) []))) = H2 at h2 r2 k2 ⊢
  refine ⟨Nat.zero_le _, fun l nl => ?_⟩
  have npl : p ≠ l := ne_of_none h2 nl
  have nrl : r ≠ l := ne_of_none r2 nl
  have nl0 : H l = none := by rw [k2 l npl.symm nrl.symm] at nl; exact nl
  refine ⟨_, rfl, p, C, dx, _, rfl, (by rw [upd_ne npl]; exact h2), T.cl, T.nL, (by show 2 < 1000; decide), ?_⟩
  refine ⟨_, rfl, p, C, dx, _, rfl, upd_same, T.cl, T.nS, (by show 3 < 1000; decide), ?_⟩
  refine ⟨_, rfl, p, C, dx, _, rfl, upd_same, T.cl, T.nE, (by show 4 < 1000; decide), ?_⟩
  refine q _ ⟨sD, fun b o e => ?_, p0, dx, r, l, [], [], s0.free nr0, s0.free nl0, nrl, upd_same, ?_, .nil, ?_, .nil⟩
  · have eb := s0 _ _ e
    have nb : b ≠ p := fun z => by
      rw [z, p0] at e
      cases e
    have nbr : b ≠ r := ne_of_none eb nr0
    have nbl : b ≠ l := ne_of_none eb nl0
    rw [upd_ne nb, upd_ne nb, upd_ne nb, upd_ne nbl, k2 b nb nbr]
    exact eb
  · rw [upd_ne npr.symm, upd_ne npr.symm, upd_ne npr.symm, upd_ne nrl]
    exact r2
  · rw [upd_ne npl.symm, upd_ne npl.symm, upd_ne npl.symm]
    exact upd_same
end
end K42
end

section
set_option Elab.async false
set_option linter.all false
set_option maxRecDepth 100000
set_option maxHeartbeats 4000000
namespace K42
open PySem PySem.Spec PyProof.Rows L2 Gd
section
variable {P : Program} {w : World} {K : PySem.W.Frag} {mg : Str → Option Value} {base : Heap} {f fA fE C : Addr} {fd dA dE : FuncData} {cs : Nat → Addr}
theorem ok_add (F : Fun K "_add_lot" "Pile._add_lot" sAdd f fd) (T : Txt K mg C cs) : FnOk P w K mg base CX0 1 f fd ["self", "rows"] (spAdd K C) := by
  refine F.ok scAdd (fun vs H Q E h => ?_) (fun cdv A outer s H vs Q E hr h => ?_)
  · obtain ⟨D, H0, p, b, x, us, ds, rfl, _⟩ := h
    rfl
  obtain ⟨D, H0, p, b, x, us, ds, rfl, hP, hb, nbl, hd, ok, hz, q⟩ := h
  obtain ⟨sD, s0, p0, dx, r, l, vs, ls, r0, l0, nrl, ep, er, dr, el, hl⟩ := id hP
  have sH : Same D H := sD.trans s0
  refine ⟨_, pss_cons (ps_expr (pe_bm PySem.F.plainAttrs_list PySem.F.slot_list_append PySem.F.type_list_append mt_append (pe_fld (pv 0) rfl) (pa_cons (pe_callB (call_sortedV hr.units) (by rfl) T.so (by decide +kernel) (pa_cons (pv 1) pa_nil)) pa_nil)))
    (pss_one (ps_fldaug (pv 0) (pe_callB call_len_seq (by rfl) T.len PySem.boot_len (pa_cons (pv 1) pa_nil)) in_add)), ?_⟩
  refine ⟨_, rfl, p, C, dx, _, _, rfl, ep, T.cl, T.nL, pf_lots, .inl ⟨rfl, _, SqL.of el⟩, _, rfl, b, us, ds, (fun v d => Dp K D v d), rfl, SqL.of hb, DpAll.same sH ds hd, each_dp hd, ok.al, ok.tu, ok.len, ok.dep, fun ws t nt _ hw => ?_⟩
  have zl : sizeLine = 16777216 := rfl
  have nlt : l ≠ t := ne_of_none el nt
  have nrt : r ≠ t := ne_of_none er nt
  have npt : p ≠ t := ne_of_none ep nt
  have nlp : l ≠ p := ins_ne ep el (fun _ _ _ z => nomatch z)
  have nrp : r ≠ p := ins_ne ep er (fun _ _ _ z => nomatch z)
  have lls : ls.length = x.lots.length := hl.length
  refine ⟨l, _, _, rfl, rfl, (by rw [upd_ne nlt]; exact el), by omega, ?_⟩
  have nbl := nbl _ _ _ ep
  have nbt : b ≠ t := ne_of_none hb nt
  refine ⟨_, rfl, p, C, dx, _, _, rfl, (by rw [upd_ne nlp.symm, upd_ne npt]; exact ep), T.cl, T.nS, pf_steps, _, rfl, b, us, rfl, .inl (SqL.of (by rw [upd_ne nbl, upd_ne nbt]; exact hb)), _, _, rfl, rfl, dx, _, (by rw [upd_ne nlp.symm, upd_ne npt]; exact ep), (by show 5 < 1000; decide), ?_⟩
  have lu : us.length = ds.length := DpAll.len hd
  have keep : ∀ a o, a ≠ p → a ≠ l → H a = some o → upd (upd (upd H t (.lst ws)) l (.lst (ls ++ [.ref t]))) p (.ins C dx (putF "_steps" (.int (x.s + (us.length : Int))) (pf x.m r l x.s x.e))) a = some o := fun a o n1 n2 e => by
    rw [upd_ne n1, upd_ne n2, upd_ne (ne_of_none e nt)]
    exact e
  refine q _ ⟨sD, fun b o e => keep b o (fun z => by rw [z, p0] at e; cases e) (fun z => by rw [z, l0] at e; cases e) (s0 _ _ e), p0, dx, r, l, vs, ls ++ [.ref t], r0, l0, nrl, ?_, keep _ _ nrp nrl er, dr, ?_, ?_⟩
  · rw [upd_same, put_steps, lu]
    rfl
  · rw [upd_ne nlp, upd_same]
  · refine each_snoc (hl.go fun a vs n0 n1 n2 e => ⟨n0, keep _ _ (ins_ne ep e (fun _ _ _ z => nomatch z)) n2 e, n1, n2⟩) ⟨t, ws, rfl, s0.free nt, nrt.symm, nlt.symm, ?_, dp_each hw⟩
    rw [upd_ne npt.symm, upd_ne nlt.symm, upd_same]
theorem flush_ne {x : Pi} (h : x.rows.length ≠ 0) : x.flush = { x.addLot x.rows with rows := [] } := by
  unfold Pi.flush
  rw [if_neg h]
theorem flush_e {x : Pi} (h : x.rows.length = 0) : x.flush = x := by
  unfold Pi.flush
  rw [if_pos h]
theorem ok_emp (F : Fun K "_empty_hand" "Pile._empty_hand" sEmp f fd) (T : Txt K mg C cs) (FA : Fun K "_add_lot" "Pile._add_lot" sAdd fA dA) (bA : Binds K dA ["self", "rows"] []) (mA : Meth K C "_add_lot" fA) : FnOk P w K mg base CX0 2 f fd ["self"] (spEmp K C) := by
  have GA : FnOk P w K mg base CX0 1 fA dA ["self", "rows"] (spAdd K C) := ok_add FA T
  refine F.ok scEmp (fun vs H Q E h => ?_) (fun cdv A outer s H vs Q E hr h => ?_)
  · obtain ⟨D, H0, p, x, rfl, _⟩ := h
    rfl
  obtain ⟨D, H0, p, x, rfl, hP, ok, hz, q⟩ := h
  obtain ⟨sD, s0, p0, dx, r, l, vs, ls, r0, l0, nrl, ep, er, dr, el, hl⟩ := id hP
  have lv : vs.length = x.rows.length := DpAll.len dr
  refine ⟨_, pss_one (ps_if (pt_cmpR op_gt (pe_callB call_len_seq (by rfl) T.len PySem.boot_len (pa_cons (pe_fld (pv 0) rfl) pa_nil)) pe_int (nomark _))
    (pss_cons (ps_expr (pe_meth (pv 0) T.cl mA GA hr bA .nil pass0 (pa_cons (pe_fld (pv 0) rfl) pa_nil)))
      (pss_one (ps_fld (pv 0) (pe_lst pa_nil) rfl))) pss_nil), ?_⟩
  refine ⟨_, rfl, p, C, dx, _, _, rfl, ep, T.cl, T.nR, pf_rows, r, _, rfl, .inl (SqL.of er), _, _, rfl, rfl, _, rfl, ite2 (fun h => ?_) (fun h => ?_)⟩
  · have h : 0 < (vs.length : Int) := by simpa using h
    have hne : x.rows.length ≠ 0 := by omega
    refine ⟨_, rfl, p, dx, _, rfl, ep, pf_no (by decide +kernel), _, rfl, p, C, dx, _, _, rfl, ep, T.cl, T.nR, pf_rows, D, H0, p, r, x, vs, x.rows, rfl, hP, er, (fun dx' r' l' e => ?_), dr, ok, hz, fun H1 R1 => ?_⟩
    · rw [ep] at e
      have e2 := Option.some.inj e
      simp only [HO.ins.injEq] at e2
      have : pf x.m r l x.s x.e = pf x.m r' l' x.s x.e := (by simpa using e2 : dx = dx' ∧ pf x.m r l x.s x.e = pf x.m r' l' x.s x.e).2
      have e3 : (pf x.m r l x.s x.e).lookup ("_lots" : Str) = (pf x.m r' l' x.s x.e).lookup ("_lots" : Str) := by rw [this]
      rw [pf_lots, pf_lots] at e3
      cases e3
      exact nrl
    obtain ⟨_, s1, _, dx1, r1, l1, vs1, ls1, r01, l01, nrl1, ep1, er1, dr1, el1, hl1⟩ := id R1
    refine ⟨Nat.zero_le _, fun t nt => ?_⟩
    have npt : p ≠ t := ne_of_none ep1 nt
    have nlt : l1 ≠ t := ne_of_none el1 nt
    refine ⟨_, rfl, p, C, dx1, _, rfl, (by rw [upd_ne npt]; exact ep1), T.cl, T.nR, (by show 5 < 1000; decide), ?_⟩
    have keep : ∀ a o, a ≠ p → H1 a = some o → upd (upd H1 t (.lst [])) p (.ins C dx1 (putF "_rows" (.ref t) (pf (x.addLot x.rows).m r1 l1 (x.addLot x.rows).s (x.addLot x.rows).e))) a = some o := fun a o n1 e => by
      rw [upd_ne n1, upd_ne (ne_of_none e nt)]
      exact e
    refine q _ ?_
    rw [flush_ne hne]
    refine ⟨sD, fun b o e => keep b o (fun z => by rw [z, p0] at e; cases e) (s1 _ _ e), p0, dx1, t, l1, [], ls1, s1.free nt, l01, nlt.symm, ?_, ?_, .nil, keep _ _ (ins_ne ep1 el1 (fun _ _ _ z => nomatch z)) el1, ?_⟩
    · rw [upd_same, put_rows]
    · rw [upd_ne npt.symm, upd_same]
    · exact hl1.go fun a vs n0 n1 n2 e => ⟨n0, keep _ _ (ins_ne ep1 e (fun _ _ _ z => nomatch z)) e, ne_of_none e nt, n2⟩
  · have h : ¬ 0 < (vs.length : Int) := by simpa using h
    have := q H
    rw [flush_e (by omega)] at this
    exact this hP
theorem raises0 {X : Cx} {cs : Nat → Addr} {i : Nat} (c40 : Cls42 X.K X.mg cs) (hi : i < 7) : Raises X (.ref (cs i)) := raises_own (c40.ev i hi).sub (c40.typ hi)
theorem ok_put (F : Fun K "put" "Pile.put" sPut f fd) (T : Txt K mg C cs) (c40 : Cls42 K mg cs) (FA : Fun K "_add_lot" "Pile._add_lot" sAdd fA dA) (bA : Binds K dA ["self", "rows"] []) (mA : Meth K C "_add_lot" fA)
    (FE : Fun K "_empty_hand" "Pile._empty_hand" sEmp fE dE) (bE : Binds K dE ["self"] []) (mE : Meth K C "_empty_hand" fE) : FnOk P w K mg base (L2.CX P w) 3 f fd ["self", "row"] (spPut K C cs) := by
  have GE : FnOk P w K mg base CX0 2 fE dE ["self"] (spEmp K C) := ok_emp FE T FA bA mA
  refine F.okX scPut (fun vs H Q E h => ?_) (fun cdv A outer s H vs Q E hr h => ?_)
  · obtain ⟨D, H0, p, y, d, x, rfl, _⟩ := h
    rfl
  obtain ⟨D, H0, p, y, d, x, rfl, hP, hy, ok, hz, q1, q2⟩ := h
  obtain ⟨sD, s0, p0, dx, r, l, vs, ls, r0, l0, nrl, ep, er, dr, el, hl⟩ := id hP
  have lv : vs.length = x.rows.length := DpAll.len dr
  refine ⟨_, pss_cons (ps_if (pt_val (pe_fld (pv 0) rfl)) (pss_one (ps_raise rfl (takes_of rfl rfl rfl rfl) (pmk_exB0 (T.ex 0 (by decide)).1 (T.ex 0 (by decide)).2 (by rfl) c40.g0 (raises0 c40 (by decide))))) pss_nil)
    (C8.pss_cut (ps_if (pt_cmpR op_ge (pe_callB call_len_seq (by rfl) T.len PySem.boot_len (pa_cons (pe_fld (pv 0) rfl) pa_nil)) (pe_fld (pv 0) rfl) (nomark _))
      (pss_one (ps_expr (pe_meth0 (pv 0) T.cl mE GE hr bE .nil pass0))) pss_nil)
    (pss_one (ps_expr (pe_bm PySem.F.plainAttrs_list PySem.F.slot_list_append PySem.F.type_list_append mt_append (pe_fld (pv 0) rfl) (pa_cons (pv 1) pa_nil))))), ?_⟩
  refine ⟨_, rfl, p, C, dx, _, _, rfl, ep, T.cl, T.nE, pf_ended, _, rfl, ite2 (fun h => q1 h) (fun h => ?_)⟩
  have h : x.e = false := by simpa using h
  refine ⟨fun σ' H' => σ' = [some (.ref p), some y] ∧ PileAt K C D H0 H' p (if x.m ≤ (x.rows.length : Int) then x.flush else x), ?_, ?_⟩
  · refine ⟨_, rfl, p, C, dx, _, _, rfl, ep, T.cl, T.nR, pf_rows, r, _, rfl, .inl (SqL.of er), _, rfl, p, C, dx, _, _, rfl, ep, T.cl, T.nM, pf_most, _, _, rfl, rfl, _, rfl, ite2 (fun g => ?_) (fun g => ?_)⟩
    · have g : x.m ≤ (vs.length : Int) := by simpa using g
      refine ⟨_, rfl, p, dx, _, rfl, ep, pf_no (by decide +kernel), D, H0, p, x, rfl, hP, ok, hz, fun H1 R1 => ⟨rfl, ?_⟩⟩
      rw [if_pos (by omega)]
      exact R1
    · have g : ¬ x.m ≤ (vs.length : Int) := by simpa using g
      refine ⟨rfl, ?_⟩
      rw [if_neg (by omega)]
      exact hP
  rintro σ1 H1 ⟨rfl, R1⟩
  have q3 := q2 h
  unfold Pi.put at q3
  have le1 : (if x.m ≤ (x.rows.length : Int) then x.flush else x).rows.length ≤ 4000 := by
    have := ok.len
    by_cases g : x.m ≤ (x.rows.length : Int)
    · rw [if_pos g]
      by_cases g2 : x.rows.length = 0
      · rw [flush_e g2]
        exact this
      · rw [flush_ne g2]
        exact Nat.zero_le _
    · rw [if_neg g]
      exact this
  generalize (if x.m ≤ (x.rows.length : Int) then x.flush else x) = z at R1 q3 le1
  obtain ⟨_, s1, _, dx1, r1, l1, vs1, ls1, r01, l01, nrl1, ep1, er1, dr1, el1, hl1⟩ := id R1
  have lv1 : vs1.length = z.rows.length := DpAll.len dr1
  have zl : sizeLine = 16777216 := rfl
  have keep : ∀ a o, a ≠ r1 → H1 a = some o → upd H1 r1 (.lst (vs1 ++ [y])) a = some o := fun a o n1 e => by
    rw [upd_ne n1]
    exact e
  have nrp : r1 ≠ p := ins_ne ep1 er1 (fun _ _ _ z => nomatch z)
  refine ⟨_, rfl, p, C, dx1, _, _, rfl, ep1, T.cl, T.nR, pf_rows, .inl ⟨rfl, _, SqL.of er1⟩, _, rfl, r1, _, _, rfl, rfl, er1, by omega, ?_⟩
  refine q3 _ ⟨sD, fun b o e => keep b o (fun z => by rw [z, r01] at e; cases e) (s1 _ _ e), p0, dx1, r1, l1, _, ls1, r01, l01, nrl1, keep _ _ nrp.symm ep1, upd_same, DpAll.snoc dr1 hy, keep _ _ nrl1.symm el1, ?_⟩
  exact hl1.go fun a vs n0 n1 n2 e => ⟨n0, keep _ _ n1 e, n1, n2⟩
theorem ok_fin (F : Fun K "end" "Pile.end" sFin f fd) (T : Txt K mg C cs) (c40 : Cls42 K mg cs) (FA : Fun K "_add_lot" "Pile._add_lot" sAdd fA dA) (bA : Binds K dA ["self", "rows"] []) (mA : Meth K C "_add_lot" fA)
    (FE : Fun K "_empty_hand" "Pile._empty_hand" sEmp fE dE) (bE : Binds K dE ["self"] []) (mE : Meth K C "_empty_hand" fE) : FnOk P w K mg base (L2.CX P w) 3 f fd ["self"] (spFin K C cs) := by
  have GE : FnOk P w K mg base CX0 2 fE dE ["self"] (spEmp K C) := ok_emp FE T FA bA mA
  refine F.okX scFin (fun vs H Q E h => ?_) (fun cdv A outer s H vs Q E hr h => ?_)
  · obtain ⟨D, H0, p, x, rfl, _⟩ := h
    rfl
  obtain ⟨D, H0, p, x, rfl, hP, q1, q2⟩ := h
  obtain ⟨sD, s0, p0, dx, r, l, vs, ls, r0, l0, nrl, ep, er, dr, el, hl⟩ := id hP
  refine ⟨_, pss_cons (ps_if (pt_val (pe_fld (pv 0) rfl)) (pss_one (ps_raise rfl (takes_of rfl rfl rfl rfl) (pmk_exB0 (T.ex 0 (by decide)).1 (T.ex 0 (by decide)).2 (by rfl) c40.g0 (raises0 c40 (by decide))))) pss_nil)
    (pss_cons (ps_expr (pe_meth0 (pv 0) T.cl mE GE hr bE .nil pass0))
    (pss_one (ps_fld (pv 0) pe_bl rfl))), ?_⟩
  refine ⟨_, rfl, p, C, dx, _, _, rfl, ep, T.cl, T.nE, pf_ended, _, rfl, ite2 (fun h => q1 h) (fun h => ?_)⟩
  obtain ⟨ok, hz, q3⟩ := q2 (by simpa using h)
  refine ⟨_, rfl, p, dx, _, rfl, ep, pf_no (by decide +kernel), D, H0, p, x, rfl, hP, ok, hz, fun H1 R1 => ?_⟩
  unfold Pi.fin at q3
  generalize x.flush = z at R1 q3
  obtain ⟨_, s1, _, dx1, r1, l1, vs1, ls1, r01, l01, nrl1, ep1, er1, dr1, el1, hl1⟩ := id R1
  refine ⟨_, rfl, p, C, dx1, _, rfl, ep1, T.cl, T.nE, (by show 5 < 1000; decide), ?_⟩
  have keep : ∀ a o, a ≠ p → H1 a = some o → upd H1 p (.ins C dx1 (putF "_ended" (.bl true) (pf z.m r1 l1 z.s z.e))) a = some o := fun a o n1 e => by
    rw [upd_ne n1]
    exact e
  refine q3 _ ⟨sD, fun b o e => keep b o (fun z => by rw [z, p0] at e; cases e) (s1 _ _ e), p0, dx1, r1, l1, vs1, ls1, r01, l01, nrl1, ?_, keep _ _ (ins_ne ep1 er1 (fun _ _ _ z => nomatch z)) er1, dr1, keep _ _ (ins_ne ep1 el1 (fun _ _ _ z => nomatch z)) el1, ?_⟩
  · rw [upd_same, put_ended]
  · exact hl1.go fun a vs n0 n1 n2 e => ⟨n0, keep _ _ (ins_ne ep1 e (fun _ _ _ z => nomatch z)) e, n1, n2⟩
end
end K42
end

section
set_option Elab.async false
set_option linter.all false
set_option maxRecDepth 100000
set_option maxHeartbeats 4000000
namespace K42
open PySem PySem.Spec PyProof.Rows L2 Gd
theorem cut_take (xs : List V) (k : Nat) : cutV xs none (some ((k : Nat) : Int)) = xs.take k := by
  unfold cutV
  rw [HT.sIx_none, HT.sIx_nat, List.drop_zero, Nat.sub_zero]
  by_cases h : k ≤ xs.length
  · rw [Nat.min_eq_left h]
  · rw [Nat.min_eq_right (by omega), List.take_length, List.take_of_length_le (by omega)]
theorem cut_drop (xs : List V) (k : Nat) : cutV xs (some ((k : Nat) : Int)) none = xs.drop k := by
  unfold cutV
  rw [HT.sIx_none, HT.sIx_nat]
  by_cases h : k ≤ xs.length
  · rw [Nat.min_eq_left h, List.take_of_length_le (by rw [List.length_drop] <;> exact Nat.le_refl _)]
  · rw [Nat.min_eq_right (by omega), Nat.sub_self, List.take_zero, List.drop_of_length_le (by omega)]
theorem each_take {α β : Type} {R : α → β → Prop} : ∀ {as : List α} {bs : List β} (n : Nat), PySem.W.EachIs R as bs → PySem.W.EachIs R (as.take n) (bs.take n)
  | _, _, _, .nil => by rw [List.take_nil, List.take_nil]; exact .nil
  | _, _, 0, .cons _ _ => .nil
  | _, _, n + 1, .cons a r => .cons a (each_take n r)
theorem each_drop {α β : Type} {R : α → β → Prop} : ∀ {as : List α} {bs : List β} (n : Nat), PySem.W.EachIs R as bs → PySem.W.EachIs R (as.drop n) (bs.drop n)
  | _, _, _, .nil => by rw [List.drop_nil, List.drop_nil]; exact .nil
  | _, _, 0, .cons a r => .cons a r
  | _, _, n + 1, .cons _ r => each_drop n r
theorem dp_app {K : PySem.W.Frag} {D : Hp} : ∀ {us vs : List V} {ds es : List PyData}, DpAll K D us ds → DpAll K D vs es → DpAll K D (us ++ vs) (ds ++ es)
  | _, _, _, _, .nil, h => h
  | _, _, _, _, .cons a b, h => .cons a (dp_app b h)
/-- the lots' own values -/
theorem lots_vs {K : PySem.W.Frag} {D H : Hp} {r l : Addr} : ∀ {ls : List V} {lots : List (List PyData)}, LotsAt K D H0 H r l ls lots → ∃ xss : List (List V), LotVs K H ls xss ∧ DpAll K D xss.flatten lots.flatten
  | _, _, .nil => ⟨[], .nil, .nil⟩
  | _, _, .cons ⟨a, vs, e, _, _, _, hv, d⟩ t => by
    obtain ⟨xss, h1, h2⟩ := lots_vs t
    refine ⟨vs :: xss, .cons ⟨a, e, SqL.of hv⟩ h1, ?_⟩
    rw [List.flatten_cons, List.flatten_cons]
    exact dp_app d h2
section
variable {P : Program} {w : World} {K : PySem.W.Frag} {mg : Str → Option Value} {base : Heap} {f fA fE C : Addr} {fd dA dE : FuncData} {cs : Nat → Addr}
theorem ok_lots (F : Fun K "lots" "Pile.lots" sLots f fd) (T : Txt K mg C cs) : FnOk P w K mg base CX0 1 f fd ["self"] (spLots K C) := by
  refine F.ok scLots (fun vs H Q E h => ?_) (fun cdv A outer s H vs Q E hr h => ?_)
  · obtain ⟨D, H0, p, x, rfl, _⟩ := h
    rfl
  obtain ⟨D, H0, p, x, rfl, ⟨sD, s0, p0, dx, r, l, vs, ls, r0, l0, nrl, ep, er, dr, el, hl⟩, q⟩ := h
  refine ⟨_, pss_one (ps_ret (pe_callB call_len_seq (by rfl) T.len PySem.boot_len (pa_cons (pe_fld (pv 0) rfl) pa_nil))), ?_⟩
  refine ⟨_, rfl, p, C, dx, _, _, rfl, ep, T.cl, T.nL, pf_lots, l, _, rfl, .inl (SqL.of el), ?_⟩
  rw [show ls.length = x.lots.length from hl.length]
  exact q
theorem ok_steps (F : Fun K "steps" "Pile.steps" sSteps f fd) (T : Txt K mg C cs) : FnOk P w K mg base CX0 1 f fd ["self"] (spSteps K C) := by
  refine F.ok scSteps (fun vs H Q E h => ?_) (fun cdv A outer s H vs Q E hr h => ?_)
  · obtain ⟨D, H0, p, x, rfl, _⟩ := h
    rfl
  obtain ⟨D, H0, p, x, rfl, ⟨sD, s0, p0, dx, r, l, vs, ls, r0, l0, nrl, ep, er, dr, el, hl⟩, q⟩ := h
  refine ⟨_, pss_one (ps_ret (pe_fld (pv 0) rfl)), ?_⟩
  exact ⟨_, rfl, p, C, dx, _, _, rfl, ep, T.cl, T.nS, pf_steps, q⟩
theorem ok_hand (F : Fun K "hand" "Pile.hand" sHand f fd) (T : Txt K mg C cs) : FnOk P w K mg base CX0 1 f fd ["self"] (spHand K C) := by
  refine F.ok scHand (fun vs H Q E h => ?_) (fun cdv A outer s H vs Q E hr h => ?_)
  · obtain ⟨D, H0, p, x, rfl, _⟩ := h
    rfl
  obtain ⟨D, H0, p, x, rfl, ⟨sD, s0, p0, dx, r, l, vs, ls, r0, l0, nrl, ep, er, dr, el, hl⟩, q⟩ := h
  refine ⟨_, pss_one (ps_ret (pe_fld (pv 0) rfl)), ?_⟩
  exact ⟨_, rfl, p, C, dx, _, _, rfl, ep, T.cl, T.nM, pf_most, q⟩
theorem ok_told (F : Fun K "told" "Pile.told" sTold f fd) (T : Txt K mg C cs) (c40 : Cls42 K mg cs) : FnOk P w K mg base (L2.CX P w) 1 f fd ["self"] (spTold K C cs) := by
  refine F.okX scTold (fun vs H Q E h => ?_) (fun cdv A outer s H vs Q E hr h => ?_)
  · obtain ⟨D, H0, p, x, rfl, _⟩ := h
    rfl
  have nd := scTold.nd
  obtain ⟨D, H0, p, x, rfl, hP, q1, q2⟩ := h
  obtain ⟨sD, s0, p0, dx, r, l, vs, ls, r0, l0, nrl, ep, er, dr, el, hl⟩ := id hP
  refine ⟨_, pss_cons (ps_if (PW.pt (pw_or (pt_not (pt_val (pe_fld (pv 0) rfl))) (pw_or1 (pt_cmpR op_gt (pe_callB call_len_seq (by rfl) T.len PySem.boot_len (pa_cons (pe_fld (pv 0) rfl) pa_nil)) pe_int (nomark _)))))
      (pss_one (ps_raise rfl (takes_of rfl rfl rfl rfl) (pmk_exB0 (T.ex 1 (by decide)).1 (T.ex 1 (by decide)).2 (by rfl) c40.g1 (raises0 c40 (by decide))))) pss_nil)
    (pss_one (ps_ret (pe_lc2 (own := [("lot", 1), ("row", 2)]) (vs1 := [2]) (g := gName 1) (tt := tYes) (wi1 := iList K (tVar 1)) (g1 := gName 2) (tt1 := tYes) (te := tVar 2) rfl nd (pi_list (pe_fld (pv 0) rfl)) (blkOk_by (N := nTold) (sc := defScope sTold) (by decide +kernel)) (by decide)
      (fun _ _ _ _ _ => pg_name (i := 1) nd rfl (Or.inl rfl)) (fun _ _ _ _ _ => pts_nil) (fun _ _ _ _ _ => by exact pi_list (pv 1)) (fun _ _ _ _ _ => pg_name (i := 2) nd rfl (Or.inl rfl)) (fun _ _ _ _ _ => pts_nil) (fun _ _ _ _ _ => by exact pv 2)))), ?_⟩
  refine ⟨_, rfl, p, C, dx, _, _, rfl, ep, T.cl, T.nE, pf_ended, _, rfl, ?_⟩
  have hll : ls.length = x.lots.length := hl.length
  refine ite2 (fun h => iteT (q1 (.inl (by simpa using h)))) (fun h => ?_)
  have he : x.e = true := by simpa using h
  refine ⟨_, rfl, p, C, dx, _, _, rfl, ep, T.cl, T.nL, pf_lots, l, _, rfl, .inl (SqL.of el), _, _, rfl, rfl, _, rfl, ite2 (fun g => ?_) (fun g => ?_)⟩
  · have g : 1 < (ls.length : Int) := by simpa using g
    exact q1 (.inr (by omega))
  · have g : ¬ 1 < (ls.length : Int) := by simpa using g
    obtain ⟨le, q⟩ := q2 he (by omega)
    obtain ⟨xss, h1, h2⟩ := lots_vs hl
    have lf : xss.flatten.length = x.lots.flatten.length := DpAll.len h2
    have zl : sizeLine = 16777216 := rfl
    refine ⟨_, rfl, p, C, dx, _, _, rfl, ep, T.cl, T.nL, pf_lots, l, rfl, ⟨_, SqL.of el⟩, fun q0 n0 => ?_⟩
    exact lc2_flat (fun _ => rfl) (fun _ => rfl) (fun _ _ => rfl) (fun _ _ => rfl) n0 (SqL.of el) h1 (by omega) fun H' s1 e1 => q q0 _ H' s1 n0 e1 h2
theorem ok_mrg (F : Fun K "merge" "Pile.merge" sMrg f fd) (T : Txt K mg C cs) (c40 : Cls42 K mg cs) (FA : Fun K "_add_lot" "Pile._add_lot" sAdd fA dA) (bA : Binds K dA ["self", "rows"] []) (mA : Meth K C "_add_lot" fA) : FnOk P w K mg base (L2.CX P w) 2 f fd ["self"] (spMrg K C cs) := by
  have GA : FnOk P w K mg base CX0 1 fA dA ["self", "rows"] (spAdd K C) := ok_add FA T
  refine F.okX scMrg (fun vs H Q E h => ?_) (fun cdv A outer s H vs Q E hr h => ?_)
  · obtain ⟨D, H0, p, x, rfl, _⟩ := h
    rfl
  have nd := scMrg.nd
  obtain ⟨D, H0, p, x, rfl, hP, q1, q2⟩ := h
  obtain ⟨sD, s0, p0, dx, r, l, vs, ls, r0, l0, nrl, ep, er, dr, el, hl⟩ := id hP
  refine ⟨_, pss_cons (ps_if (pt_not (pt_val (pe_fld (pv 0) rfl)))
      (pss_one (ps_raise rfl (takes_of rfl rfl rfl rfl) (pmk_exB0 (T.ex 1 (by decide)).1 (T.ex 1 (by decide)).2 (by rfl) c40.g1 (raises0 c40 (by decide))))) pss_nil)
    (pss_cons (ps_if (pt_cmpR op_lt (pe_callB call_len_seq (by rfl) T.len PySem.boot_len (pa_cons (pe_fld (pv 0) rfl) pa_nil)) pe_int (nomark _))
      (pss_one (ps_raise rfl (takes_of rfl rfl rfl rfl) (pmk_exB0 (T.ex 0 (by decide)).1 (T.ex 0 (by decide)).2 (by rfl) c40.g0 (raises0 c40 (by decide))))) pss_nil)
    (pss_cons (ps_set (i := 1) nd rfl (.inl rfl) (pe_callB (call_max2 rfl) (by rfl) T.mx (by decide +kernel) (pa_cons pe_int (pa_cons (pe_fld (pv 0) rfl) pa_nil))))
    (pss_cons (ps_setLc2 (i := 2) (own := [("lot", 3), ("row", 4)]) (vs1 := [4]) (g := gName 3) (tt := tYes) (wi1 := iList K (tVar 3)) (g1 := gName 4) (tt1 := tYes) (te := tVar 4) rfl nd rfl rfl (by rfl) (pi_list (pe_slice sl_list (pe_fld (pv 0) rfl) po_none (po_some (pv 1)))) (blkOk_by (N := nMrg) (sc := defScope sMrg) (by decide +kernel)) (by decide)
      (fun _ _ _ _ _ => pg_name (i := 3) nd rfl (Or.inl rfl)) (fun _ _ _ _ _ => pts_nil) (fun _ _ _ _ _ => by exact pi_list (pv 3)) (fun _ _ _ _ _ => pg_name (i := 4) nd rfl (Or.inl rfl)) (fun _ _ _ _ _ => pts_nil) (fun _ _ _ _ _ => by exact pv 4))
    (pss_cons (ps_fld (pv 0) (pe_slice sl_list (pe_fld (pv 0) rfl) (po_some (pv 1)) po_none) rfl)
    (pss_one (ps_expr (pe_meth (pv 0) T.cl mA GA hr bA .nil pass0 (pa_cons (pv 2) pa_nil)))))))), ?_⟩
  refine ⟨_, rfl, p, C, dx, _, _, rfl, ep, T.cl, T.nE, pf_ended, _, rfl, ite2 (fun h => q1 (by simpa using h)) (fun h => ?_)⟩
  obtain ⟨q3, q4⟩ := q2 (by simpa using h)
  have hll : ls.length = x.lots.length := hl.length
  refine ⟨_, rfl, p, C, dx, _, _, rfl, ep, T.cl, T.nL, pf_lots, l, _, rfl, .inl (SqL.of el), _, _, rfl, rfl, _, rfl, ite2 (fun g => ?_) (fun g => ?_)⟩
  · have g : (ls.length : Int) < 2 := by simpa using g
    exact q3 (by omega)
  have g : ¬ (ls.length : Int) < 2 := by simpa using g
  obtain ⟨hz, ok, q⟩ := q4 (by omega)
  refine ⟨_, rfl, p, C, dx, _, _, rfl, ep, T.cl, T.nM, pf_most, _, _, rfl, ?_⟩
  have em : (if x.m > 2 then x.m else 2) = ((x.many.toNat : Nat) : Int) := by
    show x.many = _
    have : 2 ≤ x.many := by
      unfold Pi.many
      by_cases z : x.m > 2
      · rw [if_pos z]
        omega
      · rw [if_neg z]
        omega
    omega
  have eM : x.merge = ({ x with lots := x.lots.drop x.many.toNat }).addLot (x.lots.take x.many.toNat).flatten := rfl
  rw [eM] at q
  rw [em]
  generalize x.many.toNat = k at ok q ⊢
  refine ⟨_, rfl, p, C, dx, _, _, rfl, ep, T.cl, T.nL, pf_lots, _, rfl, _, rfl, l, ls, rfl, SqL.of el, fun b nb => ?_⟩
  rw [cut_take]
  have sb := new_same (o := .lst (ls.take k)) nb
  have eb : upd H b (.lst (ls.take k)) b = some (.lst (ls.take k)) := upd_same
  have npb : p ≠ b := ne_of_none ep nb
  generalize upd H b (.lst (ls.take k)) = H1 at sb eb ⊢
  obtain ⟨xss, h1, h2⟩ := lots_vs (H := H1) (each_take k (hl.go (r' := r) (l' := l) fun a vs n0 n1 n2 e => ⟨n0, sb _ _ e, n1, n2⟩))
  have lf : xss.flatten.length = (x.lots.take k).flatten.length := DpAll.len h2
  have zl : sizeLine = 16777216 := rfl
  have okl := ok.len
  refine ⟨b, rfl, ⟨_, SqL.of eb⟩, fun d nd0 => ?_⟩
  refine lc2_flat (fun _ => rfl) (fun _ => rfl) (fun _ _ => rfl) (fun _ _ => rfl) nd0 (SqL.of eb) h1 (by omega) fun H2 s2 e2 => ?_
  have ep2 := s2 _ _ (sb _ _ ep)
  have el2 := s2 _ _ (sb _ _ el)
  have er2 := s2 _ _ (sb _ _ er)
  have ndH : H d = none := sb.free nd0
  refine ⟨_, rfl, p, C, dx, _, _, rfl, ep2, T.cl, T.nL, pf_lots, _, rfl, _, rfl, l, ls, rfl, SqL.of el2, fun t nt => ?_⟩
  rw [cut_drop]
  have npt : p ≠ t := ne_of_none ep2 nt
  refine ⟨_, rfl, p, C, dx, _, rfl, (by rw [upd_ne npt]; exact ep2), T.cl, T.nL, (by show 5 < 1000; decide), ?_⟩
  have keep : ∀ a o, a ≠ p → H2 a = some o → upd (upd H2 t (.lst (ls.drop k))) p (.ins C dx (putF "_lots" (.ref t) (pf x.m r l x.s x.e))) a = some o := fun a o n1 e => by
    rw [upd_ne n1, upd_ne (ne_of_none e nt)]
    exact e
  have ep3 : upd (upd H2 t (.lst (ls.drop k))) p (.ins C dx (putF "_lots" (.ref t) (pf x.m r l x.s x.e))) p = some (.ins C dx (pf x.m r t x.s x.e)) := by rw [upd_same, put_lots]
  have et3 : upd (upd H2 t (.lst (ls.drop k))) p (.ins C dx (putF "_lots" (.ref t) (pf x.m r l x.s x.e))) t = some (.lst (ls.drop k)) := by rw [upd_ne npt.symm, upd_same]
  generalize upd (upd H2 t (.lst (ls.drop k))) p (.ins C dx (putF "_lots" (.ref t) (pf x.m r l x.s x.e))) = H3 at keep ep3 et3 ⊢
  have ndp : d ≠ p := fun z => by rw [z, ep] at ndH; cases ndH
  have tH : H t = none := sb.free (s2.free nt)
  refine ⟨_, rfl, p, dx, _, rfl, ep3, pf_no (by decide +kernel), _, rfl, D, H0, p, d, { x with lots := x.lots.drop k }, xss.flatten, _, rfl, ⟨sD, fun z o e => keep z o (fun y => by rw [y, p0] at e; cases e) (s2 _ _ (sb _ _ (s0 _ _ e))), p0, dx, r, t, vs, ls.drop k, r0, s0.free tH, ?_, ep3, keep _ _ (ins_ne ep er (fun _ _ _ z => nomatch z)) er2, dr, et3, ?_⟩, keep _ _ ndp e2, ?_, h2, ok, ?_, fun H' R => q H' R⟩
  · exact ne_of_none er2 nt
  · exact each_drop k (hl.go fun a vs n0 n1 n2 e => ⟨n0, keep _ _ (ins_ne ep e (fun _ _ _ z => nomatch z)) (s2 _ _ (sb _ _ e)), n1, ne_of_none (s2 _ _ (sb _ _ e)) nt⟩)
  · intro dx' r' l' e
    rw [ep3] at e
    have e2' := Option.some.inj e
    simp only [HO.ins.injEq] at e2'
    have : pf x.m r t x.s x.e = pf x.m r' l' x.s x.e := (by simpa using e2' : dx = dx' ∧ pf x.m r t x.s x.e = pf x.m r' l' x.s x.e).2
    have e3 : (pf x.m r t x.s x.e).lookup ("_lots" : Str) = (pf x.m r' l' x.s x.e).lookup ("_lots" : Str) := by rw [this]
    rw [pf_lots, pf_lots] at e3
    cases e3
    exact ne_of_none e2 nt
  · show (x.lots.drop k).length ≤ 4000
    rw [List.length_drop]
    omega
end
end K42
end

section
set_option Elab.async false
set_option linter.all false
set_option maxRecDepth 100000
set_option maxHeartbeats 4000000
namespace K42
open PySem PySem.Spec PyProof.Rows L2 Gd Szg
/-! ### rows -/
def small (n : Int) : Prop := n.natAbs ≤ 10 ^ 62
/-- what a row of the form f is -/
def IsRow (f : Int) (d : PyData) : Prop :=
  if f = 2 then ∃ a n b : Int, small a ∧ small n ∧ small b ∧ d = .tuple [.tuple [.int a, .int n], .int b]
  else if f = 3 then ∃ n : Int, small n ∧ d = .tuple [.tuple [], .int n]
  else if f = 6 then ∃ (s : Str) (n : Int), Pl s ∧ small n ∧ d = .tuple [.str s, .int n]
  else ∃ ns : List Int, ns.length ≤ 3 ∧ (∀ n ∈ ns, small n) ∧ d = .tuple (ns.map .int)
theorem isRow_ints {f : Int} {ns : List Int} (h2 : f ≠ 2) (h3 : f ≠ 3) (h6 : f ≠ 6) (l : ns.length ≤ 3) (h : ∀ n ∈ ns, small n) : IsRow f (.tuple (ns.map .int)) := by
  unfold IsRow
  rw [if_neg h2, if_neg h3, if_neg h6]
  exact ⟨ns, l, h, rfl⟩
theorem dp_ints {K : PySem.W.Frag} {H : Hp} : ∀ ns : List Int, DpAll K H (ns.map V.int) (ns.map PyData.int)
  | [] => .nil
  | n :: ns => .cons (.int n) (dp_ints ns)
theorem row_tup {f : Int} {d : PyData} (h : IsRow f d) : ∃ xs, d = .tuple xs := by
  unfold IsRow at h
  split at h
  · obtain ⟨a, n, b, _, _, _, e⟩ := h
    exact ⟨_, e⟩
  split at h
  · obtain ⟨n, _, e⟩ := h
    exact ⟨_, e⟩
  split at h
  · obtain ⟨s, n, _, _, e⟩ := h
    exact ⟨_, e⟩
  · obtain ⟨ns, _, _, e⟩ := h
    exact ⟨_, e⟩
theorem row_alike {f : Int} {d d' : PyData} (h : IsRow f d) (h' : IsRow f d') : PySem.W.alike d d' = true := by
  unfold IsRow at h h'
  split at h
  · rename_i c
    rw [if_pos c] at h'
    obtain ⟨a, n, b, _, _, _, rfl⟩ := h
    obtain ⟨a, n, b, _, _, _, rfl⟩ := h'
    simp [PySem.W.alike, PySem.W.alikeAll]
  rename_i c2
  rw [if_neg c2] at h'
  split at h
  · rename_i c
    rw [if_pos c] at h'
    obtain ⟨n, _, rfl⟩ := h
    obtain ⟨n, _, rfl⟩ := h'
    simp [PySem.W.alike, PySem.W.alikeAll]
  rename_i c3
  rw [if_neg c3] at h'
  split at h
  · rename_i c
    rw [if_pos c] at h'
    obtain ⟨s, n, _, _, rfl⟩ := h
    obtain ⟨s, n, _, _, rfl⟩ := h'
    simp [PySem.W.alike, PySem.W.alikeAll]
  · rename_i c
    rw [if_neg c] at h'
    obtain ⟨ns, _, _, rfl⟩ := h
    obtain ⟨ms, _, _, rfl⟩ := h'
    simp only [PySem.W.alike]
    exact PySem.W.alike_ints ns ms
theorem sm_int' {i : Int} (h : small i) : Sm 212 0 (.int i) := sm_int h
theorem row_sm {f : Int} {d : PyData} (h : IsRow f d) : Sm 660 2 d := by
  unfold IsRow at h
  split at h
  · obtain ⟨a, n, b, h1, h2, h3, rfl⟩ := h
    exact (Sms.tup (Sms.cons (Sms.tup (Sms.cons (sm_int' h1) (Sms.cons (sm_int' h2) .nil))) (Sms.cons ((sm_int' h3).mono (Nat.le_refl _) (by decide)) .nil))).mono (by decide) (by decide)
  split at h
  · obtain ⟨n, h1, rfl⟩ := h
    exact (Sms.tup (Sms.cons (Sms.tup (.nil (n := 0))) (Sms.cons ((sm_int' h1).mono (Nat.le_refl _) (by decide)) .nil))).mono (by decide) (by decide)
  split at h
  · obtain ⟨s, n, h1, h2, rfl⟩ := h
    exact (Sms.tup (Sms.cons (sm_str h1) (Sms.cons (sm_int' h2) .nil))).mono (by decide) (by decide)
  · obtain ⟨ns, h1, h2, rfl⟩ := h
    have : Sms ((212 + 1) * (ns.map PyData.int).length) 0 (ns.map PyData.int) := Sms.all fun d hd => by
      obtain ⟨n, hn, rfl⟩ := List.mem_map.mp hd
      exact sm_int' (h2 n hn)
    refine (Sms.tup this).mono ?_ (by decide)
    rw [List.length_map]
    omega
theorem rows_ok {f : Int} {ds : List PyData} (h : ∀ d ∈ ds, IsRow f d) (l : ds.length ≤ 4000) : RowsOk ds :=
  ⟨fun d hd d' hd' => row_alike (h d hd) (h d' hd'), fun d hd => row_tup (h d hd), l, fun d hd => by
    have := (row_sm (h d hd)).dp
    omega⟩
def rSlC (K : PySem.W.Frag) : V → Option Int → Option Int → Hp → VK → Prop := fun x lo hi H Q => ∃ a xs, x = .ref a ∧ SqT K H a xs ∧ ∀ p H', Same H H' → SqT K H' p (cutV xs lo hi) → Q (.ref p) H'
theorem sl_tupC {X : Cx} : SlR X (rSlC X.K) := by
  intro pins s σ H x v vl vu lo hi sl Q I rx hs pl pu h
  obtain ⟨a, xs, rfl, hx, q⟩ := h
  refine sl_tupA pins s σ H _ v vl vu lo hi sl Q I rx hs pl pu ⟨a, xs, rfl, hx, fun w => ?_, fun w p hp => q p _ (new_same hp) (SqT.of upd_same)⟩
  refine q a H (fun _ _ e => e) ?_
  have e : cutV xs lo hi = xs := by
    unfold cutV
    rw [w.1, w.2, List.drop_zero, Nat.sub_zero, List.take_length]
  rw [e]
  exact hx
theorem walk_upto {n : Nat} : Walk (Itr 0 n) n (fun _ => True) (YFn fun i => .int ((i : Nat) : Int)) :=
  walk_range.mono (fun _ _ => trivial) (fun i H x H' _ _ y => ⟨y.1, y.2.trans (by show V.int (0 + ((i : Nat) : Int)) = V.int ((i : Nat) : Int); rw [Int.zero_add])⟩)
abbrev sRow : Stmt := topS 14
abbrev nRow : List Str := ["_law_pen_here", "_law_form", "_law_few", "_law_far", "_law_number", "_law_some", "_law_k"]
theorem scRow : FnScope nRow ["_law_pen_here", "_law_form"] (defScope sRow) := ⟨rfl, rfl, rfl, by decide +kernel, rfl, by decide +kernel, by decide +kernel⟩
def spRow (K : PySem.W.Frag) : Sp := fun vs H Q _ => ∃ (l c : Addr) (f S : Int), vs = [.ref l, .int f] ∧ Pen H l c S ∧ 0 ≤ f ∧ f < 7 ∧ S ≤ 90000 ∧
  ∀ (v : V) (d : PyData) (H' : Hp), IsRow f d → Dp K H' v d → Pen H' l c (S + 4) → Ex1 l H H' → Q v H'
section
variable {P : Program} {w : World} {K : PySem.W.Frag} {mg : Str → Option Value} {base : Heap} {f fT : Addr} {fd dT : FuncData}
theorem ok_row (F : Fun K "_law_row" "_law_row" sRow f fd) (mr : mg "range" = none) (mi : mg "int" = none) (FT : Fun K "_law_draw" "_law_draw" sDraw fT dT) (G : FnOk P w K mg base CX0 1 fT dT ["_law_pen_here", "_law_many"] spDraw)
    (bT : Binds K dT ["_law_pen_here", "_law_many"] []) (gT : mg "_law_draw" = some (.ref fT)) : FnOk P w K mg base CX0 2 f fd ["_law_pen_here", "_law_form"] (spRow K) := by
  refine F.ok scRow (fun vs H Q E h => ?_) (fun cdv A outer s H vs Q E hr h => ?_)
  · obtain ⟨l, c, m, S, rfl, _⟩ := h
    rfl
  obtain ⟨l, c, m, S, rfl, hP, m0, m1, hS, q⟩ := h
  have nd := scRow.nd
  have zl : sizeLine = 16777216 := rfl
  refine ⟨_, pss_cons (ps_setLc (i := 2) (own := [("_law_k", 6)]) (g := gName 6) (tt := tYes) rfl nd rfl rfl (by rfl) (pi_range1 (by rfl) mr (pa_cons pe_int pa_nil)) (blkOk_by (N := nRow) (sc := defScope sRow) (by decide +kernel)) (fun _ _ _ _ _ => pg_name (i := 6) nd rfl (Or.inl rfl)) (fun _ _ _ _ _ => pts_nil)
      (fun _ _ _ _ _ => pe_call G hr (by rfl) gT FT.kp bT .nil pass0 (pa_cons (pv 0) (pa_cons pe_int pa_nil))))
    (pss_cons (ps_set (i := 3) nd rfl (.inl rfl) (pe_ix ix_list (pe_lst (pa_cons pe_int (pa_cons pe_int (pa_cons pe_int (pa_cons (pe_un un_neg pe_int) (pa_cons pe_int (pa_cons pe_int (pa_cons (pe_op op_sub (pe_op op_pow pe_int pe_int) pe_int) (pa_cons (pe_op op_sub pe_int (pe_op op_pow pe_int pe_int)) pa_nil)))))))))
      (pe_call G hr (by rfl) gT FT.kp bT .nil pass0 (pa_cons (pv 0) (pa_cons pe_int pa_nil))) (fun _ _ => rfl)))
    (pss_cons (ps_set (i := 4) nd rfl (.inl rfl) (pe_ix ix_list (pe_lst (pa_cons (pe_ix ix_list (pv 2) pe_int (fun _ _ => rfl)) (pa_cons (pe_ix ix_list (pv 2) pe_int (fun _ _ => rfl)) (pa_cons (pe_op op_sub (pe_ix ix_list (pv 2) pe_int (fun _ _ => rfl)) pe_int) (pa_cons (pv 3) pa_nil)))))
      (pe_call G hr (by rfl) gT FT.kp bT .nil pass0 (pa_cons (pv 0) (pa_cons pe_int pa_nil))) (fun _ _ => rfl)))
    (pss_cons (ps_set (i := 5) nd rfl (.inl rfl) (pe_lst (pa_cons (pe_tup (pa_cons (pv 4) pa_nil)) (pa_cons (pe_tup (pa_cons (pv 4) (pa_cons (pe_ix ix_list (pv 2) pe_int (fun _ _ => rfl)) pa_nil)))
      (pa_cons (pe_tup (pa_cons (pe_tup (pa_cons (pe_callTy call_int1 (by rfl) mi (by decide +kernel) (pa_cons (pe_cmpR op_gt (pe_ix ix_list (pv 2) pe_int (fun _ _ => rfl)) pe_int (nomark _)) pa_nil)) (pa_cons (pv 4) pa_nil))) (pa_cons (pe_ix ix_list (pv 2) pe_int (fun _ _ => rfl)) pa_nil)))
      (pa_cons (pe_tup (pa_cons (pe_tup pa_nil) (pa_cons (pv 4) pa_nil))) pa_nil))))))
    (pss_cons (ps_set (i := 5) nd rfl (.inl rfl) (pe_op op_cat (pv 5) (pe_lst (pa_cons (pe_tup (pa_cons (pe_op op_fdivN (pv 4) pe_int) (pa_cons (pe_op op_modN (pe_ix ix_list (pv 2) pe_int (fun _ _ => rfl)) pe_int) (pa_cons (pe_ix ix_list (pv 2) pe_int (fun _ _ => rfl)) pa_nil))))
      (pa_cons (pe_slice sl_tupC (pe_tup (pa_cons (pe_ix ix_list (pv 2) pe_int (fun _ _ => rfl)) (pa_cons (pe_ix ix_list (pv 2) pe_int (fun _ _ => rfl)) (pa_cons (pv 4) pa_nil)))) po_none (po_some (pe_ix ix_list (pv 2) pe_int (fun _ _ => rfl)))) pa_nil)))))
    (pss_one (ps_ret (pe_ix ix_list (pe_op op_cat (pv 5) (pe_lst (pa_cons (pe_tup (pa_cons (pe_ix ix_list (pe_lst (pa_cons pe_str (pa_cons pe_str (pa_cons pe_str (pa_cons pe_str pa_nil))))) (pe_ix ix_list (pv 2) pe_int (fun _ _ => rfl)) (fun _ _ => rfl)) (pa_cons (pv 4) pa_nil))) pa_nil))) (pv 1) (fun _ _ => rfl)))))))), ?_⟩
  refine ⟨_, rfl, by decide, by decide, fun D nD => ?_⟩
  have nDl := (hP.not nD).1
  have nDc := (hP.not nD).2
  have off : ∀ {H' : Hp} {o : HO}, Ex1 l H H' → Ex1 l H (upd H' D o) := fun {H' o} x a u n e => by
    rw [upd_ne (ne_of_none e nD)]
    exact x a u n e
  refine lc_it walk_upto (fun j H5 => Ex1 l H H5 ∧ Pen H5 l c (S + j) ∧ ∃ ns : List Int, H5 D = some (.lst (ns.map V.int)) ∧ ns.length = j ∧ ∀ n ∈ ns, 0 ≤ n ∧ n < 4)
    ⟨off (.refl _ _), (hP.off nDl nDc).le (by omega), [], upd_same, rfl, fun n z => absurd z (by simp)⟩ (fun _ _ _ _ => trivial) ?_ ?_
  · rintro j x H5 H6 hj ⟨x5, p5, ns, e5, l5, b5⟩ ⟨rfl, rfl⟩
    refine ⟨rfl, ?_⟩
    have hj : j < 2 := hj
    refine ⟨_, rfl, l, c, 4, S + j, rfl, p5, by decide, by decide, by omega, fun r H7 r0 r1 p7 x7 => ?_⟩
    refine ⟨_, x7 _ _ nDl e5, by rw [List.length_map]; omega, off (x5.trans x7), (p7.off nDl nDc).le (by omega), ns ++ [r], ?_, by rw [List.length_append, l5]; rfl, fun n z => ?_⟩
    · rw [upd_same, List.map_append]
      rfl
    · rcases List.mem_append.mp z with z | z
      · exact b5 n z
      · obtain rfl := List.mem_singleton.mp z
        exact ⟨r0, r1⟩
  rintro H1 ⟨x1, p1, ns, e1, l1, b1⟩
  obtain ⟨a, b, rfl⟩ : ∃ a b, ns = [a, b] := by
    match ns, l1 with
    | [a, b], _ => exact ⟨a, b, rfl⟩
  obtain ⟨a0, a4⟩ := b1 a (by simp)
  obtain ⟨b0, b4⟩ := b1 b (by simp)
  clear b1 l1
  have p1 : Pen H1 l c (S + 2) := p1.le (Int.le_refl _)
  have e1 : H1 D = some (.lst [.int a, .int b]) := e1
  -- far
  refine ⟨_, rfl, _, _, rfl, rfl, ⟨by decide, by decide, by decide⟩, _, _, rfl, rfl, _, _, rfl, rfl, ⟨by decide, by decide, by decide⟩, _, _, rfl, rfl, (by show 8 ≤ sizeLine; decide), fun fl nfl => ?_⟩
  have nfx := p1.not nfl
  have p1b := p1.off (o := .lst [.int 0, .int 9, .int 10, .int (-10), .int 99, .int 100, .int (10 ^ Int.toNat 30 - 1), .int (1 - 10 ^ Int.toNat 30)]) nfx.1 nfx.2
  have e1b : upd H1 fl (.lst [.int 0, .int 9, .int 10, .int (-10), .int 99, .int 100, .int (10 ^ Int.toNat 30 - 1), .int (1 - 10 ^ Int.toNat 30)]) D = some (.lst [.int a, .int b]) := by rw [upd_ne (ne_of_none e1 nfl)]; exact e1
  have efl : upd H1 fl (.lst [.int 0, .int 9, .int 10, .int (-10), .int 99, .int 100, .int (10 ^ Int.toNat 30 - 1), .int (1 - 10 ^ Int.toNat 30)]) fl = some (.lst [.int 0, .int 9, .int 10, .int (-10), .int 99, .int 100, .int (10 ^ Int.toNat 30 - 1), .int (1 - 10 ^ Int.toNat 30)]) := upd_same
  have x1b : Ex1 l H (upd H1 fl (.lst [.int 0, .int 9, .int 10, .int (-10), .int 99, .int 100, .int (10 ^ Int.toNat 30 - 1), .int (1 - 10 ^ Int.toNat 30)])) := x1.trans (Ex1.new nfl)
  refine ⟨_, rfl, l, c, 8, S + 2, rfl, p1b, by decide, by decide, by omega, fun r2 H2 r20 r21 p2 x2 => ?_⟩
  obtain ⟨far, hfar, efar⟩ := at_list (f := V.int) (xs := [0, 9, 10, -10, 99, 100, 10 ^ Int.toNat 30 - 1, 1 - 10 ^ Int.toNat 30]) r20 (by simpa using r21)
  have sfar : far.natAbs ≤ 10 ^ 31 := by
    simp only [List.mem_cons, List.not_mem_nil, or_false] at hfar
    rcases hfar with rfl | rfl | rfl | rfl | rfl | rfl | rfl | rfl <;> decide
  have e2 := x2 _ _ nDl e1b
  refine ⟨fl, _, _, .int far, rfl, rfl, SqL.of (x2 _ _ nfx.1 efl), efar, ?_⟩
  have x02 : Ex1 l H H2 := x1b.trans x2
  clear hfar efar efl x1b e1b p1b x2 e1 x1 p1 nfl nfx
  -- number
  have f0 : atI [V.int a, V.int b] 0 = some (.int a) := atI_nat (j := 0) rfl
  have f1 : atI [V.int a, V.int b] 1 = some (.int b) := atI_nat (j := 1) rfl
  refine ⟨_, rfl, D, _, 0, _, rfl, rfl, SqL.of e2, f0, _, rfl, D, _, 0, _, rfl, rfl, SqL.of e2, f0, _, rfl, D, _, 1, _, rfl, rfl, SqL.of e2, f1, _, _, rfl, rfl, _, rfl, (by show 4 ≤ sizeLine; decide), fun nl nnl => ?_⟩
  have nlx := p2.not nnl
  have p2b := p2.off (o := .lst [.int a, .int a, .int (b - 2), .int far]) nlx.1 nlx.2
  have e2b : upd H2 nl (.lst [.int a, .int a, .int (b - 2), .int far]) D = some (.lst [.int a, .int b]) := by rw [upd_ne (ne_of_none e2 nnl)]; exact e2
  have enl : upd H2 nl (.lst [.int a, .int a, .int (b - 2), .int far]) nl = some (.lst [.int a, .int a, .int (b - 2), .int far]) := upd_same
  have x2b : Ex1 l H (upd H2 nl (.lst [.int a, .int a, .int (b - 2), .int far])) := x02.trans (Ex1.new nnl)
  refine ⟨_, rfl, l, c, 4, S + 2 + 1, rfl, p2b, by decide, by decide, by omega, fun r3 H3 r30 r31 p3 x3 => ?_⟩
  obtain ⟨n, hn, en⟩ := at_list (f := V.int) (xs := [a, a, b - 2, far]) r30 (by simpa using r31)
  have sn : n.natAbs ≤ 10 ^ 31 := by
    have big : (10 : Nat) ^ 31 = 10000000000000000000000000000000 := by decide
    simp only [List.mem_cons, List.not_mem_nil, or_false] at hn
    rcases hn with rfl | rfl | rfl | rfl
    · omega
    · omega
    · omega
    · exact sfar
  have e3 := x3 _ _ nDl e2b
  refine ⟨nl, _, _, .int n, rfl, rfl, SqL.of (x3 _ _ nlx.1 enl), en, ?_⟩
  have x03 : Ex1 l H H3 := x2b.trans x3
  have p3 : Pen H3 l c (S + 4) := p3.le (by omega)
  clear hn en enl x2b e2b p2b x3 e2 x02 p2 nnl nlx
  refine ⟨_, rfl, (by show 1 ≤ sizeLine; decide), fun t1 nt1 => ?_⟩
  have s1 := new_same (o := .tup [.int n]) nt1
  have g1 : upd H3 t1 (.tup [.int n]) t1 = some (.tup [.int n]) := upd_same
  generalize upd H3 t1 (.tup [.int n]) = G1 at s1 g1 ⊢
  have d1 := s1 _ _ e3
  refine ⟨_, rfl, _, rfl, D, _, 1, _, rfl, rfl, SqL.of d1, f1, (by show 2 ≤ sizeLine; decide), fun t2 nt2 => ?_⟩
  have s2 := new_same (o := .tup [.int n, .int b]) nt2
  have g2 : upd G1 t2 (.tup [.int n, .int b]) t2 = some (.tup [.int n, .int b]) := upd_same
  generalize upd G1 t2 (.tup [.int n, .int b]) = G2 at s2 g2 ⊢
  have d2 := s2 _ _ d1
  refine ⟨_, rfl, D, _, 0, _, rfl, rfl, SqL.of d2, f0, _, _, rfl, rfl, .inr ⟨_, rfl, ?_⟩⟩
  obtain ⟨z, hz, sz⟩ : ∃ z : Int, (if (decide (0 < a)) = true then 1 else 0) = z ∧ small z := ⟨_, rfl, by by_cases h : 0 < a <;> simp [h, small]⟩
  rw [hz]
  refine ⟨_, rfl, (by show 2 ≤ sizeLine; decide), fun t3 nt3 => ?_⟩
  have s3 := new_same (o := .tup [.int z, .int n]) nt3
  have g3 : upd G2 t3 (.tup [.int z, .int n]) t3 = some (.tup [.int z, .int n]) := upd_same
  generalize upd G2 t3 (.tup [.int z, .int n]) = G3 at s3 g3 ⊢
  have d3 := s3 _ _ d2
  refine ⟨_, rfl, D, _, 1, _, rfl, rfl, SqL.of d3, f1, (by show 2 ≤ sizeLine; decide), fun t4 nt4 => ?_⟩
  have s4 := new_same (o := .tup [.ref t3, .int b]) nt4
  have g4 : upd G3 t4 (.tup [.ref t3, .int b]) t4 = some (.tup [.ref t3, .int b]) := upd_same
  generalize upd G3 t4 (.tup [.ref t3, .int b]) = G4 at s4 g4 ⊢
  have d4 := s4 _ _ d3
  refine ⟨(by show 0 ≤ sizeLine; decide), fun t5 nt5 => ?_⟩
  have s5 := new_same (o := .tup []) nt5
  have g5 : upd G4 t5 (.tup []) t5 = some (.tup []) := upd_same
  generalize upd G4 t5 (.tup []) = G5 at s5 g5 ⊢
  have d5 := s5 _ _ d4
  refine ⟨_, rfl, (by show 2 ≤ sizeLine; decide), fun t6 nt6 => ?_⟩
  have s6 := new_same (o := .tup [.ref t5, .int n]) nt6
  have g6 : upd G5 t6 (.tup [.ref t5, .int n]) t6 = some (.tup [.ref t5, .int n]) := upd_same
  generalize upd G5 t6 (.tup [.ref t5, .int n]) = G6 at s6 g6 ⊢
  have d6 := s6 _ _ d5
  refine ⟨(by show 4 ≤ sizeLine; decide), fun l1 nl1 => ?_⟩
  have s7 := new_same (o := .lst [.ref t1, .ref t2, .ref t4, .ref t6]) nl1
  have g7 : upd G6 l1 (.lst [.ref t1, .ref t2, .ref t4, .ref t6]) l1 = some (.lst [.ref t1, .ref t2, .ref t4, .ref t6]) := upd_same
  generalize upd G6 l1 (.lst [.ref t1, .ref t2, .ref t4, .ref t6]) = G7 at s7 g7 ⊢
  have d7 := s7 _ _ d6
  refine ⟨_, rfl, _, rfl, _, _, rfl, rfl, ⟨by decide, by decide⟩, _, rfl, D, _, 0, _, rfl, rfl, SqL.of d7, f0, _, _, rfl, rfl, (by show (2 : Int) ≠ 0; decide), _, rfl, D, _, 1, _, rfl, rfl, SqL.of d7, f1, (by show 3 ≤ sizeLine; decide), fun t7 nt7 => ?_⟩
  have s8 := new_same (o := .tup [.int (n.fdiv 2), .int (a.fmod 2), .int b]) nt7
  have g8 : upd G7 t7 (.tup [.int (n.fdiv 2), .int (a.fmod 2), .int b]) t7 = some (.tup [.int (n.fdiv 2), .int (a.fmod 2), .int b]) := upd_same
  generalize upd G7 t7 (.tup [.int (n.fdiv 2), .int (a.fmod 2), .int b]) = G8 at s8 g8 ⊢
  have d8 := s8 _ _ d7
  refine ⟨_, rfl, D, _, 0, _, rfl, rfl, SqL.of d8, f0, _, rfl, D, _, 1, _, rfl, rfl, SqL.of d8, f1, _, rfl, (by show 3 ≤ sizeLine; decide), fun t8 nt8 => ?_⟩
  have s9 := new_same (o := .tup [.int a, .int b, .int n]) nt8
  have g9 : upd G8 t8 (.tup [.int a, .int b, .int n]) t8 = some (.tup [.int a, .int b, .int n]) := upd_same
  generalize upd G8 t8 (.tup [.int a, .int b, .int n]) = G9 at s9 g9 ⊢
  have d9 := s9 _ _ d8
  refine ⟨_, rfl, D, _, 0, _, rfl, rfl, SqL.of d9, f0, _, rfl, t8, _, rfl, SqT.of g9, fun t9 GS s9x q9 => ?_⟩
  have s10 : Same G9 GS := s9x
  have d10 := s10 _ _ d9
  refine ⟨(by show 2 ≤ sizeLine; decide), fun l2 nl2 => ?_⟩
  have s11 := new_same (o := .lst [.ref t7, .ref t9]) nl2
  have g11 : upd GS l2 (.lst [.ref t7, .ref t9]) l2 = some (.lst [.ref t7, .ref t9]) := upd_same
  generalize upd GS l2 (.lst [.ref t7, .ref t9]) = G11 at s11 g11 ⊢
  have d11 := s11 _ _ d10
  have el1 := ((((s8).trans s9).trans s10).trans s11) _ _ g7
  refine ⟨l1, l2, _, _, rfl, rfl, el1, g11, (by show 6 ≤ sizeLine; decide), fun l3 nl3 => ?_⟩
  have s12 := new_same (o := .lst ([.ref t1, .ref t2, .ref t4, .ref t6] ++ [.ref t7, .ref t9])) nl3
  have g12 : upd G11 l3 (.lst ([.ref t1, .ref t2, .ref t4, .ref t6] ++ [.ref t7, .ref t9])) l3 = some (.lst ([.ref t1, .ref t2, .ref t4, .ref t6] ++ [.ref t7, .ref t9])) := upd_same
  generalize upd G11 l3 (.lst ([.ref t1, .ref t2, .ref t4, .ref t6] ++ [.ref t7, .ref t9])) = G12 at s12 g12 ⊢
  have d12 := s12 _ _ d11
  refine ⟨_, rfl, (by show 4 ≤ sizeLine; decide), fun l4 nl4 => ?_⟩
  have s13 := new_same (o := .lst [.str "a", .str "ab", .str "B", .str ""]) nl4
  have g13 : upd G12 l4 (.lst [.str "a", .str "ab", .str "B", .str ""]) l4 = some (.lst [.str "a", .str "ab", .str "B", .str ""]) := upd_same
  generalize upd G12 l4 (.lst [.str "a", .str "ab", .str "B", .str ""]) = G13 at s13 g13 ⊢
  have d13 := s13 _ _ d12
  obtain ⟨wd, hwd, ewd⟩ := at_list (f := V.str) (xs := ["a", "ab", "B", ""]) a0 (by simpa using a4)
  have pwd : Pl wd := by
    simp only [List.mem_cons, List.not_mem_nil, or_false] at hwd
    rcases hwd with rfl | rfl | rfl | rfl <;> exact ⟨by decide +kernel, by decide +kernel⟩
  refine ⟨_, rfl, D, _, 0, _, rfl, rfl, SqL.of d13, f0, l4, _, _, .str wd, rfl, rfl, SqL.of g13, ewd, _, rfl, (by show 2 ≤ sizeLine; decide), fun t10 nt10 => ?_⟩
  have s14 := new_same (o := .tup [.str wd, .int n]) nt10
  have g14 : upd G13 t10 (.tup [.str wd, .int n]) t10 = some (.tup [.str wd, .int n]) := upd_same
  generalize upd G13 t10 (.tup [.str wd, .int n]) = G14 at s14 g14 ⊢
  have d14 := s14 _ _ d13
  refine ⟨(by show 1 ≤ sizeLine; decide), fun l5 nl5 => ?_⟩
  have s15 := new_same (o := .lst [.ref t10]) nl5
  have g15 : upd G14 l5 (.lst [.ref t10]) l5 = some (.lst [.ref t10]) := upd_same
  generalize upd G14 l5 (.lst [.ref t10]) = G15 at s15 g15 ⊢
  have d15 := s15 _ _ d14
  have el3 := (((s13).trans s14).trans s15) _ _ g12
  refine ⟨l3, l5, _, _, rfl, rfl, el3, g15, (by show 7 ≤ sizeLine; decide), fun l6 nl6 => ?_⟩
  have s16 := new_same (o := .lst ([.ref t1, .ref t2, .ref t4, .ref t6] ++ [.ref t7, .ref t9] ++ [.ref t10])) nl6
  have g16 : upd G15 l6 (.lst ([.ref t1, .ref t2, .ref t4, .ref t6] ++ [.ref t7, .ref t9] ++ [.ref t10])) l6 = some (.lst ([.ref t1, .ref t2, .ref t4, .ref t6] ++ [.ref t7, .ref t9] ++ [.ref t10])) := upd_same
  generalize upd G15 l6 (.lst ([.ref t1, .ref t2, .ref t4, .ref t6] ++ [.ref t7, .ref t9] ++ [.ref t10])) = G16 at s16 g16 ⊢
  have d16 := s16 _ _ d15
  have S0 : Same H3 G16 := ((((((((((((((((s1).trans s2).trans s3).trans s4).trans s5).trans s6).trans s7).trans s8).trans s9).trans s10).trans s11).trans s12).trans s13).trans s14).trans s15).trans s16)
  have h1 := (((((((((((((((s2).trans s3).trans s4).trans s5).trans s6).trans s7).trans s8).trans s9).trans s10).trans s11).trans s12).trans s13).trans s14).trans s15).trans s16) _ _ g1
  have h2 := ((((((((((((((s3).trans s4).trans s5).trans s6).trans s7).trans s8).trans s9).trans s10).trans s11).trans s12).trans s13).trans s14).trans s15).trans s16) _ _ g2
  have h3 := (((((((((((((s4).trans s5).trans s6).trans s7).trans s8).trans s9).trans s10).trans s11).trans s12).trans s13).trans s14).trans s15).trans s16) _ _ g3
  have h4 := ((((((((((((s5).trans s6).trans s7).trans s8).trans s9).trans s10).trans s11).trans s12).trans s13).trans s14).trans s15).trans s16) _ _ g4
  have h5 := (((((((((((s6).trans s7).trans s8).trans s9).trans s10).trans s11).trans s12).trans s13).trans s14).trans s15).trans s16) _ _ g5
  have h6 := ((((((((((s7).trans s8).trans s9).trans s10).trans s11).trans s12).trans s13).trans s14).trans s15).trans s16) _ _ g6
  have h7 := ((((((((s9).trans s10).trans s11).trans s12).trans s13).trans s14).trans s15).trans s16) _ _ g8
  have h10 := ((s15).trans s16) _ _ g14
  have h9 : SqT K G16 t9 (cutV [.int a, .int b, .int n] none (some a)) := same_tup ((((((s11).trans s12).trans s13).trans s14).trans s15).trans s16) q9
  have ea : a = ((a.toNat : Nat) : Int) := by omega
  rw [ea, cut_take, ← ea] at h9
  have sm1 : small n := Nat.le_trans sn (by decide)
  have big62 : (3 : Nat) ≤ 10 ^ 62 := by decide
  have sma : small a := Nat.le_trans (show a.natAbs ≤ 3 by omega) big62
  have smb : small b := Nat.le_trans (show b.natAbs ≤ 3 by omega) big62
  have smn2 : small (n.fdiv 2) := Nat.le_trans (show (n.fdiv 2).natAbs ≤ 10 ^ 31 + 1 by
    have big : (10 : Nat) ^ 31 = 10000000000000000000000000000000 := by decide
    rw [Int.fdiv_eq_ediv_of_nonneg _ (by decide)]
    omega) (by decide)
  have sma2 : small (a.fmod 2) := Nat.le_trans (show (a.fmod 2).natAbs ≤ 3 by
    obtain ⟨u0, u1⟩ := fmod_in a (b := 2) (by decide)
    omega) big62
  have x9 : Ex1 l H G16 := x03.trans (ex1_of_same S0)
  have p9 := p3.same S0
  obtain ⟨v, d, e, hr', hd'⟩ : ∃ (v : V) (d : PyData), ([.ref t1, .ref t2, .ref t4, .ref t6] ++ [.ref t7, .ref t9] ++ [.ref t10] : List V)[m.toNat]? = some v ∧ IsRow m d ∧ Dp K G16 v d := by
    have : m = 0 ∨ m = 1 ∨ m = 2 ∨ m = 3 ∨ m = 4 ∨ m = 5 ∨ m = 6 := by omega
    rcases this with rfl | rfl | rfl | rfl | rfl | rfl | rfl
    · exact ⟨_, _, rfl, isRow_ints (ns := [n]) (by decide) (by decide) (by decide) (by simp) (by simpa using sm1), .tup (SqT.of h1) (.cons (.int _) .nil)⟩
    · exact ⟨_, _, rfl, isRow_ints (ns := [n, b]) (by decide) (by decide) (by decide) (by simp) (by simpa using ⟨sm1, smb⟩), .tup (SqT.of h2) (.cons (.int _) (.cons (.int _) .nil))⟩
    · exact ⟨_, _, rfl, ⟨z, n, b, sz, sm1, smb, rfl⟩, .tup (SqT.of h4) (.cons (.tup (SqT.of h3) (.cons (.int _) (.cons (.int _) .nil))) (.cons (.int _) .nil))⟩
    · exact ⟨_, _, rfl, ⟨n, sm1, rfl⟩, .tup (SqT.of h6) (.cons (.tup (SqT.of h5) .nil) (.cons (.int _) .nil))⟩
    · exact ⟨_, _, rfl, isRow_ints (ns := [n.fdiv 2, a.fmod 2, b]) (by decide) (by decide) (by decide) (by simp) (by simpa using ⟨smn2, sma2, smb⟩), .tup (SqT.of h7) (.cons (.int _) (.cons (.int _) (.cons (.int _) .nil)))⟩
    · refine ⟨_, _, rfl, isRow_ints (ns := [a, b, n].take a.toNat) (by decide) (by decide) (by decide) ?_ ?_, .tup h9 ?_⟩
      · rw [List.length_take]
        exact Nat.min_le_right _ _
      · intro k hk
        have := List.mem_of_mem_take hk
        simp only [List.mem_cons, List.not_mem_nil, or_false] at this
        rcases this with rfl | rfl | rfl <;> assumption
      · have e9 : ([.int a, .int b, .int n] : List V).take a.toNat = ([a, b, n].take a.toNat).map V.int := by rw [List.map_take]; rfl
        rw [e9]
        exact dp_ints _
    · exact ⟨_, _, rfl, ⟨wd, n, pwd, sm1, rfl⟩, .tup (SqT.of h10) (.cons (.str _) (.cons (.int _) .nil))⟩
  exact ⟨_, rfl, l6, _, m, v, rfl, rfl, SqL.of g16, (by rw [show m = ((m.toNat : Nat) : Int) by omega]; exact atI_nat e), q v d _ hr' hd' p9 x9⟩
end
end K42
end

section
set_option Elab.async false
set_option linter.all false
set_option maxRecDepth 100000
set_option maxHeartbeats 4000000
namespace K42
open PySem PySem.Spec PyProof.Rows L2 Gd
abbrev sLend : Stmt := inClass (topS 10) 4
abbrev sCb : Stmt := inClass (topS 10) 5
theorem scLend : FnScope ["self", "n"] ["self", "n"] (defScope sLend) := ⟨rfl, rfl, rfl, by decide +kernel, rfl, by decide +kernel, by decide +kernel⟩
theorem scCb : FnScope ["self", "n"] ["self", "n"] (defScope sCb) := ⟨rfl, rfl, rfl, by decide +kernel, rfl, by decide +kernel, by decide +kernel⟩
theorem put_most {m : Int} {r l : Addr} {s : Int} {e : Bool} (x : Int) : putF "_most" (.int x) (pf m r l s e) = pf x r l s e := by rfl
def Pi.cb (x : Pi) (n : Int) : Pi := if x.m - n < (x.rows.length : Int) then Pi.flush { x with m := x.m - n } else { x with m := x.m - n }
def spLend (K : PySem.W.Frag) (C : Addr) : Sp := fun vs H Q _ => ∃ (D H0 : Hp) (p : Addr) (x : Pi) (n : Int), vs = [.ref p, .int n] ∧ PileAt K C D H0 H p x ∧ ∀ H' : Hp, PileAt K C D H0 H' p { x with m := x.m + n } → Q .non H'
def spCb (K : PySem.W.Frag) (C : Addr) (cs : Nat → Addr) : Sp := fun vs H Q E => ∃ (D H0 : Hp) (p : Addr) (x : Pi) (n : Int), vs = [.ref p, .int n] ∧ PileAt K C D H0 H p x ∧ (x.m - n < 1 → E (.ref (cs 2)) none H) ∧
  (1 ≤ x.m - n → RowsOk x.rows ∧ x.lots.length ≤ 4000 ∧ ∀ H' : Hp, PileAt K C D H0 H' p (x.cb n) → Q .non H')
section
variable {P : Program} {w : World} {K : PySem.W.Frag} {mg : Str → Option Value} {base : Heap} {f fA fE C : Addr} {fd dA dE : FuncData} {cs : Nat → Addr}
/-- the field _most alone -/
theorem PileAt.most {D H0 H : Hp} {p dx r l : Addr} {x : Pi} {vs ls : List V} {m' : Int} (sD : Same D H0) (s0 : Same H0 H) (p0 : H0 p = none) (r0 : H0 r = none) (l0 : H0 l = none) (nrl : r ≠ l) (ep : H p = some (.ins C dx (pf x.m r l x.s x.e))) (er : H r = some (.lst vs))
    (dr : DpAll K D vs x.rows) (el : H l = some (.lst ls)) (hl : LotsAt K D H0 H r l ls x.lots) : PileAt K C D H0 (upd H p (.ins C dx (pf m' r l x.s x.e))) p { x with m := m' } := by
  have keep : ∀ a o, a ≠ p → H a = some o → upd H p (.ins C dx (pf m' r l x.s x.e)) a = some o := fun a o n1 e => by
    rw [upd_ne n1]
    exact e
  exact ⟨sD, fun b o e => keep b o (fun z => by rw [z, p0] at e; cases e) (s0 _ _ e), p0, dx, r, l, vs, ls, r0, l0, nrl, upd_same, keep _ _ (ins_ne ep er (fun _ _ _ z => nomatch z)) er, dr, keep _ _ (ins_ne ep el (fun _ _ _ z => nomatch z)) el,
    hl.go fun a vs n0 n1 n2 e => ⟨n0, keep _ _ (ins_ne ep e (fun _ _ _ z => nomatch z)) e, n1, n2⟩⟩
theorem ok_lend (F : Fun K "lend" "Pile.lend" sLend f fd) (T : Txt K mg C cs) : FnOk P w K mg base CX0 1 f fd ["self", "n"] (spLend K C) := by
  refine F.ok scLend (fun vs H Q E h => ?_) (fun cdv A outer s H vs Q E hr h => ?_)
  · obtain ⟨D, H0, p, x, n, rfl, _⟩ := h
    rfl
  obtain ⟨D, H0, p, x, n, rfl, ⟨sD, s0, p0, dx, r, l, vs, ls, r0, l0, nrl, ep, er, dr, el, hl⟩, q⟩ := h
  refine ⟨_, pss_one (ps_fldaug (pv 0) (pv 1) in_add), ?_⟩
  refine ⟨_, rfl, p, C, dx, _, _, rfl, ep, T.cl, T.nM, pf_most, _, rfl, _, _, rfl, rfl, dx, _, ep, (by show 5 < 1000; decide), ?_⟩
  rw [put_most]
  exact q _ (PileAt.most sD s0 p0 r0 l0 nrl ep er dr el hl)
theorem ok_cb (F : Fun K "call_back" "Pile.call_back" sCb f fd) (T : Txt K mg C cs) (c42 : Cls42 K mg cs) (FA : Fun K "_add_lot" "Pile._add_lot" sAdd fA dA) (bA : Binds K dA ["self", "rows"] []) (mA : Meth K C "_add_lot" fA)
    (FE : Fun K "_empty_hand" "Pile._empty_hand" sEmp fE dE) (bE : Binds K dE ["self"] []) (mE : Meth K C "_empty_hand" fE) : FnOk P w K mg base (L2.CX P w) 3 f fd ["self", "n"] (spCb K C cs) := by
  have GE : FnOk P w K mg base CX0 2 fE dE ["self"] (spEmp K C) := ok_emp FE T FA bA mA
  refine F.okX scCb (fun vs H Q E h => ?_) (fun cdv A outer s H vs Q E hr h => ?_)
  · obtain ⟨D, H0, p, x, n, rfl, _⟩ := h
    rfl
  obtain ⟨D, H0, p, x, n, rfl, ⟨sD, s0, p0, dx, r, l, vs, ls, r0, l0, nrl, ep, er, dr, el, hl⟩, q1, q2⟩ := h
  have lv : vs.length = x.rows.length := DpAll.len dr
  refine ⟨_, pss_cons (ps_if (pt_cmpR op_lt (pe_op op_sub (pe_fld (pv 0) rfl) (pv 1)) pe_int (nomark _)) (pss_one (ps_raise rfl (takes_of rfl rfl rfl rfl) (pmk_exB0 (T.ex 2 (by decide)).1 (T.ex 2 (by decide)).2 (by rfl) c42.g2 (raises0 c42 (by decide))))) pss_nil)
    (pss_cons (ps_fldaug (pv 0) (pv 1) in_sub)
    (pss_one (ps_if (pt_cmpR op_gt (pe_callB call_len_seq (by rfl) T.len PySem.boot_len (pa_cons (pe_fld (pv 0) rfl) pa_nil)) (pe_fld (pv 0) rfl) (nomark _))
      (pss_one (ps_expr (pe_meth0 (pv 0) T.cl mE GE hr bE .nil pass0))) pss_nil))), ?_⟩
  refine ⟨_, rfl, p, C, dx, _, _, rfl, ep, T.cl, T.nM, pf_most, _, rfl, _, _, rfl, rfl, _, _, rfl, rfl, _, rfl, ite2 (fun h => q1 (by simpa using h)) (fun h => ?_)⟩
  have h : 1 ≤ x.m - n := by
    have : ¬ x.m - n < 1 := by simpa using h
    omega
  obtain ⟨ok, hz, q⟩ := q2 h
  refine ⟨_, rfl, p, C, dx, _, _, rfl, ep, T.cl, T.nM, pf_most, _, rfl, _, _, rfl, rfl, dx, _, ep, (by show 5 < 1000; decide), ?_⟩
  rw [put_most]
  have R := PileAt.most (m' := x.m - n) sD s0 p0 r0 l0 nrl ep er dr el hl
  unfold Pi.cb at q
  generalize upd H p (.ins C dx (pf (x.m - n) r l x.s x.e)) = H1 at R ⊢
  obtain ⟨_, _, _, dx1, r1, l1, vs1, ls1, _, _, _, ep1, er1, dr1, _⟩ := id R
  have lv1 : vs1.length = x.rows.length := DpAll.len dr1
  refine ⟨_, rfl, p, C, dx1, _, _, rfl, ep1, T.cl, T.nR, pf_rows, r1, _, rfl, .inl (SqL.of er1), _, rfl, p, C, dx1, _, _, rfl, ep1, T.cl, T.nM, pf_most, _, _, rfl, rfl, _, rfl, ite2 (fun g => ?_) (fun g => ?_)⟩
  · have g : x.m - n < (vs1.length : Int) := by simpa using g
    rw [if_pos (by omega)] at q
    exact ⟨_, rfl, p, dx1, _, rfl, ep1, pf_no (by decide +kernel), D, H0, p, _, rfl, R, ok, hz, fun H2 R2 => q H2 R2⟩
  · have g : ¬ x.m - n < (vs1.length : Int) := by simpa using g
    rw [if_neg (by omega)] at q
    exact q _ R
end
end K42
end

section
set_option Elab.async false
set_option linter.all false
set_option maxRecDepth 100000
set_option maxHeartbeats 4000000
namespace K42
open PySem PySem.Spec PyProof.Rows L2 Gd LamX
/-- heard(lambda: ..): raising one of the three, or not raising -/
def TBoth (K : PySem.W.Frag) (cs : Nat → Addr) : (XK → Hp → VK → Prop) → Hp → VK → Prop := fun tl H Q =>
  THeard K cs tl H Q ∨ ∀ Q' : VK, (∀ v H', (∀ b, H' b = none → Q (.ref b) (upd H' b (.lst [v]))) → Q' v H') → tl (fun _ _ _ => False) H Q'
section
variable {X : Cx} {cs : Nat → Addr}
theorem heard_both {g : Addr} {q : Str} {cdg : Value} (T : Cls42 X.K X.mg cs) (ms : X.mg "sum" = none) (mv : X.mg "ValueError" = none) : GivesTo X nHeard "_law_heard" (defScope sHeard) g cdg (defBody sHeard) "_law_ask" q (TBoth X.K cs) := by
  intro f c' s H Q tl act hc h
  rcases h with h | h
  · exact heard_gives T ms mv f c' s H Q tl act hc h
  have nd := scHeard.nd
  refine ⟨_, pss_cons (ps_set (i := 1) nd rfl (.inl rfl) pe_non)
    (pss_cons (ps_try_as (X := (cxOf C8.CX0 X.prog X.w X.K X.mg X.base nHeard "_law_heard" (defScope sHeard) g cdg X.A X.stack s H C8.E0).nox) (i := 3) (c := .ref (cs 6)) (Wout := fun _ _ _ _ => False)
      (tb := fun W D σ H => ∃ Ech : XK, (∀ cls d σ' H', Ech cls d H' → W cls d σ' H') ∧ σ[0]? = some (some (.ref f)) ∧ H c' = some (CodeO c' q) ∧ tl Ech H (fun v H' => 1 ≤ sizeLine ∧ ∀ b, H' b = none → D.nx (σ.set 2 (some (.ref b))) (upd H' b (.lst [v]))))
      rfl rfl nd rfl rfl ⟨rfl, by decide, .inl T.g6⟩ L2.takes0 (fun W pn xe tk _ => ?_) (fun a oe cls d pn _ _ => pss_one (ps_set (i := 1) nd rfl (.inl rfl) (pv 3))))
    (pss_cons (ps_if (pt_cmpR op_isN (pv 1) pe_non (nomark _)) (pss_one (ps_ret (pv 2))) pss_nil)
    (pss_cons ps_never (pss_cons ps_never (pss_one ps_never))))), ?_⟩
  · refine ⟨fun pins s' σ H' D I h' => ?_⟩
    obtain ⟨Ech, hW, h1, h2, h3⟩ := h'
    exact PSs.run (pss_one (ps_set (i := 2) nd rfl (.inl rfl) (pe_lst (pa_cons (act W pn xe Ech _ _ tk hW) pa_nil)))) pins s' σ H' D I ⟨h1, h2, h3⟩
  · refine ⟨fun _ _ _ => False, fun cls d σ' H' z => z.elim, rfl, hc, ?_⟩
    refine h _ fun v H' hv => ⟨by decide, fun b nb => ?_⟩
    exact ⟨_, rfl, rfl, _, rfl, iteT ⟨_, rfl, hv b nb⟩⟩
end
end K42
end

section
set_option Elab.async false
set_option linter.all false
set_option maxRecDepth 100000
set_option maxHeartbeats 4000000
namespace K42
open PySem PySem.Spec PyProof.Rows L2 Gd LamX
theorem each_in {α β : Type} {R : α → β → Prop} : ∀ {as : List α} {bs : List β}, PySem.W.EachIs R as bs → PySem.W.EachIs (fun a b => a ∈ as ∧ R a b) as bs
  | _, _, .nil => .nil
  | _, _, .cons h t => .cons ⟨List.mem_cons_self, h⟩ ((each_in t).mono fun _ _ q => ⟨List.mem_cons_of_mem _ q.1, q.2⟩)
def NoT (H : Hp) : Prop := ∀ b ps, H b ≠ some (.tbl ps)
/-- what is told without tables -/
def noT (H : Hp) : Hp := fun b => match H b with
  | some (.tbl _) => none
  | o => o
theorem noT_no (H : Hp) : NoT (noT H) := fun b ps => by
  unfold noT
  cases h : H b with
  | none => simp
  | some o => cases o <;> simp
theorem noT_at {H : Hp} {b : Addr} {o : HO} (h : H b = some o) (n : ∀ ps, o ≠ .tbl ps) : noT H b = some o := by
  unfold noT
  rw [h]
  cases o <;> first | rfl | exact absurd rfl (n _)
theorem noT_of {H : Hp} {b : Addr} {o : HO} (h : noT H b = some o) : H b = some o := by
  unfold noT at h
  cases e : H b with
  | none => rw [e] at h; exact h
  | some u =>
    rw [e] at h
    cases u <;> first | exact h | cases h
theorem noT_same (H : Hp) : Same (noT H) H := fun b o h => noT_of h
section
variable {K : PySem.W.Frag} {C : Addr} {D H0 H0' H H' : Hp} {p : Addr} {x : Pi}
theorem PileAt.ext (h : PileAt K C D H0 H p x) (n : NoT H0) (e : ExtN H H') : PileAt K C D H0 H' p x := by
  obtain ⟨sD, s0, p0, dx, r, l, vs, ls, r0, l0, nrl, ep, er, dr, el, hl⟩ := h
  refine ⟨sD, fun b o z => e _ _ (s0 _ _ z) (fun ps q => n b ps (by rw [z, q])), p0, dx, r, l, vs, ls, r0, l0, nrl, e _ _ ep (fun _ z => nomatch z), e _ _ er (fun _ z => nomatch z), dr, e _ _ el (fun _ z => nomatch z), ?_⟩
  exact hl.go fun a vs n0 n1 n2 q => ⟨n0, e _ _ q (fun _ z => nomatch z), n1, n2⟩
/-- all but the pile's own objects is kept by its methods -/
theorem PileAt.full (h : PileAt K C D H0 H p x) : ∃ H1, PileAt K C D H1 H p x ∧ Same H0 H1 ∧ ∀ b o, H b = some o → (∀ C dx fs, o ≠ .ins C dx fs) → (∀ xs, o ≠ .lst xs) → H1 b = some o := by
  obtain ⟨sD, s0, p0, dx, r, l, vs, ls, r0, l0, nrl, ep, er, dr, el, hl⟩ := h
  have dec : ∀ b, Decidable (b = p ∨ b = r ∨ b = l ∨ ∃ v ∈ ls, v = V.ref b) := fun b => Classical.propDecidable _
  let H1 : Hp := fun b => @ite _ (b = p ∨ b = r ∨ b = l ∨ ∃ v ∈ ls, v = V.ref b) (dec b) none (H b)
  have at0 : ∀ {b}, (b = p ∨ b = r ∨ b = l ∨ ∃ v ∈ ls, v = V.ref b) → H1 b = none := fun z => if_pos z
  have at1 : ∀ {b}, ¬ (b = p ∨ b = r ∨ b = l ∨ ∃ v ∈ ls, v = V.ref b) → H1 b = H b := fun z => if_neg z
  have lot : ∀ b, (∃ v ∈ ls, v = V.ref b) → H0 b = none ∧ ∃ vs, H b = some (.lst vs) := by
    rintro b ⟨v, hv, rfl⟩
    obtain ⟨d, _, a, vs, e, n0, _, _, e1, _⟩ := hl.left _ hv
    cases e
    exact ⟨n0, vs, e1⟩
  have s01 : Same H0 H1 := fun b o z => by
    rw [at1 (by
      rintro (rfl | rfl | rfl | g)
      · rw [p0] at z; cases z
      · rw [r0] at z; cases z
      · rw [l0] at z; cases z
      · rw [(lot b g).1] at z; cases z)]
    exact s0 _ _ z
  have hl' : LotsAt K D H1 H r l ls x.lots := by
    have : PySem.W.EachIs (fun v lot => v ∈ ls ∧ ∃ a vs, v = .ref a ∧ H0 a = none ∧ a ≠ r ∧ a ≠ l ∧ H a = some (.lst vs) ∧ DpAll K D vs lot) ls x.lots := each_in hl
    exact this.mono fun v lot ⟨m, a, vs, e, n0, n1, n2, hv, d⟩ => ⟨a, vs, e, at0 (.inr (.inr (.inr ⟨v, m, e⟩))), n1, n2, hv, d⟩
  refine ⟨H1, ⟨sD.trans s01, fun b o z => ?_, at0 (.inl rfl), dx, r, l, vs, ls, at0 (.inr (.inl rfl)), at0 (.inr (.inr (.inl rfl))), nrl, ep, er, dr, el, hl'⟩, s01, fun b o z n1 n2 => ?_⟩
  · by_cases c : b = p ∨ b = r ∨ b = l ∨ ∃ v ∈ ls, v = V.ref b
    · rw [at0 c] at z
      cases z
    · rw [at1 c] at z
      exact z
  · rw [at1 ?_]
    · exact z
    · rintro (rfl | rfl | rfl | g)
      · rw [ep] at z
        exact n1 _ _ _ (Option.some.inj z).symm
      · rw [er] at z
        exact n2 _ (Option.some.inj z).symm
      · rw [el] at z
        exact n2 _ (Option.some.inj z).symm
      · obtain ⟨_, vs, e⟩ := lot b g
        rw [e] at z
        exact n2 _ (Option.some.inj z).symm
/-- a thing of the frame is written -/
theorem PileAt.ex1 {q : Addr} {o o' : HO} (h : PileAt K C D H0 H p x) (n : NoT H0) (nt : ∀ ps, o' ≠ .tbl ps) (d0 : D q = none) (e0 : H0 q = some o) (ex : Ex1 q H H') (e1 : H' q = some o') :
    PileAt K C D (upd H0 q o') H' p x ∧ NoT (upd H0 q o') ∧ Ex1 q H0 (upd H0 q o') := by
  obtain ⟨sD, s0, p0, dx, r, l, vs, ls, r0, l0, nrl, ep, er, dr, el, hl⟩ := h
  have ne : ∀ {b}, H0 b = none → b ≠ q := fun z e => by rw [e, e0] at z; cases z
  refine ⟨⟨fun b u z => ?_, fun b u z => ?_, ?_, dx, r, l, vs, ls, ?_, ?_, nrl, ex _ _ (ne p0) ep, ex _ _ (ne r0) er, dr, ex _ _ (ne l0) el, hl.go fun a vs n0 n1 n2 e => ⟨?_, ex _ _ (ne n0) e, n1, n2⟩⟩, fun b ps z => ?_, .at⟩
  · rw [upd_ne (ne_of_none z d0)]
    exact sD _ _ z
  · by_cases e : b = q
    · rw [e, upd_same] at z
      rw [e, e1, z]
    · rw [upd_ne e] at z
      exact ex _ _ e (s0 _ _ z)
  · rw [upd_ne (ne p0)]
    exact p0
  · rw [upd_ne (ne r0)]
    exact r0
  · rw [upd_ne (ne l0)]
    exact l0
  · rw [upd_ne (ne n0)]
    exact n0
  · by_cases e : b = q
    · rw [e, upd_same] at z
      exact nt ps (Option.some.inj z)
    · rw [upd_ne e] at z
      exact n b ps z
/-- one new object is kept as well -/
theorem PileAt.add {a : Addr} {o : HO} (h : PileAt K C D H0 H p x) (s : Same H H') (na : H a = none) (ea : H' a = some o) (nt : ∀ ps, o ≠ .tbl ps) (n : NoT H0) : ∃ H1, PileAt K C D H1 H' p x ∧ Same H0 H1 ∧ H1 a = some o ∧ NoT H1 := by
  obtain ⟨sD, s0, p0, dx, r, l, vs, ls, r0, l0, nrl, ep, er, dr, el, hl⟩ := h
  have n0 : H0 a = none := s0.free na
  have s01 : Same H0 (upd H0 a o) := new_same n0
  refine ⟨upd H0 a o, ⟨sD.trans s01, fun b u z => ?_, ?_, dx, r, l, vs, ls, ?_, ?_, nrl, s _ _ ep, s _ _ er, dr, s _ _ el, hl.go fun a' vs n0 n1 n2 q => ⟨by rw [upd_ne (ne_of_none q na)]; exact n0, s _ _ q, n1, n2⟩⟩, s01, upd_same, fun b ps z => ?_⟩
  · by_cases e : b = a
    · rw [e, upd_same] at z
      rw [e, ea, z]
    · rw [upd_ne e] at z
      exact s _ _ (s0 _ _ z)
  · rw [upd_ne (ne_of_none ep na)]
    exact p0
  · rw [upd_ne (ne_of_none er na)]
    exact r0
  · rw [upd_ne (ne_of_none el na)]
    exact l0
  · by_cases e : b = a
    · rw [e, upd_same] at z
      exact nt ps (Option.some.inj z)
    · rw [upd_ne e] at z
      exact n b ps z
theorem tabs_by {T : List (Addr × Str)} {H1 : Hp} (t : Tabs T H) (k : ∀ b o, H b = some o → (∀ C dx fs, o ≠ .ins C dx fs) → (∀ xs, o ≠ .lst xs) → H1 b = some o) (s : Same H1 H') : Tabs T H' := fun q hq => by
  obtain ⟨ps, h1, h2, h3⟩ := t q hq
  refine ⟨ps, s _ _ (k _ _ h1 (fun _ _ _ z => nomatch z) (fun _ z => nomatch z)), h2, fun pos cv hc => ?_⟩
  obtain ⟨c, e1, e2⟩ := h3 pos cv hc
  exact ⟨c, e1, s _ _ (k _ _ e2 (fun _ _ _ z => nomatch z) (fun _ z => nomatch z))⟩
end
end K42
end

section
set_option Elab.async false
set_option linter.all false
set_option maxRecDepth 100000
set_option maxHeartbeats 4000000
namespace K42
open PySem PySem.Spec PyProof.Rows L2 Gd
theorem told_len (ds : List PyData) : (told ds).length = ds.length := (told_perm ds).length_eq
structure Pre (sp : Nat) (x : Pi) (j : Nat) (ds : List PyData) : Prop where
  m : x.m = (sp : Int)
  e : x.e = false
  all : ∀ lot ∈ x.lots, lot.length = sp
  st : ∀ lot ∈ x.lots, ∃ z, lot = told z
  s : x.s = ((x.lots.length * sp : Nat) : Int)
  len : x.lots.length * sp + x.rows.length = j
  r1 : 0 < j → 1 ≤ x.rows.length
  r2 : x.rows.length ≤ sp
  pm : (x.lots.flatten ++ x.rows).Perm ds
theorem pre_new (sp : Nat) : Pre sp ⟨(sp : Int), [], [], 0, false⟩ 0 [] := ⟨rfl, rfl, fun _ h => absurd h (by simp), fun _ h => absurd h (by simp), by simp, by simp, fun h => absurd h (by simp), Nat.zero_le _, by simp⟩
theorem pre_put {sp : Nat} {x : Pi} {j : Nat} {ds : List PyData} {d : PyData} (h : Pre sp x j ds) (h1 : 1 ≤ sp) : Pre sp (x.put d) (j + 1) (ds ++ [d]) := by
  have hm := h.m
  have hlen := h.len
  have hr2 := h.r2
  unfold Pi.put
  by_cases g : x.m ≤ (x.rows.length : Int)
  · rw [if_pos g]
    have e : x.rows.length = sp := by omega
    rw [flush_ne (by omega)]
    refine ⟨h.m, h.e, ?_, ?_, ?_, ?_, fun _ => ?_, ?_, ?_⟩
    · intro lot hl
      rcases List.mem_append.mp hl with hl | hl
      · exact h.all lot hl
      · obtain rfl := List.mem_singleton.mp hl
        rw [told_len, e]
    · intro lot hl
      rcases List.mem_append.mp hl with hl | hl
      · exact h.st lot hl
      · obtain rfl := List.mem_singleton.mp hl
        exact ⟨_, rfl⟩
    · show x.s + (x.rows.length : Int) = (((x.lots ++ [told x.rows]).length * sp : Nat) : Int)
      rw [h.s, e, List.length_append, List.length_singleton, Nat.add_mul, Nat.one_mul]
      omega
    · show (x.lots ++ [told x.rows]).length * sp + ([] ++ [d]).length = j + 1
      rw [List.length_append, List.length_singleton, Nat.add_mul, Nat.one_mul, ← hlen, e]
      rfl
    · show 1 ≤ ([] ++ [d] : List PyData).length
      exact Nat.le_refl _
    · show ([] ++ [d] : List PyData).length ≤ sp
      exact h1
    · show ((x.lots ++ [told x.rows]).flatten ++ ([] ++ [d])).Perm (ds ++ [d])
      rw [List.flatten_append, List.nil_append]
      refine List.Perm.append ?_ (List.Perm.refl _)
      refine List.Perm.trans (List.Perm.append (List.Perm.refl _) ?_) h.pm
      simpa using told_perm x.rows
  · rw [if_neg g]
    refine ⟨h.m, h.e, h.all, h.st, h.s, ?_, fun _ => ?_, ?_, ?_⟩
    · show x.lots.length * sp + (x.rows ++ [d]).length = j + 1
      rw [List.length_append, List.length_singleton]
      omega
    · show 1 ≤ (x.rows ++ [d]).length
      rw [List.length_append, List.length_singleton]
      omega
    · show (x.rows ++ [d]).length ≤ sp
      rw [List.length_append, List.length_singleton]
      omega
    · show (x.lots.flatten ++ (x.rows ++ [d])).Perm (ds ++ [d])
      rw [← List.append_assoc]
      exact List.Perm.append h.pm (List.Perm.refl _)
/-- what is told after j + 1 puts -/
theorem pre_count {sp : Nat} {x : Pi} {j : Nat} {ds : List PyData} (h : Pre sp x (j + 1) ds) (h1 : 1 ≤ sp) : x.lots.length = j / sp := by
  have hl := h.len
  have ha := h.r1 (Nat.succ_pos j)
  have hb := h.r2
  symm
  have e : j = x.lots.length * sp + (x.rows.length - 1) := by omega
  rw [e, Nat.mul_comm, Nat.mul_add_div (by omega), Nat.div_eq_of_lt (by omega), Nat.add_zero]
def sizesOf (n sp : Nat) : List Nat := List.replicate (n / sp) sp ++ (if n % sp = 0 then [] else [n % sp])
structure Post (sp : Nat) (x : Pi) (zs : List Nat) (ds : List PyData) : Prop where
  m : x.m = (sp : Int)
  e : x.e = true
  len : x.lots.map List.length = zs
  st : ∀ lot ∈ x.lots, ∃ z, lot = told z
  pm : x.lots.flatten.Perm ds
theorem post_fin {sp : Nat} {x : Pi} {n : Nat} {ds : List PyData} (h : Pre sp x n ds) (h1 : 1 ≤ sp) : Post sp x.fin (sizesOf n sp) ds ∧ x.fin.s = (n : Int) := by
  have hlen := h.len
  have hr2 := h.r2
  have mapl : x.lots.map List.length = List.replicate x.lots.length sp := by
    rw [List.eq_replicate_iff, List.length_map]
    refine ⟨rfl, fun b hb => ?_⟩
    obtain ⟨lot, hl, rfl⟩ := List.mem_map.mp hb
    exact h.all lot hl
  unfold Pi.fin
  by_cases g : x.rows.length = 0
  · rw [flush_e g]
    have n0 : n = 0 := by
      by_cases z : 0 < n
      · have := h.r1 z
        omega
      · omega
    subst n0
    have l0 : x.lots.length = 0 := by
      rcases Nat.eq_zero_or_pos x.lots.length with z | z
      · exact z
      · have := Nat.mul_pos z h1
        omega
    have r0 : x.rows = [] := List.eq_nil_of_length_eq_zero g
    refine ⟨⟨h.m, rfl, ?_, h.st, by have := h.pm; rw [r0, List.append_nil] at this; exact this⟩, ?_⟩
    · show x.lots.map List.length = sizesOf 0 sp
      rw [mapl, l0]
      unfold sizesOf
      rw [Nat.zero_div, Nat.zero_mod]
      rfl
    · show x.s = ((0 : Nat) : Int)
      rw [h.s, l0, Nat.zero_mul]
  · rw [flush_ne g]
    refine ⟨⟨h.m, rfl, ?_, ?_, ?_⟩, ?_⟩
    · show (x.lots ++ [told x.rows]).map List.length = sizesOf n sp
      rw [List.map_append, mapl, List.map_cons, List.map_nil, told_len]
      unfold sizesOf
      by_cases z : x.rows.length = sp
      · have e : n = (x.lots.length + 1) * sp := by rw [Nat.add_mul, Nat.one_mul]; omega
        rw [e, Nat.mul_mod_left, if_pos rfl, Nat.mul_div_cancel _ h1, List.append_nil, List.replicate_succ', z]
      · have e : n = sp * x.lots.length + x.rows.length := by rw [Nat.mul_comm]; omega
        have lt : x.rows.length < sp := by omega
        rw [e, Nat.mul_add_div (by omega), Nat.div_eq_of_lt lt, Nat.add_zero, Nat.mul_add_mod, Nat.mod_eq_of_lt lt, if_neg g]
    · intro lot hl
      rcases List.mem_append.mp hl with hl | hl
      · exact h.st lot hl
      · obtain rfl := List.mem_singleton.mp hl
        exact ⟨_, rfl⟩
    · show (x.lots ++ [told x.rows]).flatten.Perm ds
      rw [List.flatten_append]
      refine List.Perm.trans (List.Perm.append (List.Perm.refl _) ?_) h.pm
      simpa using told_perm x.rows
    · show x.s + (x.rows.length : Int) = (n : Int)
      rw [h.s]
      omega
theorem many_eq {sp : Nat} {x : Pi} (h : x.m = (sp : Int)) : x.many.toNat = max 2 sp := by
  unfold Pi.many
  rw [h]
  by_cases z : (sp : Int) > 2
  · rw [if_pos z]
    omega
  · rw [if_neg z]
    omega
theorem flat_sum (xss : List (List PyData)) : xss.flatten.length = (xss.map List.length).sum := by
  rw [List.length_flatten]
theorem post_merge {sp : Nat} {x : Pi} {zs : List Nat} {ds : List PyData} (h : Post sp x zs ds) :
    Post sp x.merge (zs.drop (max 2 sp) ++ [(zs.take (max 2 sp)).sum]) ds ∧ x.merge.s = x.s + ((zs.take (max 2 sp)).sum : Nat) := by
  have hk := many_eq h.m
  unfold Pi.merge
  rw [hk]
  generalize max 2 sp = k
  have lt : (x.lots.take k).flatten.length = (zs.take k).sum := by rw [flat_sum, ← h.len, List.map_take]
  refine ⟨⟨h.m, h.e, ?_, ?_, ?_⟩, ?_⟩
  · show (x.lots.drop k ++ [told (x.lots.take k).flatten]).map List.length = _
    rw [List.map_append, List.map_cons, List.map_nil, told_len, lt, ← h.len, List.map_drop]
  · intro lot hl
    rcases List.mem_append.mp hl with hl | hl
    · exact h.st lot (List.mem_of_mem_drop hl)
    · obtain rfl := List.mem_singleton.mp hl
      exact ⟨_, rfl⟩
  · show (x.lots.drop k ++ [told (x.lots.take k).flatten]).flatten.Perm ds
    rw [List.flatten_append]
    refine List.Perm.trans ?_ h.pm
    have e : x.lots.flatten = (x.lots.take k).flatten ++ (x.lots.drop k).flatten := by rw [← List.flatten_append, List.take_append_drop]
    rw [e]
    refine List.Perm.trans List.perm_append_comm (List.Perm.append ?_ (List.Perm.refl _))
    simpa using told_perm (x.lots.take k).flatten
  · show x.s + ((x.lots.take k).flatten.length : Int) = _
    rw [lt]
/-- the one lot that is left is sorted(rows) -/
theorem post_told {sp : Nat} {x : Pi} {zs : List Nat} {ds es : List PyData} (h : Post sp x zs ds) (hz : zs.length ≤ 1) (p : ds.Perm es) (al : PySem.W.AllAlike ds) : x.lots.flatten = told es := by
  have l1 : x.lots.length ≤ 1 := by rw [← h.len, List.length_map] at hz; exact hz
  match hl : x.lots with
  | [] =>
    have := h.pm
    rw [hl] at this
    have e1 : ds = [] := (List.nil_perm.mp this)
    have e2 : es = [] := by rw [e1] at p; exact List.nil_perm.mp p
    rw [e2]
    simp [told]
  | [lot] =>
    obtain ⟨z, rfl⟩ := h.st lot (by rw [hl]; simp)
    have := h.pm
    rw [hl] at this
    have q : (told z).Perm ds := by simpa using this
    have q2 : ds.Perm z := q.symm.trans (told_perm z)
    show [told z].flatten = told es
    rw [show [told z].flatten = told z by simp, ← told_alike p al, ← told_alike q2 al]
  | _ :: _ :: _ =>
    rw [hl] at l1
    simp at l1
theorem sizes_len {n sp : Nat} : (sizesOf n sp).length ≤ n / sp + 1 := by
  unfold sizesOf
  rw [List.length_append, List.length_replicate]
  by_cases z : n % sp = 0
  · rw [if_pos z]
    exact Nat.le_succ _
  · rw [if_neg z]
    exact Nat.le_refl _
theorem sum_split (zs : List Nat) (k : Nat) : (zs.drop k ++ [(zs.take k).sum]).sum = zs.sum := by
  rw [List.sum_append]
  have e : zs.sum = (zs.take k).sum + (zs.drop k).sum := by rw [← List.sum_append, List.take_append_drop]
  rw [e]
  simp
  omega
/-! ### how many mergings -/
/-- one merging, where there is one: lots' lengths, mergings, steps -/
def stepM (k : Nat) (t : List Nat × Nat × Nat) : List Nat × Nat × Nat := if 1 < t.1.length then (t.1.drop k ++ [(t.1.take k).sum], t.2.1 + 1, t.2.2 + (t.1.take k).sum) else t
def runM (k : Nat) (t : List Nat × Nat × Nat) : Nat → List Nat × Nat × Nat
  | 0 => t
  | n + 1 => stepM k (runM k t n)
def needM (k L : Nat) : Nat := (max 1 L - 1 + (k - 1) - 1) / (k - 1)
theorem need_one {k L : Nat} (h : L ≤ 1) (hk : 2 ≤ k) : needM k L = 0 := by
  unfold needM
  exact Nat.div_eq_of_lt (by omega)
theorem need_more {k L : Nat} (h : 1 < L) (hk : 2 ≤ k) : needM k L = needM k (L - k + 1) + 1 := by
  unfold needM
  have e1 : max 1 L = L := by omega
  have e2 : max 1 (L - k + 1) = L - k + 1 := by omega
  rw [e1, e2]
  by_cases z : L ≤ k
  · have e3 : L - k = 0 := by omega
    rw [e3, Nat.div_eq_of_lt (a := 0 + 1 - 1 + (k - 1) - 1) (by omega)]
    have : L - 1 + (k - 1) - 1 = (L - 2) + (k - 1) := by omega
    rw [this, Nat.add_div_right _ (by omega), Nat.div_eq_of_lt (by omega)]
  · have e3 : L - 1 + (k - 1) - 1 = (L - 2) + (k - 1) := by omega
    have e4 : L - k + 1 - 1 + (k - 1) - 1 = L - 2 := by omega
    rw [e3, e4, Nat.add_div_right _ (by omega)]
theorem step_len {k : Nat} {t : List Nat × Nat × Nat} (hk : 2 ≤ k) : (stepM k t).1.length = (if 1 < t.1.length then t.1.length - k + 1 else t.1.length) ∧ (stepM k t).2.1 + needM k (stepM k t).1.length = t.2.1 + needM k t.1.length := by
  unfold stepM
  by_cases z : 1 < t.1.length
  · rw [if_pos z, if_pos z]
    have l : (t.1.drop k ++ [(t.1.take k).sum]).length = t.1.length - k + 1 := by rw [List.length_append, List.length_drop, List.length_singleton]
    refine ⟨l, ?_⟩
    show t.2.1 + 1 + needM k (t.1.drop k ++ [(t.1.take k).sum]).length = _
    rw [l, need_more z hk]
    omega
  · rw [if_neg z, if_neg z]
    exact ⟨rfl, rfl⟩
theorem run_len {k : Nat} {t : List Nat × Nat × Nat} (hk : 2 ≤ k) (n : Nat) : (runM k t n).1.length ≤ max 1 (t.1.length - n) ∧ (t.1.length = 0 → (runM k t n).1.length = 0) ∧ (0 < t.1.length → 0 < (runM k t n).1.length) ∧ (runM k t n).2.1 + needM k (runM k t n).1.length = t.2.1 + needM k t.1.length := by
  induction n with
  | zero => exact ⟨by show t.1.length ≤ _; omega, fun h => h, fun h => h, rfl⟩
  | succ n ih =>
    obtain ⟨a, b, c, d⟩ := ih
    obtain ⟨e, f⟩ := step_len (t := runM k t n) hk
    show (stepM k (runM k t n)).1.length ≤ _ ∧ (_ → (stepM k (runM k t n)).1.length = 0) ∧ (_ → 0 < (stepM k (runM k t n)).1.length) ∧ _
    rw [e]
    refine ⟨?_, fun h => ?_, fun h => ?_, ?_⟩
    · split <;> omega
    · have := b h
      split <;> omega
    · have := c h
      split <;> omega
    · show (stepM k (runM k t n)).2.1 + needM k (stepM k (runM k t n)).1.length = _
      rw [f, d]
/-- behind as many mergings as lots -/
theorem run_all {k n L : Nat} {zs : List Nat} (hk : 2 ≤ k) (hl : zs.length = L) (h : L ≤ n) : (runM k (zs, 0, 0) n).2.1 = needM k L ∧ (runM k (zs, 0, 0) n).1.length = min 1 L := by
  obtain ⟨a, b, c, d⟩ := run_len (t := (zs, 0, 0)) hk n
  have hl' : (zs, 0, 0).1.length = L := hl
  rw [hl'] at a b c d
  have l1 : (runM k (zs, 0, 0) n).1.length ≤ 1 := by omega
  rw [need_one l1 hk] at d
  have d : (runM k (zs, 0, 0) n).2.1 + 0 = 0 + needM k L := d
  refine ⟨by omega, ?_⟩
  by_cases z : L = 0
  · have := b z
    omega
  · have := c (by omega)
    omega
/-- all lots in one -/
theorem run_one {k : Nat} {zs : List Nat} (h : zs.length ≤ k) (n : Nat) : runM k (zs, 0, 0) (n + 1) = if 1 < zs.length then ([zs.sum], 1, zs.sum) else (zs, 0, 0) := by
  induction n with
  | zero =>
    show stepM k (zs, 0, 0) = _
    unfold stepM
    show (if 1 < zs.length then (zs.drop k ++ [(zs.take k).sum], 0 + 1, 0 + (zs.take k).sum) else (zs, 0, 0)) = _
    rw [List.drop_eq_nil_of_le h, List.take_of_length_le h, Nat.zero_add, Nat.zero_add, List.nil_append]
  | succ n ih =>
    show stepM k (runM k (zs, 0, 0) (n + 1)) = _
    rw [ih]
    by_cases z : 1 < zs.length
    · rw [if_pos z]
      unfold stepM
      rw [if_neg (by simp)]
    · rw [if_neg z]
      unfold stepM
      rw [if_neg z]
theorem sizes_lots {n sp : Nat} (h : 1 ≤ sp) : (sizesOf n sp).length = (n + sp - 1) / sp := by
  unfold sizesOf
  rw [List.length_append, List.length_replicate]
  have dm := Nat.div_add_mod n sp
  have lt := Nat.mod_lt n (show 0 < sp by omega)
  generalize hq : n / sp = q at dm ⊢
  generalize hr : n % sp = r at dm lt ⊢
  by_cases z : r = 0
  · rw [if_pos z]
    have : n + sp - 1 = (sp - 1) + sp * q := by omega
    rw [this, Nat.add_mul_div_left _ _ (by omega), Nat.div_eq_of_lt (by omega)]
    simp
  · rw [if_neg z]
    have : n + sp - 1 = (r - 1) + sp * (q + 1) := by rw [Nat.mul_add]; omega
    rw [this, Nat.add_mul_div_left _ _ (by omega), Nat.div_eq_of_lt (by omega)]
    simp
theorem sum_rep (a b : Nat) : (List.replicate a b).sum = a * b := by
  induction a with
  | zero => simp
  | succ a ih => rw [List.replicate_succ, List.sum_cons, ih, Nat.succ_mul]; omega
theorem sizes_sum (n sp : Nat) : (sizesOf n sp).sum = n := by
  unfold sizesOf
  rw [List.sum_append, sum_rep]
  have dm := Nat.div_add_mod n sp
  by_cases z : n % sp = 0
  · rw [if_pos z]
    simp [Nat.mul_comm]
    omega
  · rw [if_neg z]
    simp [Nat.mul_comm]
    omega
theorem lots_le {n sp : Nat} (h : 1 ≤ sp) : (n + sp - 1) / sp ≤ n := by
  rcases Nat.eq_zero_or_pos n with z | z
  · rw [z, Nat.div_eq_of_lt (by omega)]
    exact Nat.le_refl _
  · refine Nat.le_of_lt_succ ((Nat.div_lt_iff_lt_mul (by omega)).mpr ?_)
    obtain ⟨m, rfl⟩ : ∃ m, n = m + 1 := ⟨n - 1, by omega⟩
    obtain ⟨s, rfl⟩ : ∃ s, sp = s + 1 := ⟨sp - 1, by omega⟩
    rw [Nat.succ_mul, Nat.add_mul, Nat.mul_add]
    omega
/-- a pile behind mergings -/
theorem post_step {sp : Nat} {x : Pi} {t : List Nat × Nat × Nat} {ds : List PyData} {S0 : Int} (h : Post sp x t.1 ds) (hs : x.s = S0 + (t.2.2 : Int)) (h1 : 1 < t.1.length) : Post sp x.merge (stepM (max 2 sp) t).1 ds ∧ x.merge.s = S0 + ((stepM (max 2 sp) t).2.2 : Int) := by
  obtain ⟨a, b⟩ := post_merge h
  unfold stepM
  rw [if_pos h1]
  refine ⟨a, ?_⟩
  rw [b, hs]
  show S0 + (t.2.2 : Int) + _ = S0 + ((t.2.2 + (t.1.take (max 2 sp)).sum : Nat) : Int)
  omega
theorem Post.sum {sp : Nat} {x : Pi} {zs : List Nat} {ds : List PyData} (h : Post sp x zs ds) : zs.sum = ds.length := by
  rw [← h.len, ← flat_sum, h.pm.length_eq]
end K42
end

section
set_option Elab.async false
set_option linter.all false
set_option maxRecDepth 100000
set_option maxHeartbeats 4000000
/-! Several piles beside one another. -/
namespace K42
open PySem PySem.Spec PyProof.Rows L2 Gd LamX
noncomputable def less (H : Hp) (X : Addr → Prop) : Hp := fun b => @ite _ (X b) (Classical.propDecidable _) none (H b)
theorem less_no {H : Hp} {X : Addr → Prop} {b : Addr} (h : X b) : less H X b = none := if_pos h
theorem less_at {H : Hp} {X : Addr → Prop} {b : Addr} (h : ¬ X b) : less H X b = H b := if_neg h
theorem less_same (H : Hp) (X : Addr → Prop) : Same (less H X) H := fun b o e => by
  by_cases h : X b
  · rw [less_no h] at e
    cases e
  · rw [less_at h] at e
    exact e
/-- a pile whose own objects are F -/
def PileF (K : PySem.W.Frag) (C : Addr) (D H : Hp) (p : Addr) (x : Pi) (F : Addr → Prop) : Prop :=
  ∃ (dx r l : Addr) (vs ls : List V), r ≠ l ∧ H p = some (.ins C dx (pf x.m r l x.s x.e)) ∧ H r = some (.lst vs) ∧ DpAll K D vs x.rows ∧ H l = some (.lst ls) ∧
    PySem.W.EachIs (fun v lot => ∃ a vs, v = V.ref a ∧ a ≠ r ∧ a ≠ l ∧ H a = some (.lst vs) ∧ DpAll K D vs lot) ls x.lots ∧ ∀ b, F b ↔ b = p ∨ b = r ∨ b = l ∨ ∃ v ∈ ls, v = V.ref b
section
variable {K : PySem.W.Frag} {C : Addr} {D H0 H H' : Hp} {p : Addr} {x : Pi} {F : Addr → Prop}
theorem PileAt.toF (h : PileAt K C D H0 H p x) : ∃ F, PileF K C D H p x F ∧ ∀ b, F b → H0 b = none := by
  obtain ⟨sD, s0, p0, dx, r, l, vs, ls, r0, l0, nrl, ep, er, dr, el, hl⟩ := h
  refine ⟨fun b => b = p ∨ b = r ∨ b = l ∨ ∃ v ∈ ls, v = V.ref b, ⟨dx, r, l, vs, ls, nrl, ep, er, dr, el, hl.mono fun v lot ⟨a, vs, e, n0, n1, n2, hv, d⟩ => ⟨a, vs, e, n1, n2, hv, d⟩, fun b => Iff.rfl⟩, ?_⟩
  rintro b (rfl | rfl | rfl | ⟨v, hv, rfl⟩)
  · exact p0
  · exact r0
  · exact l0
  · obtain ⟨d, _, a, vs, e, n0, _⟩ := hl.left _ hv
    cases e
    exact n0
theorem PileF.toAt (h : PileF K C D H p x F) (sD : Same D H0) (s0 : Same H0 H) (n : ∀ b, F b → H0 b = none) : PileAt K C D H0 H p x := by
  obtain ⟨dx, r, l, vs, ls, nrl, ep, er, dr, el, hl, hF⟩ := h
  refine ⟨sD, s0, n _ ((hF _).mpr (.inl rfl)), dx, r, l, vs, ls, n _ ((hF _).mpr (.inr (.inl rfl))), n _ ((hF _).mpr (.inr (.inr (.inl rfl)))), nrl, ep, er, dr, el, ?_⟩
  exact (each_in hl).mono fun v lot ⟨m, a, vs, e, n1, n2, hv, d⟩ => ⟨a, vs, e, n _ ((hF _).mpr (.inr (.inr (.inr ⟨v, m, e⟩)))), n1, n2, hv, d⟩
theorem PileF.kind (h : PileF K C D H p x F) {b : Addr} (hb : F b) : (∃ dx fs, H b = some (.ins C dx fs)) ∨ ∃ xs, H b = some (.lst xs) := by
  obtain ⟨dx, r, l, vs, ls, nrl, ep, er, dr, el, hl, hF⟩ := h
  rcases (hF b).mp hb with rfl | rfl | rfl | ⟨v, hv, rfl⟩
  · exact .inl ⟨_, _, ep⟩
  · exact .inr ⟨_, er⟩
  · exact .inr ⟨_, el⟩
  · obtain ⟨d, _, a, vs, e, _, _, e1, _⟩ := hl.left _ hv
    cases e
    exact .inr ⟨_, e1⟩
theorem PileF.here (h : PileF K C D H p x F) {b : Addr} (hb : F b) : ∃ o, H b = some o := by
  rcases h.kind hb with ⟨dx, fs, e⟩ | ⟨xs, e⟩
  · exact ⟨_, e⟩
  · exact ⟨_, e⟩
theorem PileF.self (h : PileF K C D H p x F) : F p := by
  obtain ⟨dx, r, l, vs, ls, nrl, ep, er, dr, el, hl, hF⟩ := h
  exact (hF p).mpr (.inl rfl)
theorem PileF.keep (h : PileF K C D H p x F) (k : ∀ b o, F b → H b = some o → H' b = some o) : PileF K C D H' p x F := by
  obtain ⟨dx, r, l, vs, ls, nrl, ep, er, dr, el, hl, hF⟩ := h
  refine ⟨dx, r, l, vs, ls, nrl, k _ _ ((hF _).mpr (.inl rfl)) ep, k _ _ ((hF _).mpr (.inr (.inl rfl))) er, dr, k _ _ ((hF _).mpr (.inr (.inr (.inl rfl)))) el, ?_, hF⟩
  exact (each_in hl).mono fun v lot ⟨m, a, vs, e, n1, n2, hv, d⟩ => ⟨a, vs, e, n1, n2, k _ _ ((hF _).mpr (.inr (.inr (.inr ⟨v, m, e⟩)))) hv, d⟩
end
/-- n piles, none of whose objects is one of Z -/
structure Multi (K : PySem.W.Frag) (C : Addr) (D : Hp) (Z : Addr → Prop) (H : Hp) (n : Nat) (ps : Nat → Addr) (xs : Nat → Pi) : Prop where
  sD : Same D H
  dz : ∀ b o, D b = some o → Z b
  zH : ∀ b, Z b → ∃ o, H b = some o
  ex : ∃ F : Nat → Addr → Prop, ∀ i, i < n → PileF K C D H (ps i) (xs i) (F i) ∧ (∀ b, F i b → ¬ Z b) ∧ ∀ j, j < n → i ≠ j → ∀ b, F i b → ¬ F j b
section
variable {K : PySem.W.Frag} {C : Addr} {D H H' : Hp} {Z : Addr → Prop} {n : Nat} {ps : Nat → Addr} {xs : Nat → Pi}
theorem Multi.none (sD : Same D H) (dz : ∀ b o, D b = some o → Z b) (zH : ∀ b, Z b → ∃ o, H b = some o) : Multi K C D Z H 0 ps xs := ⟨sD, dz, zH, fun _ _ => False, fun i h => absurd h (by omega)⟩
theorem Multi.same (h : Multi K C D Z H n ps xs) (s : Same H H') : Multi K C D Z H' n ps xs := by
  obtain ⟨sD, dz, zH, F, hF⟩ := h
  refine ⟨sD.trans s, dz, fun b z => ?_, F, fun i hi => ⟨(hF i hi).1.keep fun b o _ e => s _ _ e, (hF i hi).2⟩⟩
  obtain ⟨o, e⟩ := zH b z
  exact ⟨o, s _ _ e⟩
theorem Multi.cong {ps' : Nat → Addr} {xs' : Nat → Pi} (h : Multi K C D Z H n ps xs) (e : ∀ i, i < n → ps' i = ps i ∧ xs' i = xs i) : Multi K C D Z H n ps' xs' := by
  obtain ⟨sD, dz, zH, F, hF⟩ := h
  refine ⟨sD, dz, zH, F, fun i hi => ?_⟩
  rw [(e i hi).1, (e i hi).2]
  exact hF i hi
/-- lambdas -/
theorem Multi.ext (h : Multi K C D Z H n ps xs) (nt : ∀ b ps, Z b → H b ≠ some (.tbl ps)) (e : ExtN H H') : Multi K C D Z H' n ps xs := by
  obtain ⟨sD, dz, zH, F, hF⟩ := h
  refine ⟨fun b o z => e _ _ (sD _ _ z) (fun ps q => nt b ps (dz _ _ z) (by rw [sD _ _ z, q])), dz, fun b z => ?_, F, fun i hi => ⟨(hF i hi).1.keep fun b o hb e1 => e _ _ e1 fun ps q => ?_, (hF i hi).2⟩⟩
  · obtain ⟨o, e1⟩ := zH b z
    exact ⟨o, e _ _ e1 fun ps q => nt b ps z (by rw [e1, q])⟩
  · rcases (hF i hi).1.kind hb with ⟨_, _, y⟩ | ⟨_, y⟩
    · rw [e1, q] at y
      cases y
    · rw [e1, q] at y
      cases y
/-- a new thing is one of Z -/
theorem Multi.newz {a : Addr} {o : HO} (h : Multi K C D Z H n ps xs) (na : H a = Option.none) : Multi K C D (fun b => Z b ∨ b = a) (upd H a o) n ps xs := by
  have m := h.same (new_same (o := o) na)
  obtain ⟨sD, dz, zH, F, hF⟩ := h
  obtain ⟨_, _, zH', _⟩ := m
  refine ⟨sD.trans (new_same na), fun b u e => .inl (dz b u e), fun b z => ?_, F, fun i hi => ⟨(hF i hi).1.keep fun b o _ e => new_same na _ _ e, fun b hb z => ?_, (hF i hi).2.2⟩⟩
  · rcases z with z | rfl
    · exact zH' b z
    · exact ⟨_, upd_same⟩
  · rcases z with z | rfl
    · exact (hF i hi).2.1 b hb z
    · obtain ⟨o, e⟩ := (hF i hi).1.here hb
      rw [na] at e
      cases e
theorem Multi.sub {Z' : Addr → Prop} (h : Multi K C D Z H n ps xs) (s : ∀ b, Z' b → Z b) (dz : ∀ b o, D b = some o → Z' b) : Multi K C D Z' H n ps xs := by
  obtain ⟨sD, _, zH, F, hF⟩ := h
  exact ⟨sD, dz, fun b z => zH b (s b z), F, fun i hi => ⟨(hF i hi).1, fun b hb z => (hF i hi).2.1 b hb (s b z), (hF i hi).2.2⟩⟩
/-- one of Z is written -/
theorem Multi.write {a : Addr} {o : HO} (h : Multi K C D Z H n ps xs) (z : Z a) (d : D a = Option.none) : Multi K C D Z (upd H a o) n ps xs := by
  obtain ⟨sD, dz, zH, F, hF⟩ := h
  refine ⟨fun b u e => ?_, dz, fun b y => ?_, F, fun i hi => ⟨(hF i hi).1.keep fun b u hb e => ?_, (hF i hi).2⟩⟩
  · rw [upd_ne (ne_of_none e d)]
    exact sD _ _ e
  · by_cases e : b = a
    · exact ⟨_, by rw [e]; exact upd_same⟩
    · rw [upd_ne e]
      exact zH b y
  · rw [upd_ne (fun y => (hF i hi).2.1 b hb (by rw [y]; exact z))]
    exact e
/-- one pile more -/
theorem Multi.add {p : Addr} {x : Pi} (h : Multi K C D Z H n ps xs) (R : PileAt K C D H H' p x) : Multi K C D Z H' (n + 1) (fun j => if j = n then p else ps j) (fun j => if j = n then x else xs j) := by
  have s := R.2.1
  have m := h.same s
  obtain ⟨G, hG, nG⟩ := R.toF
  obtain ⟨sD, dz, zH, F, hF⟩ := h
  obtain ⟨sD', _, zH', _⟩ := m
  refine ⟨sD', dz, zH', fun j => if j = n then G else F j, fun i hi => ?_⟩
  by_cases e : i = n
  · simp only [e, if_true]
    refine ⟨hG, fun b hb z => ?_, fun j hj ne b hb => ?_⟩
    · obtain ⟨o, e1⟩ := zH b z
      rw [nG b hb] at e1
      cases e1
    · rw [if_neg (fun q => ne q.symm)]
      intro hb'
      obtain ⟨o, e1⟩ := (hF j (by omega)).1.here hb'
      rw [nG b hb] at e1
      cases e1
  · have hi' : i < n := by omega
    simp only [if_neg e]
    refine ⟨(hF i hi').1.keep fun b o _ e => s _ _ e, (hF i hi').2.1, fun j hj ne b hb => ?_⟩
    by_cases ej : j = n
    · rw [if_pos ej]
      intro hb'
      obtain ⟨o, e1⟩ := (hF i hi').1.here hb
      rw [nG b hb'] at e1
      cases e1
    · rw [if_neg ej]
      exact (hF i hi').2.2 j (by omega) ne b hb
/-- one of the piles is changed -/
theorem Multi.act {i : Nat} (h : Multi K C D Z H n ps xs) (hi : i < n) : ∃ Hf dx fs, PileAt K C D Hf H (ps i) (xs i) ∧ H (ps i) = some (.ins C dx fs) ∧ (∀ n : Str, (["_most", "_rows", "_lots", "_steps", "_ended"] : List Str).contains n = false → fs.lookup n = Option.none) ∧
    ∀ (H' : Hp) (x' : Pi), PileAt K C D Hf H' (ps i) x' → Multi K C D Z H' n ps (fun j => if j = i then x' else xs j) ∧ (∀ b, Z b → H' b = H b) ∧ (∀ T, Tabs T H → Tabs T H') := by
  obtain ⟨sD, dz, zH, F, hF⟩ := h
  obtain ⟨hp, nz, dj⟩ := hF i hi
  have at_ : ∀ {b}, ¬ F i b → less H (F i) b = H b := fun h => less_at h
  have sDf : Same D (less H (F i)) := fun b o e => by
    rw [less_at (fun hb => nz b hb (dz b o e))]
    exact sD _ _ e
  have R := hp.toAt sDf (less_same H (F i)) (fun b hb => less_no hb)
  obtain ⟨dx, r, l, vs, ls, _, ep, _⟩ := id hp
  refine ⟨less H (F i), dx, _, R, ep, fun n hn => pf_no hn, fun H' x' R' => ?_⟩
  obtain ⟨G, hG, nG⟩ := R'.toF
  have s' := R'.2.1
  have zz : ∀ b, Z b → H' b = H b := fun b z => by
    obtain ⟨o, e⟩ := zH b z
    rw [e]
    exact s' _ _ (by rw [less_at (fun hb => nz b hb z)]; exact e)
  refine ⟨⟨sDf.trans s', dz, fun b z => ?_, fun j => if j = i then G else F j, fun j hj => ?_⟩, zz, fun T t q hq => ?_⟩
  · rw [zz b z]
    exact zH b z
  · by_cases e : j = i
    · subst e
      simp only [if_true]
      refine ⟨hG, fun b hb z => ?_, fun k hk ne b hb => ?_⟩
      · obtain ⟨o, e⟩ := zH b z
        have q := nG b hb
        rw [less_at (fun hb => nz b hb z), e] at q
        cases q
      · rw [if_neg (fun q => ne q.symm)]
        intro hb'
        obtain ⟨o, e⟩ := (hF k hk).1.here hb'
        have q := nG b hb
        rw [less_at (fun y => dj k hk ne b y hb'), e] at q
        cases q
    · simp only [if_neg e]
      have out : ∀ b, F j b → ¬ F i b := fun b hb => (hF j hj).2.2 i hi e b hb
      refine ⟨(hF j hj).1.keep fun b o hb e1 => s' _ _ (by rw [less_at (out b hb)]; exact e1), (hF j hj).2.1, fun k hk ne b hb => ?_⟩
      by_cases ek : k = i
      · rw [if_pos ek]
        intro hb'
        obtain ⟨o, e1⟩ := (hF j hj).1.here hb
        have q := nG b hb'
        rw [less_at (out b hb), e1] at q
        cases q
      · rw [if_neg ek]
        exact (hF j hj).2.2 k hk ne b hb
  · obtain ⟨u, h1, h2, h3⟩ := t q hq
    have up : ∀ b o, H b = some o → (∀ C dx fs, o ≠ .ins C dx fs) → (∀ xs, o ≠ .lst xs) → H' b = some o := fun b o e n1 n2 => s' _ _ (by
      rw [less_at]
      · exact e
      · intro hb
        rcases hp.kind hb with ⟨_, _, y⟩ | ⟨_, y⟩
        · rw [e] at y
          exact n1 _ _ _ (Option.some.inj y)
        · rw [e] at y
          exact n2 _ (Option.some.inj y))
    refine ⟨u, up _ _ h1 (fun _ _ _ z => nomatch z) (fun _ z => nomatch z), h2, fun pos cv hc => ?_⟩
    obtain ⟨c, e1, e2⟩ := h3 pos cv hc
    exact ⟨c, e1, up _ _ e2 (fun _ _ _ z => nomatch z) (fun _ z => nomatch z)⟩
theorem Multi.ins {i : Nat} (h : Multi K C D Z H n ps xs) (hi : i < n) : ∃ Hf dx fs, PileAt K C D Hf H (ps i) (xs i) ∧ H (ps i) = some (.ins C dx fs) ∧ (∀ n : Str, (["_most", "_rows", "_lots", "_steps", "_ended"] : List Str).contains n = false → fs.lookup n = Option.none) := by
  obtain ⟨Hf, dx, fs, a, b, c, _⟩ := h.act hi
  exact ⟨Hf, dx, fs, a, b, c⟩
end
end K42
end

section
set_option Elab.async false
set_option linter.all false
set_option maxRecDepth 100000
set_option maxHeartbeats 4000000
/-! Rows, and lists of rows, may be compared by ==. -/
namespace K42
open PySem PySem.Spec PyProof.Rows L2 Gd Szg
theorem ints_lay : ∀ ns : List Int, PyData.canLayAll0 (ns.map .int) = true
  | [] => rfl
  | n :: ns => by
    show PyData.canLayAll0 (.int n :: ns.map .int) = true
    simp only [PyData.canLayAll0, PyData.canLay0, ints_lay ns, Bool.and_self]
theorem row_lay {f : Int} {d : PyData} (h : IsRow f d) : d.canLay0 = true := by
  unfold IsRow at h
  split at h
  · obtain ⟨a, n, b, _, _, _, rfl⟩ := h
    rfl
  split at h
  · obtain ⟨n, _, rfl⟩ := h
    rfl
  split at h
  · obtain ⟨s, n, pl, _, rfl⟩ := h
    have : PyData.strOk s = true := by
      unfold PyData.strOk
      rw [Array.all_eq_true_iff_forall_mem]
      intro c hc
      have := pl.1 c (by simpa using hc)
      simp
      omega
    simp only [PyData.canLay0, PyData.canLayAll0, this, Bool.and_self]
  · obtain ⟨ns, l, _, rfl⟩ := h
    simp only [PyData.canLay0]
    exact ints_lay ns
theorem rows_lay {f : Int} : ∀ {ds : List PyData}, (∀ d ∈ ds, IsRow f d) → PyData.canLayAll0 ds = true ∧ PyData.depthAll ds ≤ 2
  | [], _ => ⟨rfl, Nat.zero_le _⟩
  | d :: ds, h => by
    obtain ⟨a, b⟩ := rows_lay (ds := ds) fun x hx => h x (by simp [hx])
    have r := h d (by simp)
    have dp := (row_sm r).dp
    refine ⟨by simp only [PyData.canLayAll0, row_lay r, a, Bool.and_self], ?_⟩
    simp only [PyData.depthAll]
    omega
theorem told_shaped {f : Int} {ds : List PyData} (h : ∀ d ∈ ds, IsRow f d) : SeqAt.shaped (.list [.list ds]) = true := by
  obtain ⟨a, b⟩ := rows_lay h
  unfold SeqAt.shaped
  have e : (PyData.list [.list ds]).depth = PyData.depthAll [.list ds] + 1 := by
    unfold PyData.depth
    rfl
  have e2 : PyData.depthAll [.list ds] ≤ PyData.depthAll ds + 1 := by
    simp only [PyData.depthAll, PyData.depth]
    omega
  rw [e]
  simp only [PyData.canLay0, PyData.canLayAll0, a, Bool.true_and, Bool.and_true, decide_eq_true_eq]
  omega
end K42
end

section
set_option Elab.async false
set_option linter.all false
set_option maxRecDepth 100000
set_option maxHeartbeats 4000000
namespace K42
open PySem PySem.Spec PyProof.Rows L2 Gd LamX
structure Mt (P : Program) (w : World) (K : PySem.W.Frag) (mg : Str → Option Value) (base : Heap) (C : Addr) (m : Str) (ps : List Str) (cx : CXT) (k : Nat) (sp : Sp) : Prop where
  ex : ∃ (f : Addr) (fd : FuncData), Meth K C m f ∧ FnOk P w K mg base cx k f fd ps sp ∧ Binds K fd ps []
abbrev sLt : Stmt := topS 16
theorem scLt : FnScope ["_law_many", "_law_hand"] ["_law_many", "_law_hand"] (defScope sLt) := ⟨rfl, rfl, rfl, by decide +kernel, rfl, by decide +kernel, by decide +kernel⟩
abbrev sMg : Stmt := topS 17
theorem scMg : FnScope ["_law_lots_here", "_law_hand", "_law_by"] ["_law_lots_here", "_law_hand"] (defScope sMg) := ⟨rfl, rfl, rfl, by decide +kernel, rfl, by decide +kernel, by decide +kernel⟩
abbrev sCt : Stmt := topS 18
abbrev nCt : List Str := ["_law_pile", "_law_most", "_law_found", "_law_step"]
theorem scCt : FnScope nCt ["_law_pile", "_law_most"] (defScope sCt) := ⟨rfl, rfl, rfl, by decide +kernel, rfl, by decide +kernel, by decide +kernel⟩
def spLt (K : PySem.W.Frag) : Sp := fun vs H Q _ => ∃ (n h : Nat), vs = [.int (n : Int), .int (h : Int)] ∧ 1 ≤ h ∧ h ≤ 4000 ∧ Q (.int (((n + h - 1) / h : Nat) : Int)) H
def spMg (K : PySem.W.Frag) : Sp := fun vs H Q _ => ∃ (L h : Nat), vs = [.int (L : Int), .int (h : Int)] ∧ h ≤ 4000 ∧ Q (.int ((needM (max 2 h) L : Nat) : Int)) H
/-- a pile that has ended, of rows ds of the form fm -/
structure Pd (fm : Int) (sp : Nat) (x : Pi) (zs : List Nat) (ds : List PyData) : Prop where
  po : Post sp x zs ds
  rw_ : ∀ d ∈ ds, IsRow fm d
  len : ds.length ≤ 2000
  zl : zs.length ≤ 2000
  r0 : x.rows.length = 0
theorem Pd.take {fm : Int} {sp : Nat} {x : Pi} {zs : List Nat} {ds : List PyData} (h : Pd fm sp x zs ds) (k : Nat) : RowsOk (x.lots.take k).flatten := by
  have e : x.lots.flatten = (x.lots.take k).flatten ++ (x.lots.drop k).flatten := by rw [← List.flatten_append, List.take_append_drop]
  have pm := h.po.pm
  rw [e] at pm
  refine rows_ok (f := fm) (fun d hd => h.rw_ d (pm.subset (List.mem_append_left _ hd))) ?_
  have := pm.length_eq
  rw [List.length_append] at this
  have := h.len
  omega
theorem Pd.lots {fm : Int} {sp : Nat} {x : Pi} {zs : List Nat} {ds : List PyData} (h : Pd fm sp x zs ds) : x.lots.length = zs.length := by
  rw [← h.po.len, List.length_map]
def spCt (K : PySem.W.Frag) (C : Addr) : Sp := fun vs H Q _ => ∃ (D H0 : Hp) (p : Addr) (x : Pi) (fm : Int) (sp most : Nat) (zs : List Nat) (ds : List PyData), vs = [.ref p, .int (most : Int)] ∧ PileAt K C D H0 H p x ∧ Pd fm sp x zs ds ∧ most ≤ 4000 ∧
  ∀ (H' : Hp) (x' : Pi), PileAt K C D H0 H' p x' → Pd fm sp x' (runM (max 2 sp) (zs, 0, 0) most).1 ds → x'.s = x.s + ((runM (max 2 sp) (zs, 0, 0) most).2.2 : Int) → Q (.int ((runM (max 2 sp) (zs, 0, 0) most).2.1 : Int)) H'
section
variable {P : Program} {w : World} {K : PySem.W.Frag} {mg : Str → Option Value} {base : Heap} {f C : Addr} {fd : FuncData} {cs : Nat → Addr}
theorem ok_lt (F : Fun K "_law_lots" "_law_lots" sLt f fd) : FnOk P w K mg base CX0 1 f fd ["_law_many", "_law_hand"] (spLt K) := by
  refine F.ok scLt (fun vs H Q E h => ?_) (fun cdv A outer s H vs Q E hr h => ?_)
  · obtain ⟨n, h, rfl, _⟩ := h
    rfl
  obtain ⟨n, h, rfl, h1, h2, q⟩ := h
  refine ⟨_, pss_one (ps_ret (pe_op op_fdivN (pe_op op_sub (pe_op op_add (pv 0) (pv 1)) pe_int) (pv 1))), ?_⟩
  refine ⟨_, rfl, _, rfl, _, _, rfl, rfl, _, _, rfl, rfl, _, rfl, _, _, rfl, rfl, ⟨by omega, by omega⟩, ?_⟩
  have e : ((n : Int) + (h : Int) - 1).fdiv (h : Int) = (((n + h - 1) / h : Nat) : Int) := by
    rw [Int.fdiv_eq_ediv_of_nonneg _ (by omega)]
    have : (n : Int) + (h : Int) - 1 = ((n + h - 1 : Nat) : Int) := by omega
    rw [this]
    rfl
  have q' : Q (.int (((n : Int) + (h : Int) - 1).fdiv (h : Int))) H := by rw [e]; exact q
  exact q'
theorem ok_mg (F : Fun K "_law_mergings" "_law_mergings" sMg f fd) (mx : mg "max" = none) : FnOk P w K mg base CX0 1 f fd ["_law_lots_here", "_law_hand"] (spMg K) := by
  refine F.ok scMg (fun vs H Q E h => ?_) (fun cdv A outer s H vs Q E hr h => ?_)
  · obtain ⟨L, h, rfl, _⟩ := h
    rfl
  obtain ⟨L, h, rfl, h2, q⟩ := h
  have nd := scMg.nd
  refine ⟨_, pss_cons (ps_set (i := 2) nd rfl (.inl rfl) (pe_op op_sub (pe_callB (call_max2 rfl) (by rfl) mx (by decide +kernel) (pa_cons pe_int (pa_cons (pv 1) pa_nil))) pe_int))
    (pss_one (ps_ret (pe_op op_fdivN (pe_op op_sub (pe_op op_add (pe_op op_sub (pe_callB (call_max2 rfl) (by rfl) mx (by decide +kernel) (pa_cons pe_int (pa_cons (pv 0) pa_nil))) pe_int) (pv 2)) pe_int) (pv 2)))), ?_⟩
  have e1 : (if (h : Int) > 2 then (h : Int) else 2) - 1 = ((max 2 h - 1 : Nat) : Int) := by split <;> omega
  have e2 : (if (L : Int) > 1 then (L : Int) else 1) = ((max 1 L : Nat) : Int) := by split <;> omega
  have e : ((if (L : Int) > 1 then (L : Int) else 1) - 1 + ((if (h : Int) > 2 then (h : Int) else 2) - 1) - 1).fdiv ((if (h : Int) > 2 then (h : Int) else 2) - 1) = ((needM (max 2 h) L : Nat) : Int) := by
    rw [e1, e2, Int.fdiv_eq_ediv_of_nonneg _ (by omega)]
    have : ((max 1 L : Nat) : Int) - 1 + ((max 2 h - 1 : Nat) : Int) - 1 = ((max 1 L - 1 + (max 2 h - 1) - 1 : Nat) : Int) := by omega
    rw [this]
    rfl
  have q' : Q (.int (((if (L : Int) > 1 then (L : Int) else 1) - 1 + ((if (h : Int) > 2 then (h : Int) else 2) - 1) - 1).fdiv ((if (h : Int) > 2 then (h : Int) else 2) - 1))) H := by rw [e]; exact q
  refine ⟨_, rfl, _, _, rfl, _, _, rfl, rfl, ?_⟩
  refine ⟨_, rfl, _, _, rfl, _, _, rfl, rfl, _, rfl, _, _, rfl, rfl, _, _, rfl, rfl, _, rfl, _, _, rfl, rfl, ⟨by rw [e1]; omega, by rw [e1]; omega⟩, q'⟩
theorem ok_ct (F : Fun K "_law_count" "_law_count" sCt f fd) (mr : mg "range" = none) (T : Txt K mg C cs)
    (MN : Mt P w K mg base C "lots" ["self"] CX0 1 (spLots K C)) (MM : Mt P w K mg base C "merge" ["self"] (L2.CX P w) 2 (spMrg K C cs)) : FnOk P w K mg base CX0 3 f fd ["_law_pile", "_law_most"] (spCt K C) := by
  refine F.ok scCt (fun vs H Q E h => ?_) (fun cdv A outer s H vs Q E hr h => ?_)
  · obtain ⟨D, H0, p, x, fm, sp, most, zs, ds, rfl, _⟩ := h
    rfl
  obtain ⟨D, H0, p, x, fm, sp, most, zs, ds, rfl, hP, pd, hm, q⟩ := h
  have nd := scCt.nd
  obtain ⟨fN, dN, mN, GN, bN⟩ := MN.ex
  obtain ⟨fM, dM, mM, GM, bM⟩ := MM.ex
  have r1 : Room 1 _ := hr.mono (by decide)
  refine ⟨_, pss_cons (ps_set (i := 2) nd rfl (.inl rfl) pe_int)
    (pss_cons (ps_for PassesOwn.never rfl (pi_range1 (by rfl) mr (pa_cons (pv 1) pa_nil)) (pg_name (i := 3) nd rfl (.inl rfl))
      (pss_one (ps_if (pt_cmpR op_gt (pe_meth0 (pv 0) T.cl mN GN r1 bN .nil pass0) pe_int (nomark _))
        (pss_cons (ps_expr (pe_meth0 (pv 0) T.cl mM GM hr bM .nil passL))
        (pss_one (ps_set (i := 2) nd rfl (.inl rfl) (pe_op op_add (pv 2) pe_int)))) pss_nil)))
    (pss_one (ps_ret (pv 2)))), ?_⟩
  refine ⟨_, rfl, _, rfl, by omega, by omega, ?_⟩
  refine for_it walk_upto (fun i σ H' => ∃ (v3 : Option V) (x' : Pi), σ = [some (.ref p), some (.int (most : Int)), some (.int ((runM (max 2 sp) (zs, 0, 0) i).2.1 : Int)), v3] ∧ PileAt K C D H0 H' p x' ∧ Pd fm sp x' (runM (max 2 sp) (zs, 0, 0) i).1 ds ∧ x'.s = x.s + ((runM (max 2 sp) (zs, 0, 0) i).2.2 : Int))
    ⟨_, x, rfl, hP, pd, (by show x.s = x.s + ((0 : Nat) : Int); omega)⟩ (fun _ _ _ _ _ => trivial) ?_ ?_
  · rintro i v σ H2 H2' hi ⟨v3, x', rfl, R, pd', es⟩ ⟨rfl, rfl⟩
    obtain ⟨_, _, _, dx, _, _, _, _, _, _, _, ep, _⟩ := id R
    have ll := pd'.lots
    have rs : runM (max 2 sp) (zs, 0, 0) (i + 1) = stepM (max 2 sp) (runM (max 2 sp) (zs, 0, 0) i) := rfl
    refine ⟨_, rfl, p, dx, _, rfl, ep, pf_no (by decide +kernel), D, H0, p, x', rfl, R, _, _, rfl, rfl, _, rfl, ite2 (fun z => ?_) (fun z => ?_)⟩
    · have z : 1 < (runM (max 2 sp) (zs, 0, 0) i).1.length := by
        have : (1 : Int) < (x'.lots.length : Int) := by simpa using z
        omega
      obtain ⟨a, b⟩ := post_step pd'.po es z
      refine ⟨_, rfl, p, dx, _, rfl, ep, pf_no (by decide +kernel), D, H0, p, x', rfl, R, (fun e => absurd (pd'.po.e.symm.trans e) (by decide)), fun _ => ⟨(fun z => by omega), fun _ => ⟨(by have := pd'.zl; omega), pd'.take _, fun H3 R3 => ?_⟩⟩⟩
      refine ⟨_, rfl, _, _, rfl, rfl, some (.int (i : Int)), x'.merge, ?_, R3, ?_, ?_⟩
      · rw [rs]
        unfold stepM
        rw [if_pos z]
        rfl
      · rw [rs]
        exact ⟨a, pd.rw_, pd.len, (by have := (step_len (t := runM (max 2 sp) (zs, 0, 0) i) (Nat.le_max_left 2 sp)).1; rw [this, if_pos z]; have := pd'.zl; omega), pd'.r0⟩
      · rw [rs]
        exact b
    · have z : ¬ 1 < (runM (max 2 sp) (zs, 0, 0) i).1.length := by
        have : ¬ (1 : Int) < (x'.lots.length : Int) := by simpa using z
        omega
      have rs' : runM (max 2 sp) (zs, 0, 0) (i + 1) = runM (max 2 sp) (zs, 0, 0) i := by
        rw [rs]
        unfold stepM
        rw [if_neg z]
      refine ⟨some (.int (i : Int)), x', ?_, R, ?_, ?_⟩
      · rw [rs']
        rfl
      · rw [rs']
        exact pd'
      · rw [rs']
        exact es
  · rintro σ H2 ⟨v3, x', rfl, R, pd', es⟩
    exact ⟨_, rfl, q H2 x' R pd' es⟩
end
end K42
end

section
set_option Elab.async false
set_option linter.all false
set_option maxRecDepth 100000
set_option maxHeartbeats 4000000
namespace K42
open PySem PySem.Spec PyProof.Rows L2 Gd LamX
abbrev sEn : Stmt := topS 19
abbrev nEn : List Str := ["_law_rows", "_law_hands", "_law_piles", "_law_row_here", "_law_pile", "_law_hand"]
theorem scEn : FnScope nEn ["_law_rows", "_law_hands"] (defScope sEn) := ⟨rfl, rfl, rfl, by decide +kernel, rfl, by decide +kernel, by decide +kernel⟩
abbrev vN (h : Nat) : V := .int (h : Int)
theorem tabs_write {T : List (Addr × Str)} {H : Hp} {L : Addr} {xs ys : List V} (t : Tabs T H) (e : H L = some (.lst xs)) : Tabs T (upd H L (.lst ys)) :=
  tabs_by t (fun b o z _ n2 => by
    rw [upd_ne (fun q => by rw [q, e] at z; exact n2 _ (Option.some.inj z).symm)]
    exact z) (Same.refl _)
def refsOf (ps : Nat → Addr) (n : Nat) : List V := (List.range n).map fun i => V.ref (ps i)
theorem refs_succ (ps : Nat → Addr) (n : Nat) (p : Addr) : refsOf (fun j => if j = n then p else ps j) (n + 1) = refsOf ps n ++ [.ref p] := by
  unfold refsOf
  rw [List.range_succ, List.map_append, List.map_cons, List.map_nil]
  show List.map (fun i => V.ref (if i = n then p else ps i)) (List.range n) ++ [V.ref (if n = n then p else ps n)] = _
  rw [if_pos rfl]
  congr 1
  exact List.map_congr_left fun i hi => by
    have : i < n := by simpa using hi
    show V.ref (if i = n then p else ps i) = _
    rw [if_neg (by omega)]
theorem refs_len (ps : Nat → Addr) (n : Nat) : (refsOf ps n).length = n := by
  unfold refsOf
  rw [List.length_map, List.length_range]
theorem refs_at {ps : Nat → Addr} {n i : Nat} (h : i < n) : (refsOf ps n)[i]? = some (.ref (ps i)) := by
  unfold refsOf
  rw [List.getElem?_map, List.getElem?_range h]
  rfl
/-- a pile behind as many puts -/
structure Pq (fm : Int) (sp : Nat) (x : Pi) (j : Nat) (ds : List PyData) : Prop where
  pre : Pre sp x j (ds.take j)
  rw_ : ∀ d ∈ ds, IsRow fm d
  len : ds.length ≤ 2000
  sp1 : 1 ≤ sp
  jl : j ≤ ds.length
theorem Pq.ok {fm : Int} {sp j : Nat} {x : Pi} {ds : List PyData} (h : Pq fm sp x j ds) : RowsOk x.rows ∧ x.lots.length ≤ 4000 ∧ x.e = false := by
  have l := h.pre.len
  have hl := h.len
  have hj := h.jl
  refine ⟨rows_ok (f := fm) (fun d hd => h.rw_ d (List.mem_of_mem_take (h.pre.pm.subset (List.mem_append_right _ hd)))) ?_, ?_, h.pre.e⟩
  · omega
  · have := Nat.mul_le_mul_left x.lots.length h.sp1
    omega
theorem Pq.put {fm : Int} {sp j : Nat} {x : Pi} {ds : List PyData} {d : PyData} (h : Pq fm sp x j ds) (hd : ds[j]? = some d) : Pq fm sp (x.put d) (j + 1) ds := by
  refine ⟨?_, h.rw_, h.len, h.sp1, ?_⟩
  · rw [List.take_add_one, hd]
    exact pre_put h.pre h.sp1
  · have := (List.getElem?_eq_some_iff.mp hd).1
    omega
theorem Pq.fin {fm : Int} {sp : Nat} {x : Pi} {ds : List PyData} (h : Pq fm sp x ds.length ds) : Pd fm sp x.fin (sizesOf ds.length sp) ds ∧ x.fin.s = (ds.length : Int) := by
  obtain ⟨a, b⟩ := post_fin h.pre h.sp1
  rw [List.take_length] at a
  refine ⟨⟨a, h.rw_, h.len, ?_, ?_⟩, b⟩
  · rw [sizes_lots h.sp1]
    have := lots_le (n := ds.length) h.sp1
    have := h.len
    omega
  · show x.flush.rows.length = 0
    by_cases g : x.rows.length = 0
    · rw [flush_e g]
      exact g
    · rw [flush_ne g]
      rfl
theorem Pq.start {fm : Int} {sp : Nat} {ds : List PyData} (h1 : 1 ≤ sp) (hr : ∀ d ∈ ds, IsRow fm d) (hl : ds.length ≤ 2000) : Pq fm sp ⟨(sp : Int), [], [], 0, false⟩ 0 ds := ⟨by rw [List.take_zero]; exact pre_new sp, hr, hl, h1, Nat.zero_le _⟩
theorem dp_at {K : PySem.W.Frag} {H : Hp} : ∀ {vs : List V} {ds : List PyData} {i : Nat} {v : V}, DpAll K H vs ds → vs[i]? = some v → ∃ d, ds[i]? = some d ∧ Dp K H v d
  | _, _, _, _, .nil, h => by simp at h
  | _, _, 0, _, .cons a b, h => by
    simp at h
    subst h
    exact ⟨_, rfl, a⟩
  | _, _, i + 1, _, .cons a b, h => by
    obtain ⟨d, h1, h2⟩ := dp_at b (by simpa using h)
    exact ⟨d, by simpa using h1, h2⟩
def spEn (K : PySem.W.Frag) (C : Addr) : Sp := fun vs H Q _ => ∃ (D : Hp) (Z : Addr → Prop) (R A : Addr) (fm : Int) (us : List V) (ds : List PyData) (hs : List Nat), vs = [.ref R, .ref A] ∧ Same D H ∧ (∀ b o, D b = some o → Z b) ∧ (∀ b, Z b → ∃ o, H b = some o) ∧ Z R ∧ Z A ∧
  H R = some (.lst us) ∧ DpAll K D us ds ∧ (∀ d ∈ ds, IsRow fm d) ∧ ds.length ≤ 2000 ∧ H A = some (.lst (hs.map vN)) ∧ (∀ h ∈ hs, 1 ≤ h) ∧ hs.length ≤ 20 ∧
  ∀ (H' : Hp) (L : Addr) (ps : Nat → Addr) (xs : Nat → Pi), D L = none → Multi K C D (fun b => Z b ∨ b = L) H' hs.length ps xs → (∀ b, Z b → H' b = H b) → (∀ T, Tabs T H → Tabs T H') → H' L = some (.lst (refsOf ps hs.length)) →
    (∀ i h, hs[i]? = some h → Pd fm h (xs i) (sizesOf ds.length h) ds ∧ (xs i).s = (ds.length : Int)) → Q (.ref L) H'
section
variable {P : Program} {w : World} {K : PySem.W.Frag} {mg : Str → Option Value} {base : Heap} {f fI C : Addr} {fd dI : FuncData} {cs : Nat → Addr}
theorem ok_en (F : Fun K "_law_ended" "_law_ended" sEn f fd) (T : Txt K mg C cs) (M : Mk K C fI) (FI : Fun K "__init__" "Pile.__init__" sInit fI dI) (bI : Binds K dI ["self", "hand"] [])
    (MP : Mt P w K mg base C "put" ["self", "row"] (L2.CX P w) 3 (spPut K C cs)) (MF : Mt P w K mg base C "end" ["self"] (L2.CX P w) 3 (spFin K C cs)) : FnOk P w K mg base CX0 4 f fd ["_law_rows", "_law_hands"] (spEn K C) := by
  have GI : FnOk P w K mg base CX0 1 fI dI ["self", "hand"] (spInit K C) := ok_init FI T
  refine F.ok scEn (fun vs H Q E h => ?_) (fun cdv A' outer s H vs Q E hr h => ?_)
  · obtain ⟨D, Z, R, A, fm, us, ds, hs, rfl, _⟩ := h
    rfl
  obtain ⟨D, Z, R, A, fm, us, ds, hs, rfl, sD, dz, zH, zR, zA, eR, dR, hrw, hl, eA, h1, h20, q⟩ := h
  have nd := scEn.nd
  obtain ⟨fP, dP, mP, GP, bP⟩ := MP.ex
  obtain ⟨fF, dF, mF, GF, bF⟩ := MF.ex
  refine ⟨_, pss_cons (ps_setLc (i := 2) (own := [("_law_hand", 5)]) (g := gName 5) (tt := tYes) rfl nd rfl rfl (by rfl) (pi_list (pv 1)) (blkOk_by (N := nEn) (sc := defScope sEn) (by decide +kernel)) (fun _ _ _ _ _ => pg_name (i := 5) nd rfl (Or.inl rfl)) (fun _ _ _ _ _ => pts_nil)
        (fun _ _ _ _ _ => pe_make M GI (hr.mono (by decide)) (by rfl) T.mgC bI .nil pass0 (pa_cons (pv 5) pa_nil)))
    (pss_cons (ps_for PassesOwn.never rfl (pi_list (pv 0)) (pg_name (i := 3) nd rfl (.inl rfl))
      (pss_one (ps_for PassesOwn.never rfl (pi_list (pv 2)) (pg_name (i := 4) nd rfl (.inl rfl))
        (pss_one (ps_expr (pe_meth (pv 4) T.cl mP GP hr bP .nil passL (pa_cons (pv 3) pa_nil)))))))
    (pss_cons (ps_for PassesOwn.never rfl (pi_list (pv 2)) (pg_name (i := 4) nd rfl (.inl rfl))
      (pss_one (ps_expr (pe_meth0 (pv 4) T.cl mF GF hr bF .nil passL))))
    (pss_one (ps_ret (pv 2))))), ?_⟩
  have lH : (hs.map vN).length = hs.length := List.length_map ..
  have lus : us.length = ds.length := DpAll.len dR
  refine ⟨_, rfl, A, rfl, ⟨_, SqL.of eA⟩, fun L nL => ?_⟩
  have dL : D L = none := sD.free nL
  have zL : ∀ b, Z b → b ≠ L := fun b z e => by
    obtain ⟨o, y⟩ := zH b z
    rw [e, nL] at y
    cases y
  refine lc_it (walk_list (xs := hs.map vN)) (fun (i : Nat) (G : Hp) => ∃ ps, Multi K C D (fun b => Z b ∨ b = L) G i ps (fun j => ⟨((hs.getD j 0 : Nat) : Int), [], [], 0, false⟩) ∧ (∀ b, Z b → G b = H b) ∧ (∀ T, Tabs T H → Tabs T G) ∧ G L = some (.lst (refsOf ps i)))
    ⟨fun _ => 0, (Multi.none sD dz zH).newz nL, fun b z => upd_ne (zL b z), fun T t => t.ext (new_same nL), upd_same⟩ (fun i G _ h => ?_) ?_ ?_
  · obtain ⟨ps, m, z, t, e⟩ := h
    exact SqL.of ((z A zA).trans eA)
  · rintro i x G0 G hi ⟨ps, mu, zz, tt, eL⟩ ⟨rfl, ex⟩
    have hi : i < hs.length := by rw [← lH]; exact hi
    have ex : x = vN hs[i] := by
      rw [List.getElem?_map, List.getElem?_eq_getElem hi] at ex
      exact (Option.some.inj ex).symm
    subst ex
    refine ⟨rfl, ?_⟩
    refine ⟨_, rfl, fun p dx np ndx ne => ?_⟩
    have sI : Same G (upd (upd G dx (.own p)) p (.ins C dx [])) := fun z o e => by
      rw [upd_ne (ne_of_none e np), upd_ne (ne_of_none e ndx)]
      exact e
    refine ⟨D, G, p, dx, ((hs[i] : Nat) : Int), rfl, mu.sD, sI, np, upd_same, fun H3 R3 => ⟨rfl, ?_⟩⟩
    have s3 := R3.2.1
    have mu3 := mu.add R3
    have eL3 := s3 _ _ eL
    refine ⟨_, eL3, by rw [refs_len]; show i < 16777216; omega, fun j => if j = i then p else ps j, ?_, fun b z => ?_, fun T t => tabs_write ((tt T t).ext s3) eL3, ?_⟩
    · refine (mu3.write (a := L) (.inr rfl) dL).cong fun j hj => ⟨rfl, ?_⟩
      by_cases e : j = i
      · subst e
        show _ = (if j = j then _ else _)
        rw [if_pos rfl, List.getD_eq_getElem?_getD, List.getElem?_eq_getElem hi]
        rfl
      · show _ = (if j = i then _ else _)
        rw [if_neg e]
    · rw [upd_ne (zL b z)]
      obtain ⟨o, e⟩ := mu.zH b (.inl z)
      rw [s3 _ _ e, ← zz b z, e]
    · rw [upd_same, refs_succ]
  rintro G ⟨ps, mu, zz, tt, eL⟩
  rw [lH] at mu eL
  -- rows are put
  obtain ⟨x0, hx0⟩ : ∃ x0 : Nat → Pi, x0 = fun j => ⟨((hs.getD j 0 : Nat) : Int), [], [], 0, false⟩ := ⟨_, rfl⟩
  rw [← hx0] at mu
  have st0 : ∀ i h, hs[i]? = some h → Pq fm h (x0 i) 0 ds := fun i h e => by
    rw [hx0]
    show Pq fm h ⟨((hs.getD i 0 : Nat) : Int), [], [], 0, false⟩ 0 ds
    rw [List.getD_eq_getElem?_getD, e]
    exact Pq.start (h1 h (List.mem_of_getElem? e)) hrw hl
  clear hx0
  let U : Nat → (Nat → Nat) → Hp → Prop := fun _ J G' => ∃ xs, Multi K C D (fun b => Z b ∨ b = L) G' hs.length ps xs ∧ (∀ b, (Z b ∨ b = L) → G' b = G b) ∧ (∀ T, Tabs T G → Tabs T G') ∧ ∀ i h, hs[i]? = some h → Pq fm h (xs i) (J i) ds
  have zR' : ∀ {J : Nat → Nat} {G' : Hp}, U 0 J G' → G' R = some (.lst us) := fun {J G'} u => by
    obtain ⟨xs, m, z, _⟩ := u
    rw [z R (.inl zR), zz R zR, eR]
  have zL' : ∀ {J : Nat → Nat} {G' : Hp}, U 0 J G' → G' L = some (.lst (refsOf ps hs.length)) := fun {J G'} u => by
    obtain ⟨xs, m, z, _⟩ := u
    rw [z L (.inr rfl), eL]
  refine ⟨_, rfl, R, rfl, ⟨_, SqL.of ((zz R zR).trans eR)⟩, ?_⟩
  refine for_it (walk_list (xs := us)) (fun j σ G' => (∃ v3 v4 v5, σ = [some (.ref R), some (.ref A), some (.ref L), v3, v4, v5]) ∧ U 0 (fun _ => j) G') ⟨⟨_, _, _, rfl⟩, x0, mu, fun b _ => rfl, fun T t => t, st0⟩ (fun j σ G' _ h => SqL.of (zR' h.2)) ?_ ?_
  · rintro j y σ G1 G1' hj ⟨⟨v3, v4, v5, rfl⟩, u⟩ ⟨rfl, ey⟩
    have hj : j < us.length := hj
    obtain ⟨d, ed, dd⟩ := dp_at dR ey
    refine ⟨_, rfl, L, rfl, ⟨_, SqL.of (zL' u)⟩, ?_⟩
    refine for_it (walk_list (xs := refsOf ps hs.length)) (fun i σ G' => (∃ v4 v5, σ = [some (.ref R), some (.ref A), some (.ref L), some y, v4, v5]) ∧ U 0 (fun k => if k < i then j + 1 else j) G') ⟨⟨_, _, rfl⟩, by simpa using u⟩ (fun i σ G' _ h => SqL.of (zL' h.2)) ?_ ?_
    · rintro i z σ G2 G2' hi ⟨⟨w4, w5, rfl⟩, xs, m, zz2, t2, pq⟩ ⟨rfl, ez⟩
      have hi : i < hs.length := by rw [refs_len] at hi; exact hi
      rw [refs_at hi] at ez
      obtain rfl := (Option.some.inj ez).symm
      have eh := List.getElem?_eq_getElem hi
      have pi := pq i _ eh
      simp only [Nat.lt_irrefl, if_false] at pi
      obtain ⟨ok, lz, ee⟩ := pi.ok
      obtain ⟨Hf, dx, fs, Rf, ep, nf, act⟩ := m.act hi
      refine ⟨_, rfl, ps i, dx, fs, rfl, ep, nf _ (by decide +kernel), _, rfl, D, Hf, ps i, y, d, xs i, rfl, Rf, dd, ok, lz, (fun e => absurd (ee.symm.trans e) (by decide)), fun _ H4 R4 => ?_⟩
      obtain ⟨m4, z4, t4⟩ := act H4 _ R4
      refine ⟨⟨_, _, rfl⟩, _, m4, fun b hb => (z4 b hb).trans (zz2 b hb), fun T t => t4 T (t2 T t), fun k h ek => ?_⟩
      · by_cases e : k = i
        · subst e
          simp only [if_true]
          have : (if k < k + 1 then j + 1 else j) = j + 1 := if_pos (by omega)
          rw [this]
          rw [eh] at ek
          cases ek
          exact pi.put ed
        · have : (if k < i + 1 then j + 1 else j) = (if k < i then j + 1 else j) := by
            by_cases c : k < i
            · rw [if_pos c, if_pos (by omega)]
            · rw [if_neg c, if_neg (by omega)]
          show Pq fm h (if k = i then (xs i).put d else xs k) (if k < i + 1 then j + 1 else j) ds
          rw [this, if_neg e]
          exact pq k h ek
    · rintro σ G2 ⟨⟨w4, w5, rfl⟩, u2⟩
      refine ⟨⟨_, _, _, rfl⟩, ?_⟩
      obtain ⟨xs, m, z2, t2, pq⟩ := u2
      refine ⟨xs, m, z2, t2, fun i h e => ?_⟩
      have this : Pq fm h (xs i) (if i < (refsOf ps hs.length).length then j + 1 else j) ds := pq i h e
      have lt : i < (refsOf ps hs.length).length := by rw [refs_len]; exact (List.getElem?_eq_some_iff.mp e).1
      rw [if_pos lt] at this
      exact this
  rintro σ G2 ⟨⟨v3, v4, v5, rfl⟩, u⟩
  rw [lus] at u
  -- all of them ended
  let W : Nat → Hp → Prop := fun i G' => ∃ xs, Multi K C D (fun b => Z b ∨ b = L) G' hs.length ps xs ∧ (∀ b, (Z b ∨ b = L) → G' b = G b) ∧ (∀ T, Tabs T G → Tabs T G') ∧ ∀ k h, hs[k]? = some h → (k < i → Pd fm h (xs k) (sizesOf ds.length h) ds ∧ (xs k).s = (ds.length : Int)) ∧ (i ≤ k → Pq fm h (xs k) ds.length ds)
  have zW : ∀ {i : Nat} {G' : Hp}, W i G' → G' L = some (.lst (refsOf ps hs.length)) := fun {i G'} u => by
    obtain ⟨xs, m, z, _⟩ := u
    rw [z L (.inr rfl), eL]
  refine ⟨_, rfl, L, rfl, ⟨_, SqL.of (zL' u)⟩, ?_⟩
  refine for_it (walk_list (xs := refsOf ps hs.length)) (fun i σ G' => (∃ v3 v4 v5, σ = [some (.ref R), some (.ref A), some (.ref L), v3, v4, v5]) ∧ W i G') ⟨⟨_, _, _, rfl⟩, ?_⟩ (fun i σ G' _ h => SqL.of (zW h.2)) ?_ ?_
  · obtain ⟨xs, m, z, t, pq⟩ := u
    exact ⟨xs, m, z, t, fun k h e => ⟨fun c => absurd c (by omega), fun _ => pq k h e⟩⟩
  · rintro i z σ G3 G3' hi ⟨⟨w3, w4, w5, rfl⟩, xs, m, zz2, t2, pq⟩ ⟨rfl, ez⟩
    have hi : i < hs.length := by rw [refs_len] at hi; exact hi
    rw [refs_at hi] at ez
    obtain rfl := (Option.some.inj ez).symm
    have eh := List.getElem?_eq_getElem hi
    have pi := (pq i _ eh).2 (Nat.le_refl _)
    obtain ⟨ok, lz, ee⟩ := pi.ok
    obtain ⟨Hf, dx, fs, Rf, ep, nf, act⟩ := m.act hi
    refine ⟨_, rfl, ps i, dx, fs, rfl, ep, nf _ (by decide +kernel), D, Hf, ps i, xs i, rfl, Rf, (fun e => absurd (ee.symm.trans e) (by decide)), fun _ => ⟨ok, lz, fun H4 R4 => ?_⟩⟩
    obtain ⟨m4, z4, t4⟩ := act H4 _ R4
    refine ⟨⟨_, _, _, rfl⟩, _, m4, fun b hb => (z4 b hb).trans (zz2 b hb), fun T t => t4 T (t2 T t), fun k h ek => ?_⟩
    by_cases e : k = i
    · subst e
      simp only [if_true]
      rw [eh] at ek
      cases ek
      exact ⟨fun _ => pi.fin, fun c => absurd c (by omega)⟩
    · simp only [if_neg e]
      exact ⟨fun c => (pq k h ek).1 (by omega), fun c => (pq k h ek).2 (by omega)⟩
  · rintro σ G3 ⟨⟨w3, w4, w5, rfl⟩, xs, m, zz2, t2, pq⟩
    refine ⟨_, rfl, q G3 L ps xs dL m (fun b z => (zz2 b (.inl z)).trans (zz b z)) (fun T t => t2 T (tt T t)) ((zz2 L (.inr rfl)).trans eL) fun i h e => (pq i h e).1 ?_⟩
    rw [refs_len]
    exact (List.getElem?_eq_some_iff.mp e).1
end
end K42
end

section
set_option Elab.async false
set_option linter.all false
set_option maxRecDepth 100000
set_option maxHeartbeats 4000000
namespace K42
open PySem PySem.Spec PyProof.Rows L2 Gd LamX
abbrev sLn : Stmt := topS 20
abbrev nLn : List Str := ["_law_pile", "_law_lots_here", "_law_many", "_law_found"]
theorem scLn : FnScope nLn ["_law_pile", "_law_lots_here", "_law_many"] (defScope sLn) := ⟨rfl, rfl, rfl, by decide +kernel, rfl, by decide +kernel, by decide +kernel⟩
def Done1 (fm : Int) (x : Pi) (ds : List PyData) : Prop := ∃ sp zs, Pd fm sp x zs ds ∧ zs.length ≤ 1
def spLn (K : PySem.W.Frag) (C : Addr) : Sp := fun vs H Q _ => ∃ (D H0 : Hp) (p : Addr) (x : Pi) (fm : Int) (sp : Nat) (zs : List Nat) (ds : List PyData), vs = [.ref p, .int (zs.length : Int), .int (ds.length : Int)] ∧ PileAt K C D H0 H p x ∧ Pd fm sp x zs ds ∧ x.s = (ds.length : Int) ∧
  ∀ (H' : Hp) (x' : Pi), PileAt K C D H0 H' p x' → Done1 fm x' ds → Q (.bl true) H'
section
variable {P : Program} {w : World} {K : PySem.W.Frag} {mg : Str → Option Value} {base : Heap} {f fc C : Addr} {fd dc : FuncData} {cs : Nat → Addr}
theorem ok_ln (F : Fun K "_law_lent_right" "_law_lent_right" sLn f fd) (mx : mg "max" = none) (mi : mg "int" = none) (mn : mg "min" = none) (T : Txt K mg C cs)
    (FC : Fun K "_law_count" "_law_count" sCt fc dc) (GC : FnOk P w K mg base CX0 3 fc dc ["_law_pile", "_law_most"] (spCt K C)) (gC : mg "_law_count" = some (.ref fc)) (bC : Binds K dc ["_law_pile", "_law_most"] [])
    (MA : Mt P w K mg base C "hand" ["self"] CX0 1 (spHand K C)) (ML : Mt P w K mg base C "lend" ["self", "n"] CX0 1 (spLend K C)) (MN : Mt P w K mg base C "lots" ["self"] CX0 1 (spLots K C)) (MS : Mt P w K mg base C "steps" ["self"] CX0 1 (spSteps K C)) :
    FnOk P w K mg base CX0 4 f fd ["_law_pile", "_law_lots_here", "_law_many"] (spLn K C) := by
  refine F.ok scLn (fun vs H Q E h => ?_) (fun cdv A outer s H vs Q E hr h => ?_)
  · obtain ⟨D, H0, p, x, fm, sp, zs, ds, rfl, _⟩ := h
    rfl
  obtain ⟨D, H0, p, x, fm, sp, zs, ds, rfl, hP, pd, es, q⟩ := h
  have nd := scLn.nd
  obtain ⟨fA, dA, mA, GA, bA⟩ := MA.ex
  obtain ⟨fL, dL, mL, GL, bL⟩ := ML.ex
  obtain ⟨fN, dN, mN, GN, bN⟩ := MN.ex
  obtain ⟨fS, dS, mS, GS, bS⟩ := MS.ex
  have r1 : Room 1 _ := hr.mono (by decide)
  refine ⟨_, pss_cons (ps_expr (pe_meth (pv 0) T.cl mL GL r1 bL .nil pass0 (pa_cons (pe_callB (call_max2 rfl) (by rfl) mx (by decide +kernel) (pa_cons pe_int (pa_cons (pe_op op_sub (pv 1) (pe_meth0 (pv 0) T.cl mA GA r1 bA .nil pass0)) pa_nil))) pa_nil)))
    (pss_cons (ps_if (PW.pt (pw_or (pt_cmpR op_ne (pe_meth0 (pv 0) T.cl mN GN r1 bN .nil pass0) (pv 1) (nomark _)) (pw_or1 (pt_cmpR op_ne (pe_meth0 (pv 0) T.cl mS GS r1 bS .nil pass0) (pv 2) (nomark _))))) (pss_one (ps_ret pe_bl)) pss_nil)
    (pss_cons (ps_set (i := 3) nd rfl (.inl rfl) (pe_call GC hr (by rfl) gC FC.kp bC .nil pass0 (pa_cons (pv 0) (pa_cons pe_int pa_nil))))
    (pss_one (ps_ret (pe_and (pe_cmpR (op_eqD hr.units) (pe_tup (pa_cons (pv 3) (pa_cons (pe_meth0 (pv 0) T.cl mS GS r1 bS .nil pass0) pa_nil)))
        (pe_tup (pa_cons (pe_callTy call_int1 (by rfl) mi (by decide +kernel) (pa_cons (pe_cmpR op_gt (pv 1) pe_int (nomark _)) pa_nil)) (pa_cons (pe_op op_mul (pv 2) (pe_op op_add pe_int (pe_callTy call_int1 (by rfl) mi (by decide +kernel) (pa_cons (pe_cmpR op_gt (pv 1) pe_int (nomark _)) pa_nil)))) pa_nil))) (nomark _))
      (pe_one (pe_cmpR op_eq (pe_meth0 (pv 0) T.cl mN GN r1 bN .nil pass0) (pe_callB (call_min2 rfl) (by rfl) mn (by decide +kernel) (pa_cons pe_int (pa_cons (pv 1) pa_nil))) (nomark _)))))))), ?_⟩
  obtain ⟨_, _, _, dx, _, _, _, _, _, _, _, ep, _⟩ := id hP
  have ll := pd.lots
  have xm := pd.po.m
  refine ⟨_, rfl, p, dx, _, rfl, ep, pf_no (by decide +kernel), _, rfl, _, rfl, p, dx, _, rfl, ep, pf_no (by decide +kernel), D, H0, p, x, rfl, hP, _, _, rfl, rfl, _, _, rfl, D, H0, p, x, _, rfl, hP, fun H1 R1 => ?_⟩
  obtain ⟨x1, hx1⟩ : ∃ x1 : Pi, x1 = { x with m := x.m + (if (zs.length : Int) - x.m > 0 then (zs.length : Int) - x.m else 0) } := ⟨_, rfl⟩
  have R1 : PileAt K C D H0 H1 p x1 := by rw [hx1]; exact R1
  have pd1 : Pd fm (max sp zs.length) x1 zs ds := by
    rw [hx1]
    refine ⟨⟨?_, pd.po.e, pd.po.len, pd.po.st, pd.po.pm⟩, pd.rw_, pd.len, pd.zl, pd.r0⟩
    show x.m + (if (zs.length : Int) - x.m > 0 then (zs.length : Int) - x.m else 0) = ((max sp zs.length : Nat) : Int)
    rw [xm]
    split <;> omega
  have es1 : x1.s = (ds.length : Int) := by rw [hx1]; exact es
  clear hx1 hP
  have ll1 := pd1.lots
  obtain ⟨_, _, _, dx1, _, _, _, _, _, _, _, ep1, _⟩ := id R1
  refine ⟨_, rfl, p, dx1, _, rfl, ep1, pf_no (by decide +kernel), D, H0, p, x1, rfl, R1, _, rfl, rfl, _, rfl, ite2 (fun z => absurd z (by simp [ll1])) (fun _ => ?_)⟩
  refine ⟨_, rfl, p, dx1, _, rfl, ep1, pf_no (by decide +kernel), D, H0, p, x1, rfl, R1, _, rfl, rfl, _, rfl, ite2 (fun z => absurd z (by simp [es1])) (fun _ => ?_)⟩
  refine ⟨_, rfl, D, H0, p, x1, fm, max sp zs.length, 1, zs, ds, rfl, R1, pd1, by decide, fun H2 x2 R2 pd2 es2 => ?_⟩
  have rn := run_one (k := max 2 (max sp zs.length)) (zs := zs) (by omega) 0
  have sm := pd1.po.sum
  rw [es1] at es2
  obtain ⟨_, _, _, dx2, _, _, _, _, _, _, _, ep2, _⟩ := id R2
  have key : ∃ b : Nat, b ≤ 1 ∧ (runM (max 2 (max sp zs.length)) (zs, 0, 0) (0 + 1)).2.1 = b ∧ x2.s = (ds.length : Int) * (1 + (b : Int)) ∧ x2.lots.length = min 1 zs.length ∧ (if decide (1 < (zs.length : Int)) = true then (1 : Int) else 0) = (b : Int) := by
    have l2 := pd2.lots
    rw [rn] at es2 l2 ⊢
    by_cases z : 1 < zs.length
    · rw [if_pos z] at es2 l2 ⊢
      refine ⟨1, Nat.le_refl _, rfl, ?_, ?_, ?_⟩
      · have es2 : x2.s = (ds.length : Int) + ((zs.sum : Nat) : Int) := es2
        rw [es2, sm]
        omega
      · rw [l2]
        show 1 = _
        omega
      · rw [if_pos (by simp; omega)]
        rfl
    · rw [if_neg z] at es2 l2 ⊢
      refine ⟨0, by decide, rfl, ?_, ?_, ?_⟩
      · rw [es2]
        show (ds.length : Int) + ((0 : Nat) : Int) = _
        omega
      · rw [l2]
        show zs.length = _
        omega
      · rw [if_neg (by simp; omega)]
        rfl
  obtain ⟨b, b1, k1, k2, k3, k4⟩ := key
  have dn : Done1 fm x2 ds := ⟨_, _, pd2, by rw [← pd2.lots, k3]; omega⟩
  have k1 : (runM (max 2 (max sp zs.length)) (zs, 0, 0) 1).2.1 = b := k1
  clear rn
  rw [k1]
  refine ⟨_, rfl, _, rfl, p, dx2, _, rfl, ep2, pf_no (by decide +kernel), D, H0, p, x2, rfl, R2, (by show 2 ≤ sizeLine; decide), fun t1 nt1 => ?_⟩
  have s1 := new_same (o := .tup [.int (b : Int), .int x2.s]) nt1
  have e1 : upd H2 t1 (.tup [.int (b : Int), .int x2.s]) t1 = some (.tup [.int (b : Int), .int x2.s]) := upd_same
  generalize upd H2 t1 (.tup [.int (b : Int), .int x2.s]) = G1 at s1 e1 ⊢
  refine ⟨_, rfl, _, _, rfl, rfl, .inr ⟨_, rfl, _, rfl, _, rfl, _, _, rfl, rfl, .inr ⟨_, rfl, _, _, rfl, rfl, _, _, rfl, rfl, .inl ⟨by have := pd.len; omega, by have := pd.len; omega⟩, (by show 2 ≤ sizeLine; decide), fun t2 nt2 => ?_⟩⟩⟩
  have s2 := new_same (o := .tup [.int (if decide (1 < (zs.length : Int)) = true then 1 else 0), .int ((ds.length : Int) * (1 + (if decide (1 < (zs.length : Int)) = true then 1 else 0)))]) nt2
  have e2 : upd G1 t2 (.tup [.int (if decide (1 < (zs.length : Int)) = true then 1 else 0), .int ((ds.length : Int) * (1 + (if decide (1 < (zs.length : Int)) = true then 1 else 0)))]) t2 = some (.tup [.int (if decide (1 < (zs.length : Int)) = true then 1 else 0), .int ((ds.length : Int) * (1 + (if decide (1 < (zs.length : Int)) = true then 1 else 0)))]) := upd_same
  generalize upd G1 t2 (.tup [.int (if decide (1 < (zs.length : Int)) = true then 1 else 0), .int ((ds.length : Int) * (1 + (if decide (1 < (zs.length : Int)) = true then 1 else 0)))]) = G2 at s2 e2 ⊢
  rw [k4, ← k2] at e2
  refine ⟨.tuple [.int (b : Int), .int x2.s], .tuple [.int (b : Int), .int x2.s], .tup (SqT.of (s2 _ _ e1)) (.cons (.int _) (.cons (.int _) .nil)), .tup (SqT.of e2) (.cons (.int _) (.cons (.int _) .nil)), rfl, rfl, ?_⟩
  rw [PySem.W.eqv_refl_alike _ (by simp [PySem.W.alike, PySem.W.alikeAll])]
  refine ⟨_, rfl, iteT ?_⟩
  have R3 := (R2.same s1).same s2
  have ep3 := s2 _ _ (s1 _ _ ep2)
  refine ⟨_, rfl, p, dx2, _, rfl, ep3, pf_no (by decide +kernel), D, H0, p, x2, rfl, R3, _, rfl, _, _, rfl, rfl, ?_⟩
  have fin := q G2 x2 R3 dn
  have k5 : (x2.lots.length : Int) = (if (zs.length : Int) < 1 then (zs.length : Int) else 1) := by
    rw [k3]
    split <;> omega
  rw [k5]
  simpa using fin
end
end K42
end

section
set_option Elab.async false
set_option linter.all false
set_option maxRecDepth 100000
set_option maxHeartbeats 4000000
namespace K42
open PySem PySem.Spec PyProof.Rows L2 Gd LamX Szg
abbrev sHR : Stmt := topS 21
abbrev nHR : List Str := ["_law_rows", "_law_hands", "_law_many", "_law_piles", "_law_lots_here", "_law_k", "_law_hand", "_law_pile"]
theorem scHR : FnScope nHR ["_law_rows", "_law_hands"] (defScope sHR) := ⟨rfl, rfl, rfl, by decide +kernel, rfl, by decide +kernel, by decide +kernel⟩
def qHR : Str := (envOfC "_law_hands_right" (defScope sHR) 0 0 .none).qual ++ "<lambda>"
def tabs1 (P1 : Addr) : List (Addr × Str) := [(P1, qHR)]
def spHR (K : PySem.W.Frag) (C P1 : Addr) : Sp := fun vs H Q _ => ∃ (D : Hp) (Z : Addr → Prop) (R A : Addr) (fm : Int) (us : List V) (ds : List PyData) (h0 : Nat) (hs : List Nat), vs = [.ref R, .ref A] ∧ Same D H ∧ (∀ b o, D b = some o → Z b) ∧ (∀ b, Z b → ∃ o, H b = some o) ∧ (∀ b ps, Z b → H b ≠ some (.tbl ps)) ∧ Z R ∧ Z A ∧
  H R = some (.lst us) ∧ DpAll K D us ds ∧ (∀ d ∈ ds, IsRow fm d) ∧ ds.length ≤ 240 ∧ H A = some (.lst ((h0 :: hs).map vN)) ∧ (∀ h ∈ h0 :: hs, 1 ≤ h ∧ h ≤ 4000) ∧ hs.length ≤ 10 ∧ Tabs (tabs1 P1) H ∧
  ∀ H' : Hp, (∀ b, Z b → H' b = H b) → Q (.bl true) H'
theorem iteF' {b : Bool} {p q : Prop} (h : ¬ b = true) (y : q) : if b = true then p else q := by
  rw [if_neg h]
  exact y
theorem at_two {xs : List V} {v : V} (h : xs[xs.length - 2]? = some v) (l : 2 ≤ xs.length) : atI xs (-2) = some v := by
  unfold atI ixN
  rw [if_neg (by decide), if_pos (by omega)]
  show xs[((-2 : Int) + (xs.length : Int)).toNat]? = some v
  rw [show ((-2 : Int) + (xs.length : Int)).toNat = xs.length - 2 by omega]
  exact h
theorem at_one {xs : List V} {v : V} (h : xs[xs.length - 1]? = some v) (l : 1 ≤ xs.length) : atI xs (-1) = some v := by
  unfold atI ixN
  rw [if_neg (by decide), if_pos (by omega)]
  show xs[((-1 : Int) + (xs.length : Int)).toNat]? = some v
  rw [show ((-1 : Int) + (xs.length : Int)).toNat = xs.length - 1 by omega]
  exact h
theorem lots_one {n h : Nat} (h1 : 1 ≤ h) : min 1 ((n + h - 1) / h) = min 1 n := by
  rcases Nat.eq_zero_or_pos n with z | z
  · rw [z, Nat.div_eq_of_lt (by omega)]
  · have : 1 ≤ (n + h - 1) / h := (Nat.le_div_iff_mul_le (by omega)).mpr (by omega)
    omega
theorem depth_ints : ∀ ns : List Int, PyData.depthAll (ns.map .int) ≤ 1
  | [] => Nat.zero_le _
  | n :: ns => by
    have := depth_ints ns
    simp only [List.map_cons, PyData.depthAll, PyData.depth]
    omega
theorem ints_shaped (ns : List Int) : SeqAt.shaped (.list (ns.map .int)) = true := by
  have d := depth_ints ns
  unfold SeqAt.shaped
  have e : (PyData.list (ns.map .int)).depth = PyData.depthAll (ns.map .int) + 1 := by
    unfold PyData.depth
    rfl
  rw [e]
  simp only [PyData.canLay0, ints_lay ns, Bool.true_and, decide_eq_true_eq]
  omega
theorem ints_eqv (ns : List Int) : PyData.eqv (.list (ns.map .int)) (.list (ns.map .int)) = true :=
  PySem.W.eqv_refl_alike _ (by simp only [PySem.W.alike]; exact PySem.W.alike_ints ns ns)
theorem take_snoc {α : Type} {xs : List α} {i : Nat} {v : α} (h : xs[i]? = some v) : xs.take (i + 1) = xs.take i ++ [v] := by
  rw [List.take_add_one, h]
  rfl
/-- the piles, and what stands beside them -/
structure Fx (K : PySem.W.Frag) (C P1 : Addr) (D : Hp) (Z : Addr → Prop) (G3 : Hp) (n : Nat) (ps : Nat → Addr) (G : Hp) (xs : Nat → Pi) : Prop where
  mu : Multi K C D Z G n ps xs
  zz : ∀ b, Z b → G b = G3 b
  tb : Tabs (tabs1 P1) G
  nt : ∀ b u, Z b → G3 b ≠ some (.tbl u)
/-- and a list that grows -/
structure Fy (K : PySem.W.Frag) (C P1 : Addr) (D : Hp) (Z : Addr → Prop) (G3 : Hp) (n : Nat) (ps : Nat → Addr) (B : Addr) (G : Hp) (xs : Nat → Pi) (vs : List V) : Prop where
  mu : Multi K C D (fun b => Z b ∨ b = B) G n ps xs
  zz : ∀ b, Z b → G b = G3 b
  tb : Tabs (tabs1 P1) G
  nt : ∀ b u, Z b → G3 b ≠ some (.tbl u)
  eB : G B = some (.lst vs)
  nB : ¬ Z B
  dB : D B = none
  dz : ∀ b o, D b = some o → Z b
section
variable {K : PySem.W.Frag} {C P1 : Addr} {D : Hp} {Z : Addr → Prop} {G3 G G' : Hp} {n : Nat} {ps : Nat → Addr} {xs : Nat → Pi} {B : Addr} {vs : List V}
theorem Fx.same (h : Fx K C P1 D Z G3 n ps G xs) (s : Same G G') : Fx K C P1 D Z G3 n ps G' xs := ⟨h.mu.same s, fun b z => by
  obtain ⟨o, e⟩ := h.mu.zH b z
  rw [s _ _ e, ← h.zz b z, e], h.tb.ext s, h.nt⟩
theorem Fx.ext (h : Fx K C P1 D Z G3 n ps G xs) (e : ExtN G G') (t : Tabs (tabs1 P1) G') : Fx K C P1 D Z G3 n ps G' xs := ⟨h.mu.ext (fun b u z y => h.nt b u z (by rw [← h.zz b z, y])) e, fun b z => by
  obtain ⟨o, q⟩ := h.mu.zH b z
  rw [e _ _ q (fun u y => h.nt b u z (by rw [← h.zz b z, q, y])), ← h.zz b z, q], t, h.nt⟩
theorem Fx.act {i : Nat} (h : Fx K C P1 D Z G3 n ps G xs) (hi : i < n) : ∃ Hf dx fs, PileAt K C D Hf G (ps i) (xs i) ∧ G (ps i) = some (.ins C dx fs) ∧ (∀ m : Str, (["_most", "_rows", "_lots", "_steps", "_ended"] : List Str).contains m = false → fs.lookup m = Option.none) ∧
    ∀ (H' : Hp) (x' : Pi), PileAt K C D Hf H' (ps i) x' → Fx K C P1 D Z G3 n ps H' (fun j => if j = i then x' else xs j) := by
  obtain ⟨Hf, dx, fs, a, b, c, d⟩ := h.mu.act hi
  exact ⟨Hf, dx, fs, a, b, c, fun H' x' R => ⟨(d H' x' R).1, fun b z => ((d H' x' R).2.1 b z).trans (h.zz b z), (d H' x' R).2.2 _ h.tb, h.nt⟩⟩
theorem Fx.grow (h : Fx K C P1 D Z G3 n ps G xs) (nB : G B = none) : Fy K C P1 D Z G3 n ps B (upd G B (.lst [])) xs [] := by
  have n1 : ¬ Z B := fun z => by
    obtain ⟨o, e⟩ := h.mu.zH B z
    rw [nB] at e
    cases e
  exact ⟨h.mu.newz nB, fun b z => by
    rw [upd_ne (fun e => n1 (by rw [← e]; exact z))]
    exact h.zz b z, h.tb.ext (new_same nB), h.nt, upd_same, n1, h.mu.sD.free nB, h.mu.dz⟩
theorem Fy.same (h : Fy K C P1 D Z G3 n ps B G xs vs) (s : Same G G') : Fy K C P1 D Z G3 n ps B G' xs vs := ⟨h.mu.same s, fun b z => by
  obtain ⟨o, e⟩ := h.mu.zH b (.inl z)
  rw [s _ _ e, ← h.zz b z, e], h.tb.ext s, h.nt, s _ _ h.eB, h.nB, h.dB, h.dz⟩
theorem Fy.snoc (y : V) (h : Fy K C P1 D Z G3 n ps B G xs vs) : Fy K C P1 D Z G3 n ps B (upd G B (.lst (vs ++ [y]))) xs (vs ++ [y]) :=
  ⟨h.mu.write (.inr rfl) h.dB, fun b z => by
    rw [upd_ne (fun e => h.nB (by rw [← e]; exact z))]
    exact h.zz b z, tabs_write h.tb h.eB, h.nt, upd_same, h.nB, h.dB, h.dz⟩
theorem Fy.fx (h : Fy K C P1 D Z G3 n ps B G xs vs) : Fx K C P1 D Z G3 n ps G xs := ⟨h.mu.sub (fun b z => .inl z) h.dz, h.zz, h.tb, h.nt⟩
end

section
variable {P : Program} {w : World} {K : PySem.W.Frag} {mg : Str → Option Value} {base : Heap} {f g c1 fe fc fl' fm' fn' P1 C : Addr} {fd dH de dc dl' dm' dn' : FuncData} {cs : Nat → Addr}
theorem ok_hr (F : FunC K "_law_hands_right" "_law_hands_right" sHR f fd c1) (TB : TabB base mg c1 P1) (ms : mg "sum" = none) (mv : mg "ValueError" = none) (mp : mg "repr" = none) (mn : mg "min" = none) (me : mg "enumerate" = none) (T : Txt K mg C cs) (c42 : Cls42 K mg cs)
    (FH : Fun K "_law_heard" "_law_heard" sHeard g dH) (gH : mg "_law_heard" = some (.ref g)) (bH : Binds K dH ["_law_ask"] [])
    (FE : Fun K "_law_ended" "_law_ended" sEn fe de) (GE : FnOk P w K mg base CX0 4 fe de ["_law_rows", "_law_hands"] (spEn K C)) (gE : mg "_law_ended" = some (.ref fe)) (bE : Binds K de ["_law_rows", "_law_hands"] [])
    (FC : Fun K "_law_count" "_law_count" sCt fc dc) (GC : FnOk P w K mg base CX0 3 fc dc ["_law_pile", "_law_most"] (spCt K C)) (gC : mg "_law_count" = some (.ref fc)) (bC : Binds K dc ["_law_pile", "_law_most"] [])
    (FL' : Fun K "_law_lots" "_law_lots" sLt fl' dl') (GL' : FnOk P w K mg base CX0 1 fl' dl' ["_law_many", "_law_hand"] (spLt K)) (gL' : mg "_law_lots" = some (.ref fl')) (bL' : Binds K dl' ["_law_many", "_law_hand"] [])
    (FM' : Fun K "_law_mergings" "_law_mergings" sMg fm' dm') (GM' : FnOk P w K mg base CX0 1 fm' dm' ["_law_lots_here", "_law_hand"] (spMg K)) (gM' : mg "_law_mergings" = some (.ref fm')) (bM' : Binds K dm' ["_law_lots_here", "_law_hand"] [])
    (FN' : Fun K "_law_lent_right" "_law_lent_right" sLn fn' dn') (GN' : FnOk P w K mg base CX0 4 fn' dn' ["_law_pile", "_law_lots_here", "_law_many"] (spLn K C)) (gN' : mg "_law_lent_right" = some (.ref fn')) (bN' : Binds K dn' ["_law_pile", "_law_lots_here", "_law_many"] [])
    (MN : Mt P w K mg base C "lots" ["self"] CX0 1 (spLots K C)) (MS : Mt P w K mg base C "steps" ["self"] CX0 1 (spSteps K C)) (MC : Mt P w K mg base C "call_back" ["self", "n"] (L2.CX P w) 3 (spCb K C cs)) (MM : Mt P w K mg base C "merge" ["self"] (L2.CX P w) 2 (spMrg K C cs)) (MT : Mt P w K mg base C "told" ["self"] (L2.CX P w) 1 (spTold K C cs)) :
    FnG P w K mg base CX0 6 f fd ["_law_rows", "_law_hands"] (spHR K C P1) := by
  refine okCG F scHR (fun vs H Q E h => ?_) (fun A' outer s H vs Q E hg hr h => ?_)
  · obtain ⟨D, Z, R, A, fm, us, ds, h0, hs, rfl, _⟩ := h
    rfl
  obtain ⟨D, Z, R, A, fm, us, ds, h0, hs, rfl, sD, dz, zH, zT, zR, zA, eR, dR, hrw, hl, eA, hh, h10, hT, q⟩ := h
  have nd := scHR.nd
  obtain ⟨fN, dN, mN, GN, bN⟩ := MN.ex
  obtain ⟨fS, dS, mS, GS, bS⟩ := MS.ex
  obtain ⟨fC, dC, mC, GC', bC'⟩ := MC.ex
  obtain ⟨fM, dM, mM, GM, bM⟩ := MM.ex
  obtain ⟨fT, dT, mT, GT, bT⟩ := MT.ex
  obtain ⟨oc, od, kV, doc, pm, an, cdv, ct, osl, edH, lk, hcg⟩ := FH.ex
  subst edH
  have hU : ∀ q ∈ tabs1 P1, q.1 = P1 → q.2 = qHR := fun q hq e => by
    simp only [tabs1, List.mem_cons, List.not_mem_nil, or_false] at hq
    rw [hq]
  refine ⟨_, pss_cons (ps_set (i := 2) nd rfl (.inr rfl) (pe_callB call_len_seq (by rfl) T.len PySem.boot_len (pa_cons (pv 0) pa_nil)))
    (pss_cons (ps_set (i := 3) nd rfl (.inr rfl) (pe_call GE (hr.mono (by decide)) (by rfl) gE FE.kp bE .nil pass0 (pa_cons (pv 0) (pa_cons (pe_op op_cat (pv 1) (pe_lst (pa_cons (pe_ix ix_list (pv 1) pe_int (fun _ _ => rfl)) (pa_cons (pe_ix ix_list (pv 1) pe_int (fun _ _ => rfl)) pa_nil)))) pa_nil))))
    (pss_cons (ps_setLc (i := 4) (own := [("_law_hand", 6)]) (g := gName 6) (tt := tYes) rfl nd rfl rfl (by rfl) (pi_list (pe_op op_cat (pv 1) (pe_lst (pa_cons (pe_ix ix_list (pv 1) pe_int (fun _ _ => rfl)) (pa_cons (pe_ix ix_list (pv 1) pe_int (fun _ _ => rfl)) pa_nil))))) (blkOk_by (N := nHR) (sc := defScope sHR) (by decide +kernel)) (fun _ _ _ _ _ => pg_name (i := 6) nd rfl (Or.inl rfl)) (fun _ _ _ _ _ => pts_nil) (fun _ _ _ _ _ => (pe_call GL' (hr.mono (by decide)) (by rfl) gL' FL'.kp bL' .nil pass0 (pa_cons (pv 2) (pa_cons (pv 6) pa_nil)))))
    (C8.pss_cut (ps_if (PW.pt (pw_or (pt_cmpR (op_neD hr.units) (pe_lc (own := [("_law_pile", 7)]) (g := gName 7) (tt := tYes) rfl nd (pi_list (pv 3)) (blkOk_by (N := nHR) (sc := defScope sHR) (by decide +kernel)) (fun _ _ _ _ _ => pg_name (i := 7) nd rfl (Or.inl rfl)) (fun _ _ _ _ _ => pts_nil) (fun _ _ _ _ _ => (pe_meth0 (pv 7) T.cl mN GN (hr.mono (by decide)) bN .nil pass0))) (pv 4) (nomark _)) (pw_or1 (pt_cmpR (op_neD hr.units) (pe_lc (own := [("_law_pile", 7)]) (g := gName 7) (tt := tYes) rfl nd (pi_list (pv 3)) (blkOk_by (N := nHR) (sc := defScope sHR) (by decide +kernel)) (fun _ _ _ _ _ => pg_name (i := 7) nd rfl (Or.inl rfl)) (fun _ _ _ _ _ => pts_nil) (fun _ _ _ _ _ => (pe_meth0 (pv 7) T.cl mS GS (hr.mono (by decide)) bS .nil pass0))) (pe_op op_rep (pe_lst (pa_cons (pv 2) pa_nil)) (pe_callB call_len_seq (by rfl) T.len PySem.boot_len (pa_cons (pv 3) pa_nil))) (nomark _))))) (pss_one (ps_ret pe_bl)) pss_nil)
    (C8.pss_cut (ps_if (pt_not (pt_val (pe_call GN' (hr.mono (by decide)) (by rfl) gN' FN'.kp bN' .nil pass0 (pa_cons (pe_ix ix_list (pv 3) (pe_un un_neg pe_int) (fun _ _ => rfl)) (pa_cons (pe_ix ix_list (pv 4) (pe_un un_neg pe_int) (fun _ _ => rfl)) (pa_cons (pv 2) pa_nil)))))) (pss_one (ps_ret pe_bl)) pss_nil)
    (C8.pss_cut (ps_for PassesOwn.never rfl (pi_enum (by rfl) me (pa_cons (pv 1) pa_nil)) (pg_tup rfl (pgs_cons (pg_name (i := 5) nd rfl (.inl rfl)) (pgs_cons (pg_name (i := 6) nd rfl (.inl rfl)) pgs_nil)))
      (pss_one (ps_if (PW.pt (pw_or (pt_cmpR op_ne (pe_call GC (hr.mono (by decide)) (by rfl) gC FC.kp bC .nil pass0 (pa_cons (pe_ix ix_list (pv 3) (pv 5) (fun _ _ => rfl)) (pa_cons (pv 2) pa_nil))) (pe_call GM' (hr.mono (by decide)) (by rfl) gM' FM'.kp bM' .nil pass0 (pa_cons (pe_ix ix_list (pv 4) (pv 5) (fun _ _ => rfl)) (pa_cons (pv 6) pa_nil))) (nomark _)) (pw_or1 (pt_cmpR op_ne (pe_meth0 (pe_ix ix_list (pv 3) (pv 5) (fun _ _ => rfl)) T.cl mN GN (hr.mono (by decide)) bN .nil pass0) (pe_callB (call_min2 rfl) (by rfl) mn (by decide +kernel) (pa_cons pe_int (pa_cons (pv 2) pa_nil))) (nomark _))))) (pss_one (ps_ret pe_bl)) pss_nil)))
    (C8.pss_cut (ps_expr (pe_meth (pe_ix ix_list (pv 3) (pe_un un_neg pe_int) (fun _ _ => rfl)) T.cl mC GC' (hr.mono (by decide)) bC' .nil passL (pa_cons (pe_op op_sub (pe_ix ix_list (pv 1) pe_int (fun _ _ => rfl)) pe_int) pa_nil)))
    (C8.pss_cut (ps_if (PW.pt (pw_or (pt_cmpR op_ne (pe_meth0 (pe_ix ix_list (pv 3) (pe_un un_neg pe_int) (fun _ _ => rfl)) T.cl mS GS (hr.mono (by decide)) bS .nil pass0) (pv 2) (nomark _)) (pw_or1 (pt_cmpR op_ne (pe_call GC (hr.mono (by decide)) (by rfl) gC FC.kp bC .nil pass0 (pa_cons (pe_ix ix_list (pv 3) (pe_un un_neg pe_int) (fun _ _ => rfl)) (pa_cons (pv 2) pa_nil))) (pe_call GM' (hr.mono (by decide)) (by rfl) gM' FM'.kp bM' .nil pass0 (pa_cons (pe_ix ix_list (pv 4) (pe_un un_neg pe_int) (fun _ _ => rfl)) (pa_cons pe_int pa_nil))) (nomark _))))) (pss_one (ps_ret pe_bl)) pss_nil)
    (C8.pss_cut (ps_if (pt_cmpR op_ne (pe_lamcall (T := tabs1 P1) (TT := TBoth K cs) (a := "_law_ask") (k := 3) (P := P1) (Ng := nHeard) (by rfl) gH FH.kp lk hcg bH scHeard rfl (.inl rfl) (heard_both c42 ms mv) TB rfl (List.mem_cons_self) hU (hr.mono (by decide)) (lamS_by (by show lamSB (defScope sHR) _ = true; decide +kernel)) rfl (fun _ _ _ _ _ => rfl)
        (fun A outer s H E f c' hr' => pe_meth0 (pe_ix (r := rIxL K) ix_list (pv 3) (pe_un un_neg pe_int) (fun _ _ => rfl)) T.cl mM GM (hr'.mono (by decide)) bM .nil passLam)) pe_str (nomark _)) (pss_one (ps_ret pe_bl)) pss_nil)
    (pss_one (ps_ret (pe_cmpR (op_eqL0 hr.units0) (pe_lc (own := [("_law_pile", 7)]) (g := gName 7) rfl nd (pi_list (pv 3)) (blkOk_by (N := nHR) (sc := defScope sHR) (by decide +kernel)) (fun _ _ _ _ _ => pg_name (i := 7) nd rfl (Or.inl rfl)) (fun _ _ _ _ _ => pts_one (pt_cmpR op_ne (pe_callB (call_reprK K hg hr.units) (by rfl) mp (by decide +kernel) (pa_cons (pe_meth0 (pv 7) T.cl mT GT (hr.mono (by decide)) bT .nil passL) pa_nil)) (pe_callB (call_reprK K hg hr.units) (by rfl) mp (by decide +kernel) (pa_cons (pe_callB (call_sortedVK K hr.units) (by rfl) T.so (by decide +kernel) (pa_cons (pv 0) pa_nil)) pa_nil)) (nomark _))) (fun _ _ _ _ _ => (pv 7))) (pe_lst pa_nil) (nomark _)))))))))))), ?_⟩
  have zl : sizeLine = 16777216 := rfl
  have lus : us.length = ds.length := DpAll.len dR
  obtain ⟨N, hN⟩ : ∃ N, N = ds.length := ⟨_, rfl⟩
  obtain ⟨hs1, hh1⟩ : ∃ hs1 : List Nat, hs1 = h0 :: hs := ⟨_, rfl⟩
  have g0 : hs1[0]? = some h0 := by rw [hh1]; rfl
  rw [← hh1] at eA hh
  have l1 : hs1.length ≤ 11 := by rw [hh1, List.length_cons]; omega
  have at0 : atI (hs1.map vN) 0 = some (vN h0) := atI_nat (j := 0) (by rw [List.getElem?_map, g0]; rfl)
  obtain ⟨hs2, hh2⟩ : ∃ hs2 : List Nat, hs2 = hs1 ++ [h0, h0] := ⟨_, rfl⟩
  have map2 : hs1.map vN ++ [vN h0, vN h0] = hs2.map vN := by rw [hh2, List.map_append]; rfl
  have l2 : hs2.length = hs1.length + 2 := by rw [hh2, List.length_append]; rfl
  have hh2' : ∀ h ∈ hs2, 1 ≤ h ∧ h ≤ 4000 := fun h z => by
    rw [hh2] at z
    rcases List.mem_append.mp z with z | z
    · exact hh h z
    · simp only [List.mem_cons, List.not_mem_nil, or_false, or_self] at z
      rw [z]
      exact hh h0 (by rw [hh1]; simp)
  refine ⟨_, rfl, R, us, rfl, .inl (SqL.of eR), ?_⟩
  rw [lus, ← hN]
  refine ⟨_, rfl, _, rfl, _, rfl, A, _, 0, _, rfl, rfl, SqL.of eA, at0, _, rfl, A, _, 0, _, rfl, rfl, SqL.of eA, at0, (by show 2 ≤ sizeLine; decide), fun T1 nT1 => ?_⟩
  have s1 := new_same (o := .lst [vN h0, vN h0]) nT1
  have e1 : upd H T1 (.lst [vN h0, vN h0]) T1 = some (.lst [vN h0, vN h0]) := upd_same
  generalize upd H T1 (.lst [vN h0, vN h0]) = H1 at s1 e1 ⊢
  refine ⟨A, T1, _, _, rfl, rfl, s1 _ _ eA, e1, (by rw [List.length_map]; show hs1.length + 2 ≤ sizeLine; omega), fun T2 nT2 => ?_⟩
  rw [map2]
  have s2 := new_same (o := .lst (hs2.map vN)) nT2
  have e2 : upd H1 T2 (.lst (hs2.map vN)) T2 = some (.lst (hs2.map vN)) := upd_same
  have nT2z : ∀ b, Z b → b ≠ T2 := fun b z e => by
    obtain ⟨o, y⟩ := zH b z
    have := s1 _ _ y
    rw [e, nT2] at this
    cases this
  generalize upd H1 T2 (.lst (hs2.map vN)) = H2 at s2 e2 ⊢
  have s02 := s1.trans s2
  have z02 : ∀ b, Z b → H2 b = H b := fun b z => by
    obtain ⟨o, e⟩ := zH b z
    rw [e, s02 _ _ e]
  refine ⟨D, (fun b => Z b ∨ b = T2), R, T2, fm, us, ds, hs2, rfl, sD.trans s02, fun b o e => .inl (dz b o e), (fun b z => by
    rcases z with z | rfl
    · obtain ⟨o, e⟩ := zH b z
      exact ⟨o, s02 _ _ e⟩
    · exact ⟨_, e2⟩), .inl zR, .inr rfl, s02 _ _ eR, dR, hrw, by omega, e2, fun h z => (hh2' h z).1, by omega, fun H3 L ps xs dL mu zz tt eL st => ?_⟩
  rw [← hN] at st
  obtain ⟨n, hn⟩ : ∃ n, n = hs2.length := ⟨_, rfl⟩
  rw [← hn] at mu eL
  have n13 : n ≤ 13 := by omega
  -- how many lots
  have z3 : ∀ b, (Z b ∨ b = T2) → H3 b = H2 b := zz
  have eA3 : H3 A = some (.lst (hs1.map vN)) := by rw [zz A (.inl zA), s02 _ _ eA]
  have eR3 : H3 R = some (.lst us) := by rw [zz R (.inl zR), s02 _ _ eR]
  have nt3 : ∀ b u, ((Z b ∨ b = T2) ∨ b = L) → H3 b ≠ some (.tbl u) := fun b u z y => by
    rcases z with (z | z) | z
    · exact zT b u z (by rw [← z02 b z, ← zz b (.inl z), y])
    · rw [zz b (.inr z), z, e2] at y
      cases y
    · rw [z, eL] at y
      cases y
  have fx3 : Fx K C P1 D (fun b => (Z b ∨ b = T2) ∨ b = L) H3 n ps H3 xs := ⟨mu, fun b _ => rfl, tt _ (hT.ext s02), nt3⟩
  refine ⟨_, rfl, _, rfl, A, _, 0, _, rfl, rfl, SqL.of eA3, at0, _, rfl, A, _, 0, _, rfl, rfl, SqL.of eA3, at0, (by show 2 ≤ sizeLine; decide), fun T3 nT3 => ?_⟩
  have s4 := new_same (o := .lst [vN h0, vN h0]) nT3
  have e4 : upd H3 T3 (.lst [vN h0, vN h0]) T3 = some (.lst [vN h0, vN h0]) := upd_same
  have fx4 := fx3.same s4
  generalize upd H3 T3 (.lst [vN h0, vN h0]) = H4 at s4 e4 fx4 ⊢
  refine ⟨A, T3, _, _, rfl, rfl, s4 _ _ eA3, e4, (by rw [List.length_map]; show hs1.length + 2 ≤ sizeLine; omega), fun T4 nT4 => ?_⟩
  rw [map2]
  have s5 := new_same (o := .lst (hs2.map vN)) nT4
  have e5 : upd H4 T4 (.lst (hs2.map vN)) T4 = some (.lst (hs2.map vN)) := upd_same
  have fx5 := fx4.same s5
  have eL5 := s5 _ _ (s4 _ _ eL)
  have eA5 := s5 _ _ (s4 _ _ eA3)
  have eR5 := s5 _ _ (s4 _ _ eR3)
  have m5 := fx4.mu.newz (o := .lst (hs2.map vN)) nT4
  generalize upd H4 T4 (.lst (hs2.map vN)) = H5 at s5 e5 fx5 eL5 eA5 eR5 m5 ⊢
  obtain ⟨Z5, hZ5⟩ : ∃ Z5 : Addr → Prop, Z5 = fun b => ((Z b ∨ b = T2) ∨ b = L) ∨ b = T4 := ⟨_, rfl⟩
  rw [← hZ5] at m5
  have f5 : Fx K C P1 D Z5 H5 n ps H5 xs := ⟨m5, fun _ _ => rfl, fx5.tb, fun b u z y => by
    rw [hZ5] at z
    rcases z with z | z
    · exact nt3 b u z (by rw [← fx5.zz b z, y])
    · rw [z, e5] at y
      cases y⟩
  have h5 : ∀ b, Z b → Z5 b ∧ H5 b = H b := fun b z => ⟨by rw [hZ5]; exact .inl (.inl (.inl z)), by rw [fx5.zz b (.inl (.inl z)), zz b (.inl z), z02 b z]⟩
  have zL5 : Z5 L := by rw [hZ5]; exact .inl (.inr rfl)
  have zT5 : Z5 T4 := by rw [hZ5]; exact .inr rfl
  clear hZ5 m5 fx5 fx4 fx3 nt3 z3 mu zz tt s4 s5 e4 nT3 nT4 eA3 eR3 eL z02 s02 s1 s2 e1 e2 nT1 nT2 nT2z
  refine ⟨T4, rfl, ⟨_, SqL.of e5⟩, fun B nB => ?_⟩
  obtain ⟨nl, hnl⟩ : ∃ nl : List Int, nl = hs2.map fun h => (((N + h - 1) / h : Nat) : Int) := ⟨_, rfl⟩
  have lnl : nl.length = n := by rw [hnl, List.length_map, hn]
  have tnl : nl.take n = nl := List.take_of_length_le (by omega)
  refine lc_it (walk_list (xs := hs2.map vN)) (fun (i : Nat) (G : Hp) => Fy K C P1 D Z5 H5 n ps B G xs ((nl.take i).map V.int)) (f5.grow nB) (fun i G _ h => SqL.of ((h.zz T4 zT5).trans e5)) ?_ ?_
  · rintro i x G0 G hi fy ⟨rfl, ex⟩
    have hi : i < hs2.length := by rw [List.length_map] at hi; exact hi
    have ex : x = vN hs2[i] := by
      rw [List.getElem?_map, List.getElem?_eq_getElem hi] at ex
      exact (Option.some.inj ex).symm
    subst ex
    have b2 := hh2' _ (List.getElem_mem hi)
    refine ⟨rfl, ?_⟩
    refine ⟨_, rfl, _, rfl, N, hs2[i], rfl, b2.1, b2.2, _, fy.eB, (by rw [List.length_map, List.length_take]; show _ < 16777216; omega), ?_⟩
    have e : nl[i]? = some (((N + hs2[i] - 1) / hs2[i] : Nat) : Int) := by rw [hnl, List.getElem?_map, List.getElem?_eq_getElem hi]; rfl
    rw [take_snoc e, List.map_append]
    exact fy.snoc _
  intro H6 fy
  rw [List.length_map, ← hn, tnl] at fy
  obtain ⟨Z7, hZ7⟩ : ∃ Z7 : Addr → Prop, Z7 = fun b => Z5 b ∨ b = B := ⟨_, rfl⟩
  have f7 : Fx K C P1 D Z7 H6 n ps H6 xs := by
    rw [hZ7]
    exact ⟨fy.mu, fun _ _ => rfl, fy.tb, fun b u z y => by
      rcases z with z | z
      · exact fy.nt b u z (by rw [← fy.zz b z, y])
      · rw [z, fy.eB] at y
        cases y⟩
  have h7 : ∀ b, Z b → Z7 b ∧ H6 b = H b := fun b z => ⟨by rw [hZ7]; exact .inl (h5 b z).1, by rw [fy.zz b (h5 b z).1, (h5 b z).2]⟩
  have zL : Z7 L := by rw [hZ7]; exact .inl zL5
  have zB : Z7 B := by rw [hZ7]; exact .inr rfl
  have eL : H6 L = some (.lst (refsOf ps n)) := by rw [fy.zz L zL5, eL5]
  have eB : H6 B = some (.lst (nl.map V.int)) := fy.eB
  have eA6 : H6 A = some (.lst (hs1.map vN)) := by rw [(h7 A zA).2, eA]
  have eR6 : H6 R = some (.lst us) := by rw [(h7 R zR).2, eR]
  have zA7 := (h7 A zA).1
  have zR7 := (h7 R zR).1
  clear fy hZ7 h5 zL5 zT5 eL5 eA5 eR5 e5 f5 nB
  have nlat : ∀ {i h : Nat}, hs2[i]? = some h → nl[i]? = some (((N + h - 1) / h : Nat) : Int) := fun {i h} e => by
    rw [hnl, List.getElem?_map, e]
    rfl
  have hat : ∀ {i : Nat}, i < n → ∃ h, hs2[i]? = some h ∧ 1 ≤ h ∧ h ≤ 4000 := fun {i} hi => by
    have hi : i < hs2.length := by omega
    exact ⟨hs2[i], List.getElem?_eq_getElem hi, hh2' _ (List.getElem_mem hi)⟩
  have len0 : ∀ {i h : Nat} {x : Pi}, Pd fm h x (sizesOf N h) ds → 1 ≤ h → x.lots.length = (N + h - 1) / h := fun {i h x} p h1 => by rw [p.lots, sizes_lots h1]
  -- lots and steps
  refine ⟨fun σ' G => σ' = [some (.ref R), some (.ref A), some (.int (N : Int)), some (.ref L), some (.ref B), none, none, none] ∧ Fx K C P1 D Z7 H6 n ps G xs, ?_, ?_⟩
  · refine ⟨_, rfl, L, rfl, ⟨_, SqL.of eL⟩, fun B1 nB1 => ?_⟩
    refine lc_it (walk_list (xs := refsOf ps n)) (fun (i : Nat) (G : Hp) => Fy K C P1 D Z7 H6 n ps B1 G xs ((nl.take i).map V.int)) (f7.grow nB1) (fun i G _ h => SqL.of ((h.zz L zL).trans eL)) ?_ ?_
    · rintro i x G0 G hi fy ⟨rfl, ex⟩
      have hi : i < n := by rw [refs_len] at hi; exact hi
      rw [refs_at hi] at ex
      obtain rfl := (Option.some.inj ex).symm
      obtain ⟨h, eh, b1, b2⟩ := hat hi
      obtain ⟨Hf, dx, fs, Rf, ep, nf, _⟩ := fy.fx.act hi
      refine ⟨rfl, ?_⟩
      refine ⟨_, rfl, ps i, dx, fs, rfl, ep, nf _ (by decide +kernel), D, Hf, ps i, xs i, rfl, Rf, _, fy.eB, (by rw [List.length_map, List.length_take]; show _ < 16777216; omega), ?_⟩
      rw [len0 (i := i) (st i h eh).1 b1, take_snoc (nlat eh), List.map_append]
      exact fy.snoc _
    intro G7 fy
    rw [refs_len, tnl] at fy
    have f8 := fy.fx
    refine ⟨_, rfl, .list (nl.map .int), .list (nl.map .int), .lst (SqL.of fy.eB) (dp_ints nl), .lst (SqL.of ((fy.zz B zB).trans eB)) (dp_ints nl), ints_shaped nl, ints_shaped nl, ?_⟩
    rw [ints_eqv]
    refine ⟨_, rfl, iteF ?_⟩
    clear fy
    refine ⟨_, rfl, L, rfl, ⟨_, SqL.of ((f8.zz L zL).trans eL)⟩, fun B2 nB2 => ?_⟩
    obtain ⟨nsS, hns⟩ : ∃ nsS : List Int, nsS = List.replicate n (N : Int) := ⟨_, rfl⟩
    have tns : nsS.take n = nsS := List.take_of_length_le (by rw [hns, List.length_replicate]; omega)
    refine lc_it (walk_list (xs := refsOf ps n)) (fun (i : Nat) (G : Hp) => Fy K C P1 D Z7 H6 n ps B2 G xs ((nsS.take i).map V.int)) (f8.grow nB2) (fun i G _ h => SqL.of ((h.zz L zL).trans eL)) ?_ ?_
    · rintro i x G0 G hi fy ⟨rfl, ex⟩
      have hi : i < n := by rw [refs_len] at hi; exact hi
      rw [refs_at hi] at ex
      obtain rfl := (Option.some.inj ex).symm
      obtain ⟨h, eh, b1, b2⟩ := hat hi
      obtain ⟨Hf, dx, fs, Rf, ep, nf, _⟩ := fy.fx.act hi
      refine ⟨rfl, ?_⟩
      refine ⟨_, rfl, ps i, dx, fs, rfl, ep, nf _ (by decide +kernel), D, Hf, ps i, xs i, rfl, Rf, _, fy.eB, (by rw [List.length_map, List.length_take]; show _ < 16777216; omega), ?_⟩
      have e : nsS[i]? = some (N : Int) := by rw [hns, List.getElem?_replicate, if_pos hi]
      rw [(st i h eh).2, take_snoc e, List.map_append]
      exact fy.snoc _
    intro G8 fy
    rw [refs_len, tns] at fy
    have f9 := fy.fx
    refine ⟨_, rfl, (by show 1 ≤ sizeLine; decide), fun a1 na1 => ?_⟩
    have j1 := new_same (o := .lst [V.int (N : Int)]) na1
    have ea1 : upd G8 a1 (.lst [V.int (N : Int)]) a1 = some (.lst [V.int (N : Int)]) := upd_same
    have fy1 := fy.same j1
    generalize upd G8 a1 (.lst [V.int (N : Int)]) = G9 at j1 ea1 fy1 ⊢
    refine ⟨_, rfl, L, _, rfl, .inl (SqL.of ((fy1.zz L zL).trans eL)), ?_⟩
    rw [refs_len]
    refine ⟨a1, _, _, rfl, rfl, ea1, by omega, by omega, (by show 1 * ((n : Int)).toNat ≤ sizeLine; omega), fun a2 na2 => ?_⟩
    have re : (List.replicate ((n : Int)).toNat [V.int (N : Int)]).flatten = nsS.map V.int := by
      rw [hns, List.map_replicate, Int.toNat_natCast]
      generalize n = k
      induction k with
      | zero => rfl
      | succ k ih => rw [List.replicate_succ, List.replicate_succ, List.flatten_cons, ih]; rfl
    rw [re]
    have j2 := new_same (o := .lst (nsS.map V.int)) na2
    have ea2 : upd G9 a2 (.lst (nsS.map V.int)) a2 = some (.lst (nsS.map V.int)) := upd_same
    have fy2 := fy1.same j2
    generalize upd G9 a2 (.lst (nsS.map V.int)) = G10 at j2 ea2 fy2 ⊢
    refine ⟨.list (nsS.map .int), .list (nsS.map .int), .lst (SqL.of fy2.eB) (dp_ints nsS), .lst (SqL.of ea2) (dp_ints nsS), ints_shaped nsS, ints_shaped nsS, ?_⟩
    rw [ints_eqv]
    exact ⟨_, rfl, iteF ⟨rfl, fy2.fx⟩⟩
  rintro σ7 G7 ⟨rfl, f8⟩
  subst hN
  have n2 : n = hs1.length + 2 := by omega
  have a2 : hs2[n - 2]? = some h0 := by
    rw [hh2, List.getElem?_append_right (by omega)]
    have : n - 2 - hs1.length = 0 := by omega
    rw [this]
    rfl
  have a1 : hs2[n - 1]? = some h0 := by
    rw [hh2, List.getElem?_append_right (by omega)]
    have : n - 1 - hs1.length = 1 := by omega
    rw [this]
    rfl
  have b0 := hh2' h0 (List.mem_of_getElem? a2)
  have refs2 : atI (refsOf ps n) (-2) = some (.ref (ps (n - 2))) := at_two (by rw [refs_len]; exact refs_at (by omega)) (by rw [refs_len]; omega)
  have refs1 : atI (refsOf ps n) (-1) = some (.ref (ps (n - 1))) := at_one (by rw [refs_len]; exact refs_at (by omega)) (by rw [refs_len]; omega)
  have len2 : (sizesOf ds.length h0).length = (ds.length + h0 - 1) / h0 := sizes_lots b0.1
  have nl2 : atI (nl.map V.int) (-2) = some (.int (((sizesOf ds.length h0).length : Nat) : Int)) := at_two (by rw [List.length_map, lnl, List.getElem?_map, nlat a2, len2]; rfl) (by rw [List.length_map]; omega)
  have nl1 : atI (nl.map V.int) (-1) = some (.int (((sizesOf ds.length h0).length : Nat) : Int)) := at_one (by rw [List.length_map, lnl, List.getElem?_map, nlat a1, len2]; rfl) (by rw [List.length_map]; omega)
  -- lent
  refine ⟨fun σ' G => σ' = [some (.ref R), some (.ref A), some (.int (ds.length : Int)), some (.ref L), some (.ref B), none, none, none] ∧ ∃ xs1, Fx K C P1 D Z7 H6 n ps G xs1 ∧ Done1 fm (xs1 (n - 2)) ds ∧ ∀ j, j ≠ n - 2 → xs1 j = xs j, ?_, ?_⟩
  · obtain ⟨Hf, dx, fs, Rf, ep, nf, act⟩ := f8.act (i := n - 2) (by omega)
    refine ⟨_, rfl, _, rfl, L, _, -2, _, rfl, rfl, SqL.of ((f8.zz L zL).trans eL), refs2, _, rfl, _, rfl, B, _, -2, _, rfl, rfl, SqL.of ((f8.zz B zB).trans eB), nl2, _, rfl, D, Hf, ps (n - 2), xs (n - 2), fm, h0, sizesOf ds.length h0, ds, rfl, Rf, (st _ _ a2).1, (st _ _ a2).2, fun H9 x9 R9 d9 => ⟨_, rfl, iteF ⟨rfl, _, act H9 x9 R9, ?_, fun j hj => ?_⟩⟩⟩
    · show Done1 fm (if n - 2 = n - 2 then x9 else _) ds
      rw [if_pos rfl]
      exact d9
    · show (if j = n - 2 then x9 else _) = _
      rw [if_neg hj]
  rintro σ8 G8 ⟨rfl, xs1, f9, dn2, same1⟩
  clear f8 f7
  have atL : ∀ {G : Hp} {xs : Nat → Pi}, Fx K C P1 D Z7 H6 n ps G xs → SqL K G L (refsOf ps n) := fun {G xs} f => SqL.of ((f.zz L zL).trans eL)
  have atB : ∀ {G : Hp} {xs : Nat → Pi}, Fx K C P1 D Z7 H6 n ps G xs → SqL K G B (nl.map V.int) := fun {G xs} f => SqL.of ((f.zz B zB).trans eB)
  have atA : ∀ {G : Hp} {xs : Nat → Pi}, Fx K C P1 D Z7 H6 n ps G xs → SqL K G A (hs1.map vN) := fun {G xs} f => SqL.of ((f.zz A zA7).trans eA6)
  have mn0 : (if ((ds.length : Nat) : Int) < 1 then ((ds.length : Nat) : Int) else 1) = ((min 1 ds.length : Nat) : Int) := by split <;> omega
  have all_ : ∀ {h : Nat} {k : Nat}, 2 ≤ k → 1 ≤ h → (runM k (sizesOf ds.length h, 0, 0) ds.length).2.1 = needM k ((ds.length + h - 1) / h) ∧ (runM k (sizesOf ds.length h, 0, 0) ds.length).1.length = min 1 ds.length := fun {h k} hk h1 => by
    obtain ⟨a, b⟩ := run_all (k := k) (n := ds.length) hk (sizes_lots (n := ds.length) h1) (lots_le h1)
    exact ⟨a, b.trans (lots_one h1)⟩
  -- one behind another
  refine ⟨fun σ' G => (∃ v5 v6, σ' = [some (.ref R), some (.ref A), some (.int (ds.length : Int)), some (.ref L), some (.ref B), v5, v6, none]) ∧ ∃ xs2, Fx K C P1 D Z7 H6 n ps G xs2 ∧ (∀ j, j < n - 1 → Done1 fm (xs2 j) ds) ∧ xs2 (n - 1) = xs (n - 1), ?_, ?_⟩
  · refine ⟨_, rfl, A, hs1.map vN, rfl, atA f9, ?_⟩
    refine for_it (walk_enum (xs := hs1.map vN)) (fun k σ G => (∃ v5 v6, σ = [some (.ref R), some (.ref A), some (.int (ds.length : Int)), some (.ref L), some (.ref B), v5, v6, none]) ∧ ∃ xs2, Fx K C P1 D Z7 H6 n ps G xs2 ∧ Done1 fm (xs2 (n - 2)) ds ∧ (∀ j, j < k → Done1 fm (xs2 j) ds) ∧ ∀ j, k ≤ j → j ≠ n - 2 → xs2 j = xs j)
      ⟨⟨none, none, rfl⟩, xs1, f9, dn2, fun j hj => absurd hj (by omega), fun j _ hj => same1 j hj⟩ (fun k σ G _ ⟨_, xs2, f, _⟩ => atA f) ?_ ?_
    · rintro k v σ G G' hk ⟨⟨v5, v6, rfl⟩, xs2, f, dn, bef, aft⟩ Y
      have hk : k < hs1.length := by rw [List.length_map] at hk; exact hk
      obtain ⟨T0, x1, x2, rfl, nT0, rfl, e1, e2⟩ := Y
      cases e1
      have e2 : x2 = vN hs1[k] := by
        have e2 : (hs1.map vN)[k]? = some x2 := e2
        rw [List.getElem?_map, List.getElem?_eq_getElem hk] at e2
        exact (Option.some.inj e2).symm
      subst e2
      obtain ⟨h, hh3⟩ : ∃ h, h = hs1[k] := ⟨_, rfl⟩
      rw [← hh3]
      have ek : hs2[k]? = some h := by rw [hh2, List.getElem?_append_left hk, List.getElem?_eq_getElem hk, hh3]
      have bh := hh2' h (List.mem_of_getElem? ek)
      refine ⟨T0, _, rfl, SqT.of upd_same, rfl, _, _, rfl, _, _, rfl, rfl, ?_⟩
      have fT := f.same (new_same (o := .tup [.int ((k : Nat) : Int), vN h]) nT0)
      generalize upd G T0 (.tup [.int ((k : Nat) : Int), vN h]) = G2 at fT ⊢
      have kn : k < n := by omega
      have xk : xs2 k = xs k := aft k (Nat.le_refl _) (by omega)
      have pdk : Pd fm h (xs2 k) (sizesOf ds.length h) ds := by rw [xk]; exact (st k h ek).1
      obtain ⟨Hf, dx, fs, Rf, ep, nf, act⟩ := fT.act kn
      refine ⟨_, rfl, _, rfl, L, _, (k : Int), _, rfl, rfl, atL fT, atI_nat (refs_at kn), _, rfl, D, Hf, ps k, xs2 k, fm, h, ds.length, sizesOf ds.length h, ds, rfl, Rf, pdk, by omega, fun H9 x9 R9 pd9 es9 => ?_⟩
      obtain ⟨c1, c2⟩ := all_ (h := h) (k := max 2 h) (Nat.le_max_left 2 h) bh.1
      rw [c1]
      have f9' := act H9 x9 R9
      refine ⟨_, rfl, _, rfl, B, _, (k : Int), _, rfl, rfl, atB f9', atI_nat (j := k) (by rw [List.getElem?_map, nlat ek]; rfl), _, rfl, _, h, rfl, bh.2, rfl, _, rfl, ite2 (fun z => absurd z (by simp)) (fun _ => ?_)⟩
      obtain ⟨Hf9, dx9, fs9, Rf9, ep9, nf9, _⟩ := f9'.act kn
      have l9 : x9.lots.length = min 1 ds.length := pd9.lots.trans c2
      have Rf9 : PileAt K C D Hf9 H9 (ps k) (if k = k then x9 else xs2 k) := Rf9
      rw [if_pos rfl] at Rf9
      refine ⟨_, rfl, _, rfl, L, _, (k : Int), _, rfl, rfl, atL f9', atI_nat (refs_at kn), ps k, dx9, fs9, rfl, ep9, nf9 _ (by decide +kernel), D, Hf9, ps k, x9, rfl, Rf9, _, rfl, _, _, rfl, rfl, _, rfl, ite2 (fun z => absurd z ?_) (fun _ => ?_)⟩
      · rw [l9, mn0]
        simp
      have d9 : Done1 fm x9 ds := ⟨_, _, pd9, by rw [c2]; omega⟩
      refine ⟨⟨_, _, rfl⟩, _, f9', ?_, fun j hj => ?_, fun j hj hj2 => ?_⟩
      · show Done1 fm (if n - 2 = k then x9 else xs2 (n - 2)) ds
        split
        · exact d9
        · exact dn
      · show Done1 fm (if j = k then x9 else xs2 j) ds
        split
        · exact d9
        · exact bef j (by omega)
      · show (if j = k then x9 else xs2 j) = xs j
        rw [if_neg (by omega)]
        exact aft j (by omega) hj2
    · rintro σ G ⟨⟨v5, v6, rfl⟩, xs2, f, dn, bef, aft⟩
      rw [List.length_map] at bef aft
      refine ⟨⟨_, _, rfl⟩, xs2, f, fun j hj => ?_, aft (n - 1) (by omega) (by omega)⟩
      by_cases e : j = n - 2
      · rw [e]
        exact dn
      · exact bef j (by omega)
  rintro σ9 G9 ⟨⟨w5, w6, rfl⟩, xs2, f10, dn, lastx⟩
  clear f9 dn2 same1 xs1
  have pdl : Pd fm h0 (xs2 (n - 1)) (sizesOf ds.length h0) ds := by rw [lastx]; exact (st _ _ a1).1
  have esl : (xs2 (n - 1)).s = (ds.length : Int) := by rw [lastx]; exact (st _ _ a1).2
  -- called back
  refine ⟨fun σ' G => σ' = [some (.ref R), some (.ref A), some (.int (ds.length : Int)), some (.ref L), some (.ref B), w5, w6, none] ∧ ∃ xs3, Fx K C P1 D Z7 H6 n ps G xs3 ∧ (∀ j, j < n - 1 → Done1 fm (xs3 j) ds) ∧ Pd fm 1 (xs3 (n - 1)) (sizesOf ds.length h0) ds ∧ (xs3 (n - 1)).s = (ds.length : Int), ?_, ?_⟩
  · obtain ⟨Hf, dx, fs, Rf, ep, nf, act⟩ := f10.act (i := n - 1) (by omega)
    have xm := pdl.po.m
    have xr := pdl.r0
    refine ⟨_, rfl, _, rfl, L, _, -1, _, rfl, rfl, atL f10, refs1, ps (n - 1), dx, fs, rfl, ep, nf _ (by decide +kernel), _, rfl, A, _, 0, _, rfl, rfl, atA f10, at0, _, _, rfl, rfl, D, Hf, ps (n - 1), xs2 (n - 1), (h0 : Int) - 1, rfl, Rf, (fun z => by omega), fun _ => ⟨rows_ok (f := fm) (fun d hd => by rw [List.eq_nil_of_length_eq_zero xr] at hd; cases hd) (by omega), (by rw [pdl.lots]; have := pdl.zl; omega), fun H9 R9 => ?_⟩⟩
    have ecb : (xs2 (n - 1)).cb ((h0 : Int) - 1) = { xs2 (n - 1) with m := (xs2 (n - 1)).m - ((h0 : Int) - 1) } := by
      unfold Pi.cb
      rw [if_neg (by omega)]
    rw [ecb] at R9
    refine ⟨rfl, _, act H9 _ R9, fun j hj => ?_, ?_, ?_⟩
    · show Done1 fm (if j = n - 1 then _ else xs2 j) ds
      rw [if_neg (by omega)]
      exact dn j hj
    · show Pd fm 1 (if n - 1 = n - 1 then _ else _) _ ds
      rw [if_pos rfl]
      refine ⟨⟨?_, pdl.po.e, pdl.po.len, pdl.po.st, pdl.po.pm⟩, pdl.rw_, pdl.len, pdl.zl, pdl.r0⟩
      show (xs2 (n - 1)).m - ((h0 : Int) - 1) = ((1 : Nat) : Int)
      omega
    · show Pi.s (if n - 1 = n - 1 then _ else _) = _
      rw [if_pos rfl]
      exact esl
  rintro σ10 G10 ⟨rfl, xs3, f11, dn3, pd3, es3⟩
  clear f10 dn lastx pdl esl xs2
  refine ⟨fun σ' G => σ' = [some (.ref R), some (.ref A), some (.int (ds.length : Int)), some (.ref L), some (.ref B), w5, w6, none] ∧ ∃ xs4, Fx K C P1 D Z7 H6 n ps G xs4 ∧ ∀ j, j < n → Done1 fm (xs4 j) ds, ?_, ?_⟩
  · obtain ⟨Hf, dx, fs, Rf, ep, nf, act⟩ := f11.act (i := n - 1) (by omega)
    refine ⟨_, rfl, _, rfl, L, _, -1, _, rfl, rfl, atL f11, refs1, ps (n - 1), dx, fs, rfl, ep, nf _ (by decide +kernel), D, Hf, ps (n - 1), xs3 (n - 1), rfl, Rf, _, rfl, rfl, _, rfl, ite2 (fun z => absurd z (by rw [es3]; simp)) (fun _ => ?_)⟩
    refine ⟨_, rfl, _, rfl, L, _, -1, _, rfl, rfl, atL f11, refs1, _, rfl, D, Hf, ps (n - 1), xs3 (n - 1), fm, 1, ds.length, sizesOf ds.length h0, ds, rfl, Rf, pd3, by omega, fun H9 x9 R9 pd9 es9 => ?_⟩
    obtain ⟨c1, c2⟩ := all_ (h := h0) (k := max 2 1) (by decide) b0.1
    rw [c1]
    have f12 := act H9 x9 R9
    refine ⟨_, rfl, _, rfl, B, _, -1, _, rfl, rfl, atB f12, nl1, _, 1, rfl, by decide, rfl, _, rfl, ite2 (fun z => absurd z (by rw [len2]; simp)) (fun _ => ?_)⟩
    refine ⟨rfl, _, f12, fun j hj => ?_⟩
    show Done1 fm (if j = n - 1 then x9 else xs3 j) ds
    split
    · exact ⟨_, _, pd9, by rw [c2]; omega⟩
    · exact dn3 j (by omega)
  rintro σ11 G11 ⟨rfl, xs4, f12, dn4⟩
  clear f11 dn3 pd3 es3 xs3
  -- no more mergings
  refine ⟨fun σ' G => σ' = [some (.ref R), some (.ref A), some (.int (ds.length : Int)), some (.ref L), some (.ref B), w5, w6, none] ∧ Fx K C P1 D Z7 H6 n ps G xs4, ?_, ?_⟩
  · refine ⟨f12.tb, fun H8 e8 t8 => ?_⟩
    have f13 := f12.ext e8 t8
    obtain ⟨Hf, dx, fs, Rf, ep, nf, act⟩ := f13.act (i := n - 1) (by omega)
    obtain ⟨sp, zs, pd, zl1⟩ := dn4 (n - 1) (by omega)
    refine .inl ⟨0, by decide, fun Qn => ?_⟩
    refine ⟨_, rfl, _, rfl, L, _, -1, _, rfl, rfl, atL f13, refs1, ps (n - 1), dx, fs, rfl, ep, nf _ (by decide +kernel), D, Hf, ps (n - 1), xs4 (n - 1), rfl, Rf, (fun z => absurd (pd.po.e.symm.trans z) (by decide)), fun _ => ⟨(fun _ => ⟨rfl, rfl, fun H9 s9 => ?_⟩), fun z => absurd z (by rw [pd.lots]; omega)⟩⟩
    exact ⟨rfl, _, rfl, ite2 (fun z => absurd z (by simp [told3])) (fun _ => ⟨rfl, f13.same s9⟩)⟩
  rintro σ12 G12 ⟨rfl, f13⟩
  clear f12
  -- all told alike
  have okd : RowsOk ds := rows_ok hrw (by omega)
  have rowT : ∀ d ∈ told ds, IsRow fm d := fun d hd => hrw d ((told_perm ds).subset hd)
  obtain ⟨dd, hdd, dd1, dd2, dd3⟩ : ∃ dd : PyData, dd = .list (told ds) ∧ dd.showable = true ∧ dd.shown.length ≤ sizeLine ∧ dd.depth ≤ 60 := by
    refine ⟨_, rfl, (Sms.lst (Sms.all (w := 660) (n := 2) fun d hd => row_sm (rowT d hd))).shown ?_ (by decide)⟩
    rw [told_len]
    omega
  refine ⟨_, rfl, L, rfl, ⟨_, atL f13⟩, fun B3 nB3 => ?_⟩
  refine lc_it (walk_list (xs := refsOf ps n)) (fun (i : Nat) (G : Hp) => Fy K C P1 D Z7 H6 n ps B3 G xs4 []) (f13.grow nB3) (fun i G _ h => SqL.of ((h.zz L zL).trans eL)) ?_ ?_
  · rintro i x G0 G hi fy ⟨rfl, ex⟩
    have hi : i < n := by rw [refs_len] at hi; exact hi
    rw [refs_at hi] at ex
    obtain rfl := (Option.some.inj ex).symm
    obtain ⟨sp, zs, pd, zl1⟩ := dn4 i hi
    obtain ⟨Hf, dx, fs, Rf, ep, nf, _⟩ := fy.fx.act hi
    have ft : (xs4 i).lots.flatten = told ds := post_told pd.po zl1 (List.Perm.refl _) okd.al
    refine ⟨rfl, ?_⟩
    refine ⟨_, rfl, ps i, dx, fs, rfl, ep, nf _ (by decide +kernel), D, Hf, ps i, xs4 i, rfl, Rf, (fun z => by
      rcases z with z | z
      · exact absurd (pd.po.e.symm.trans z) (by decide)
      · rw [pd.lots] at z
        omega), fun _ _ => ⟨(by rw [ft, told_len]; omega), fun q0 us0 H' s' nq e' d' => ?_⟩⟩
    rw [ft] at d'
    have fy1 := fy.same s'
    refine ⟨_, dd, rfl, by rw [hdd]; exact .lst (SqL.of e') (DpAll.same fy1.mu.sD _ d'), dd1, dd2, dd3, ?_⟩
    refine ⟨_, rfl, R, us, ds, (fun _ _ => True), rfl, SqL.of ((fy1.zz R zR7).trans eR6), DpAll.same fy1.mu.sD _ dR, (each_dp dR).mono fun _ _ _ => trivial, okd.al, okd.tu, okd.len, okd.dep, fun us2 q2 nq2 d2 _ => ?_⟩
    have jq := new_same (o := .lst us2) nq2
    have fy2 := fy1.same jq
    have eq2 : upd H' q2 (.lst us2) q2 = some (.lst us2) := upd_same
    generalize upd H' q2 (.lst us2) = H9 at jq fy2 eq2 ⊢
    refine ⟨_, dd, rfl, by rw [hdd]; exact .lst (SqL.of eq2) (DpAll.same jq _ d2), dd1, dd2, dd3, rfl, _, rfl, ?_⟩
    refine iteF' (by simp) fy2
  intro G13 fy
  refine ⟨Nat.zero_le _, fun b nb => ?_⟩
  have fy1 := fy.same (new_same (o := .lst []) nb)
  refine ⟨B3, b, [], rfl, rfl, SqL.of fy1.eB, SqL.of upd_same, ?_⟩
  have fin := q _ (fun b' z => ((fy1.zz b' (h7 b' z).1).trans (h7 b' z).2))
  simpa using fin
end
end K42
end

section
set_option Elab.async false
set_option linter.all false
set_option maxRecDepth 100000
set_option maxHeartbeats 4000000
namespace K42
open PySem PySem.Spec PyProof.Rows L2 Gd LamX Szg
abbrev sLaw : Stmt := topS 22
abbrev nLaw : List Str := ["_law_script", "_law_pen_here", "_law_form", "_law_many", "_law_rows", "_law_hands", "_law_far_rows", "_law_great", "_law_whole", "_law_k"]
theorem scLaw : FnScope nLaw ["_law_script"] (defScope sLaw) := ⟨rfl, rfl, rfl, by decide +kernel, rfl, by decide +kernel, by decide +kernel⟩
def spLaw (K : PySem.W.Frag) (cs : List (Addr × Addr)) : Sp := fun vs H Q _ => ∃ (a : Addr) (ns : List Int), vs = [.ref a] ∧ SqL K H a (ns.map V.int) ∧ ns.length ≤ 63 ∧ (∀ p ∈ cs, H p.2 = some (.tbl #[])) ∧ ∀ H', Q (.bl true) H'
theorem noT_mono {X X' : Hp} (s : Same X X') : Same (noT X) (noT X') := fun b o e => by
  have e1 := noT_of e
  refine noT_at (s _ _ e1) fun ps z => ?_
  rw [z] at e
  exact noT_no X b ps e
theorem noT_step {X X' : Hp} (k : ∀ b, (∃ o, noT X b = some o) → X' b = X b) : Same (noT X) (noT X') := fun b o e => by
  have e1 := noT_of e
  refine noT_at (by rw [k b ⟨o, e⟩]; exact e1) fun ps z => ?_
  rw [z] at e
  exact noT_no X b ps e
theorem noT_zT {X : Hp} : ∀ b ps, (∃ o, noT X b = some o) → X b ≠ some (.tbl ps) := fun b ps ⟨o, e⟩ z => by
  have e1 := noT_of e
  rw [z] at e1
  rw [← Option.some.inj e1] at e
  exact noT_no X b ps e
theorem noT_tups {K : PySem.W.Frag} {X : Hp} : Tups K X (noT X) := fun b xs z => by
  rcases z with (z | ⟨o, z⟩) | z
  · exact .inl (.inl (noT_at z (fun _ y => nomatch y)))
  · exact .inl (.inr ⟨o, noT_at z (fun _ y => nomatch y)⟩)
  · exact .inr z
theorem row_only {f : Int} {d : PyData} (h : IsRow f d) : tupOnly d = true := by
  unfold IsRow at h
  split at h
  · obtain ⟨a, n, b, _, _, _, rfl⟩ := h
    rfl
  split at h
  · obtain ⟨n, _, rfl⟩ := h
    rfl
  split at h
  · obtain ⟨s, n, _, _, rfl⟩ := h
    rfl
  · obtain ⟨ns, l, _, rfl⟩ := h
    have all : ∀ ns : List Int, tupOnlyAll (ns.map .int) = true := fun ns => by
      induction ns with
      | nil => rfl
      | cons n r ih =>
        show (tupOnly (.int n) && tupOnlyAll (r.map .int)) = true
        rw [ih]
        rfl
    simp only [tupOnly, Bool.and_eq_true, decide_eq_true_eq]
    exact ⟨by rw [List.length_map]; omega, all ns⟩
theorem rows_only {f : Int} : ∀ {ds : List PyData}, (∀ d ∈ ds, IsRow f d) → tupOnlyAll ds = true
  | [], _ => rfl
  | d :: ds, h => by
    simp only [tupOnlyAll, Bool.and_eq_true]
    exact ⟨row_only (h d (by simp)), rows_only fun x hx => h x (by simp [hx])⟩
theorem tabs_ex1 {T : List (Addr × Str)} {H H' : Hp} {l c : Addr} {S : Int} (t : Tabs T H) (p : Pen H l c S) (x : Ex1 l H H') : Tabs T H' := by
  obtain ⟨ns, u, ov, el, _⟩ := p
  exact tabs_by t (fun a o z _ n2 => x a o (fun e => by rw [e, el] at z; exact n2 _ (Option.some.inj z).symm) z) (Same.refl _)
theorem noT_up {A X : Hp} (s : Same (noT A) X) : Same (noT A) (noT X) := fun b o e => noT_at (s _ _ e) fun ps z => by
  rw [z] at e
  exact noT_no A b ps e
theorem zsame {A X X' : Hp} (s : Same (noT A) X) (z : ∀ b, (∃ o, noT X b = some o) → X' b = X b) : Same (noT A) X' := fun b o e => by
  have e1 := noT_up s _ _ e
  rw [z b ⟨o, e1⟩]
  exact s _ _ e
theorem sm_int2 {i : Int} (h : i.natAbs ≤ 2000) : Sm 16 0 (.int i) := by
  have big : (2000 : Nat) ≤ 10 ^ 62 := by decide
  have g := sm_int (Nat.le_trans h big)
  have hl : i.natAbs.log2 < 11 := by
    by_cases z : i.natAbs = 0
    · rw [z]; decide
    · exact (Nat.log2_lt z).mpr (by omega)
  refine ⟨g.lf, g.sh, ?_, Nat.le_refl _⟩
  simp only [PyData.weight]
  split <;> omega
/-- the far rows -/
def farD (j : Nat) : PyData := .tuple [.int ((((j : Nat) : Int) * 7919).fmod 1500), .int ((j : Nat) : Int)]
theorem far_row {j : Nat} (h : j < 1500) : IsRow 1 (farD j) ∧ Sm 36 1 (farD j) := by
  obtain ⟨a, b⟩ := fmod_in (((j : Nat) : Int) * 7919) (b := 1500) (by decide)
  generalize hx : (((j : Nat) : Int) * 7919).fmod 1500 = x at a b
  have big : (2000 : Nat) ≤ 10 ^ 62 := by decide
  unfold farD
  rw [hx]
  refine ⟨isRow_ints (ns := [x, ((j : Nat) : Int)]) (by decide) (by decide) (by decide) (by show 2 ≤ 3; decide) fun n hn => ?_, ?_⟩
  · simp only [List.mem_cons, List.not_mem_nil, or_false] at hn
    rcases hn with rfl | rfl
    · exact Nat.le_trans (by omega) big
    · exact Nat.le_trans (by omega) big
  · exact (Sms.tup (Sms.cons (sm_int2 (by omega)) (Sms.cons (sm_int2 (by omega)) .nil))).mono (by decide) (by decide)
theorem show_by {w : Nat} {ds : List PyData} (h : ∀ d ∈ ds, Sm w 2 d) (l : (w + 1) * ds.length + 1 ≤ 160000) : ∃ dd : PyData, dd = .list ds ∧ dd.showable = true ∧ dd.shown.length ≤ sizeLine ∧ dd.depth ≤ 60 :=
  ⟨_, rfl, (Sms.lst (Sms.all (w := w) (n := 2) h)).shown l (by decide)⟩
theorem iteT' {b : Bool} {p q : Prop} (h : b = true) (y : p) : if b = true then p else q := by
  rw [if_pos h]
  exact y
theorem lots_one' {N : Nat} (h : 1 ≤ max 1 N) : (N + max 1 N - 1) / max 1 N = min 1 N := by
  by_cases z : N = 0
  · subst z
    rfl
  · have e : max 1 N = N := by omega
    rw [e]
    have : N + N - 1 = (N - 1) + N := by omega
    rw [this, Nat.add_div_right _ (by omega), Nat.div_eq_of_lt (by omega)]
    omega
section
variable {P : Program} {w : World} {K : PySem.W.Frag} {mg : Str → Option Value} {base : Heap} {f fp fd' fw fr fe fc c1 P1 C : Addr} {fdL dp dd dw dr de dc : FuncData} {cs : Nat → Addr}
theorem ok_law (F : Fun K "law" "law" sLaw f fdL) (mr : mg "range" = none) (mp : mg "repr" = none) (mn : mg "min" = none) (T : Txt K mg C cs)
    (FP : Fun K "_law_pen" "_law_pen" sPen fp dp) (GP : FnOk P w K mg base CX0 1 fp dp ["_law_script"] (spPen K)) (gP : mg "_law_pen" = some (.ref fp)) (bP : Binds K dp ["_law_script"] [])
    (FD : Fun K "_law_draw" "_law_draw" sDraw fd' dd) (GD : FnOk P w K mg base CX0 1 fd' dd ["_law_pen_here", "_law_many"] spDraw) (gD : mg "_law_draw" = some (.ref fd')) (bD : Binds K dd ["_law_pen_here", "_law_many"] [])
    (FW : Fun K "_law_row" "_law_row" sRow fw dw) (GW : FnOk P w K mg base CX0 2 fw dw ["_law_pen_here", "_law_form"] (spRow K)) (gW : mg "_law_row" = some (.ref fw)) (bW : Binds K dw ["_law_pen_here", "_law_form"] [])
    (FR : Fun K "_law_hands_right" "_law_hands_right" sHR fr dr) (GR : FnG P w K mg base CX0 6 fr dr ["_law_rows", "_law_hands"] (spHR K C P1)) (gR : mg "_law_hands_right" = some (.ref fr)) (bR : Binds K dr ["_law_rows", "_law_hands"] [])
    (FE : Fun K "_law_ended" "_law_ended" sEn fe de) (GE : FnOk P w K mg base CX0 4 fe de ["_law_rows", "_law_hands"] (spEn K C)) (gE : mg "_law_ended" = some (.ref fe)) (bE : Binds K de ["_law_rows", "_law_hands"] [])
    (FC : Fun K "_law_count" "_law_count" sCt fc dc) (GC : FnOk P w K mg base CX0 3 fc dc ["_law_pile", "_law_most"] (spCt K C)) (gC : mg "_law_count" = some (.ref fc)) (bC : Binds K dc ["_law_pile", "_law_most"] [])
    (MN : Mt P w K mg base C "lots" ["self"] CX0 1 (spLots K C)) (MS : Mt P w K mg base C "steps" ["self"] CX0 1 (spSteps K C)) (MT : Mt P w K mg base C "told" ["self"] (L2.CX P w) 1 (spTold K C cs)) :
    FnG P w K mg base CX0 7 f fdL ["_law_script"] (spLaw K [(c1, P1)]) := by
  refine okG F scLaw (fun vs H Q E h => ?_) (fun cdv A' outer s H vs Q E hg hr h => ?_)
  · obtain ⟨a, ns, rfl, _⟩ := h
    rfl
  obtain ⟨a, ns, rfl, ha, hn, hT0, q⟩ := h
  have nd := scLaw.nd
  obtain ⟨fN, dN, mN, GN, bN⟩ := MN.ex
  obtain ⟨fS, dS, mS, GS, bS⟩ := MS.ex
  obtain ⟨fT, dT, mT, GT, bT⟩ := MT.ex
  have zl : sizeLine = 16777216 := rfl
  have r1 : Room 1 _ := hr.mono (by decide)
  refine ⟨_, pss_cons (ps_set (i := 1) nd rfl (.inr rfl) (pe_call GP r1 (by rfl) gP FP.kp bP .nil pass0 (pa_cons (pv 0) pa_nil)))
    (pss_cons (ps_set (i := 2) nd rfl (.inr rfl) (pe_call GD r1 (by rfl) gD FD.kp bD .nil pass0 (pa_cons (pv 1) (pa_cons pe_int pa_nil))))
    (pss_cons (ps_set (i := 3) nd rfl (.inl rfl) (pe_ix ix_list (pe_lst (pa_cons pe_int (pa_cons pe_int (pa_cons pe_int (pa_cons pe_int (pa_cons pe_int (pa_cons pe_int (pa_cons (pe_call GD r1 (by rfl) gD FD.kp bD .nil pass0 (pa_cons (pv 1) (pa_cons pe_int pa_nil))) pa_nil)))))))) (pe_call GD r1 (by rfl) gD FD.kp bD .nil pass0 (pa_cons (pv 1) (pa_cons pe_int pa_nil))) (fun _ _ => rfl)))
    (pss_cons (ps_setLc (i := 4) (own := [("_law_k", 9)]) (g := gName 9) (tt := tYes) rfl nd rfl rfl (by rfl) (pi_range1 (by rfl) mr (pa_cons (pv 3) pa_nil)) (blkOk_by (N := nLaw) (sc := defScope sLaw) (by decide +kernel)) (fun _ _ _ _ _ => pg_name (i := 9) nd rfl (Or.inl rfl)) (fun _ _ _ _ _ => pts_nil)
        (fun _ _ _ _ _ => (pe_call GW (hr.mono (by decide)) (by rfl) gW FW.kp bW .nil pass0 (pa_cons (pv 1) (pa_cons (pv 2) pa_nil)))))
    (pss_cons (ps_set (i := 5) nd rfl (.inl rfl) (pe_lst (pa_cons pe_int (pa_cons pe_int (pa_cons pe_int (pa_cons pe_int (pa_cons pe_int (pa_cons pe_int (pa_cons (pe_op op_add pe_int (pe_call GD r1 (by rfl) gD FD.kp bD .nil pass0 (pa_cons (pv 1) (pa_cons pe_int pa_nil)))) pa_nil)))))))))
    (pss_cons (ps_set (i := 5) nd rfl (.inl rfl) (pe_lst (pa_cons (pe_ix ix_list (pv 5) (pe_call GD r1 (by rfl) gD FD.kp bD .nil pass0 (pa_cons (pv 1) (pa_cons pe_int pa_nil))) (fun _ _ => rfl)) (pa_cons (pe_op op_add pe_int (pe_call GD r1 (by rfl) gD FD.kp bD .nil pass0 (pa_cons (pv 1) (pa_cons pe_int pa_nil)))) (pa_cons (pe_op op_add pe_int (pe_call GD r1 (by rfl) gD FD.kp bD .nil pass0 (pa_cons (pv 1) (pa_cons pe_int pa_nil)))) (pa_cons (pe_callB (call_max2 rfl) (by rfl) T.mx (by decide +kernel) (pa_cons pe_int (pa_cons (pv 3) pa_nil))) pa_nil))))))
    (C8.pss_cut (ps_if (pt_not (pt_val (pe_callG GR hg (hr.mono (by decide)) (by rfl) gR FR.kp bR .nil pass0 (pa_cons (pv 4) (pa_cons (pv 5) pa_nil))))) (pss_one (ps_ret pe_bl)) pss_nil)
    (pss_cons (ps_setLc (i := 6) (own := [("_law_k", 9)]) (g := gName 9) (tt := tYes) rfl nd rfl rfl (by rfl) (pi_range1 (by rfl) mr (pa_cons pe_int pa_nil)) (blkOk_by (N := nLaw) (sc := defScope sLaw) (by decide +kernel)) (fun _ _ _ _ _ => pg_name (i := 9) nd rfl (Or.inl rfl)) (fun _ _ _ _ _ => pts_nil)
        (fun _ _ _ _ _ => (pe_tup (pa_cons (pe_op op_modN (pe_op op_mul (pv 9) pe_int) pe_int) (pa_cons (pv 9) pa_nil)))))
    (pss_cons (ps_set (i := 7) nd rfl (.inl rfl) (pe_ix ix_list (pe_call GE (hr.mono (by decide)) (by rfl) gE FE.kp bE .nil pass0 (pa_cons (pv 6) (pa_cons (pe_lst (pa_cons pe_int pa_nil)) pa_nil))) pe_int (fun _ _ => rfl)))
    (C8.pss_cut (ps_if (PW.pt (pw_or (pt_cmpR op_ne (pe_call GC (hr.mono (by decide)) (by rfl) gC FC.kp bC .nil pass0 (pa_cons (pv 7) (pa_cons pe_int pa_nil))) pe_int (nomark _)) (pw_or (pt_cmpR op_ne (pe_meth0 (pv 7) T.cl mS GS (hr.mono (by decide)) bS .nil pass0) pe_int (nomark _)) (pw_or1 (pt_cmpR op_ne (pe_callB (call_repr hg hr.units) (by rfl) mp (by decide +kernel) (pa_cons (pe_meth0 (pv 7) T.cl mT GT (hr.mono (by decide)) bT .nil passL) pa_nil)) (pe_callB (call_repr hg hr.units) (by rfl) mp (by decide +kernel) (pa_cons (pe_callB (call_sortedV hr.units) (by rfl) T.so (by decide +kernel) (pa_cons (pv 6) pa_nil)) pa_nil)) (nomark _)))))) (pss_one (ps_ret pe_bl)) pss_nil)
    (pss_cons (ps_set (i := 8) nd rfl (.inl rfl) (pe_ix ix_list (pe_call GE (hr.mono (by decide)) (by rfl) gE FE.kp bE .nil pass0 (pa_cons (pv 4) (pa_cons (pe_lst (pa_cons (pe_ix ix_list (pv 5) pe_int (fun _ _ => rfl)) pa_nil)) pa_nil))) pe_int (fun _ _ => rfl)))
    (pss_one (ps_ret (pe_and (pe_cmpR op_eq (pe_meth0 (pv 8) T.cl mS GS (hr.mono (by decide)) bS .nil pass0) (pv 3) (nomark _)) (pe_and (pe_cmpR op_eq (pe_meth0 (pv 8) T.cl mN GN (hr.mono (by decide)) bN .nil pass0) (pe_callB (call_min2 rfl) (by rfl) mn (by decide +kernel) (pa_cons pe_int (pa_cons (pv 3) pa_nil))) (nomark _)) (pe_one (pe_cmpR op_eq (pe_callB (call_repr hg hr.units) (by rfl) mp (by decide +kernel) (pa_cons (pe_meth0 (pv 8) T.cl mT GT (hr.mono (by decide)) bT .nil passL) pa_nil)) (pe_callB (call_repr hg hr.units) (by rfl) mp (by decide +kernel) (pa_cons (pe_callB (call_sortedV hr.units) (by rfl) T.so (by decide +kernel) (pa_cons (pv 4) pa_nil)) pa_nil)) (nomark _))))))))))))))))), ?_⟩
  have tb0 : Tabs (tabs1 P1) H := fun t ht => by
    simp only [tabs1, List.mem_cons, List.not_mem_nil, or_false] at ht
    subst ht
    exact TabS.nil (hT0 (c1, P1) (by simp))
  refine ⟨_, rfl, a, ns, rfl, ha, hn, fun l c H1 s1 _ _ hP => ?_⟩
  refine ⟨_, rfl, l, c, 7, 0, rfl, hP, by decide, by decide, by omega, fun fm H2 f0 f1 p2 x2 => ?_⟩
  have tb2 := tabs_ex1 (tb0.ext s1) hP x2
  refine ⟨_, rfl, l, c, 201, 0 + 1, rfl, p2, by decide, by decide, by omega, fun r3 H3 r30 r31 p3 x3 => ?_⟩
  have tb3 := tabs_ex1 tb2 p2 x3
  refine ⟨(by show 7 ≤ sizeLine; decide), fun b nb => ?_⟩
  have jb := new_same (o := .lst [.int 11, .int 0, .int 1, .int 2, .int 200, .int 60, .int r3]) nb
  have eb : upd H3 b (.lst [.int 11, .int 0, .int 1, .int 2, .int 200, .int 60, .int r3]) b = some (.lst [.int 11, .int 0, .int 1, .int 2, .int 200, .int 60, .int r3]) := upd_same
  have p4 := p3.same jb
  have tb4 := tb3.ext jb
  have nbl := (p3.not nb).1
  generalize upd H3 b (.lst [.int 11, .int 0, .int 1, .int 2, .int 200, .int 60, .int r3]) = H4 at jb eb p4 tb4 ⊢
  refine ⟨_, rfl, l, c, 7, 0 + 1 + 1, rfl, p4, by decide, by decide, by omega, fun r5 H5 r50 r51 p5 x5 => ?_⟩
  have tb5 := tabs_ex1 tb4 p4 x5
  obtain ⟨n0, hn0, en0⟩ := at_list (f := V.int) (xs := [11, 0, 1, 2, 200, 60, r3]) r50 (by simpa using r51)
  refine ⟨b, _, _, .int n0, rfl, rfl, SqL.of (x5 _ _ nbl eb), en0, ?_⟩
  have bn : 0 ≤ n0 ∧ n0 ≤ 200 := by
    simp only [List.mem_cons, List.not_mem_nil, or_false] at hn0
    omega
  obtain ⟨N, rfl⟩ : ∃ N : Nat, n0 = (N : Int) := ⟨n0.toNat, by omega⟩
  have N2 : N ≤ 200 := by omega
  have p5 : Pen H5 l c 3 := p5.le (by decide)
  clear hn0 en0 bn eb jb nbl nb p4 tb4 p3 tb3 x3 x5 p2 tb2 x2 tb0 hP s1
  -- rows
  refine ⟨_, rfl, _, rfl, by omega, by omega, fun R nR => ?_⟩
  have nRl := (p5.not nR).1
  have nRc := (p5.not nR).2
  refine lc_it walk_upto (fun j G => Pen G l c (3 + 4 * (j : Int)) ∧ Tabs (tabs1 P1) G ∧ ∃ (vs : List V) (ds : List PyData), G R = some (.lst vs) ∧ DpAll K G vs ds ∧ ds.length = j ∧ ∀ d ∈ ds, IsRow fm d)
    ⟨(p5.off nRl nRc).le (by omega), tb5.ext (new_same nR), [], [], upd_same, .nil, rfl, fun d z => absurd z (by simp)⟩ (fun _ _ _ _ => trivial) ?_ ?_
  · rintro j x G G' hj ⟨pG, tG, vs, ds, eD, dD, lD, rD⟩ ⟨rfl, rfl⟩
    have hj : j < N := by simpa using hj
    refine ⟨rfl, ?_⟩
    refine ⟨_, rfl, _, rfl, l, c, fm, 3 + 4 * (j : Int), rfl, pG, f0, f1, by omega, fun v d G2 hd dv pG2 xG => ?_⟩
    have tG2 := tabs_ex1 tG pG xG
    have eD2 := xG _ _ nRl eD
    have lv : vs.length = ds.length := DpAll.len dD
    obtain ⟨zns, zu, zo, ezl, _⟩ := id pG
    have tps := Ex1.tups (K := K) xG ezl
    have dD2 := DpAll.tups tps ds (rows_only rD) dD
    have t3 : Tups K G2 (upd G2 R (.lst (vs ++ [v]))) := Tups.upd_lst eD2
    refine ⟨vs, eD2, by omega, (pG2.off nRl nRc).le (by omega), tabs_write tG2 eD2, vs ++ [v], ds ++ [d], upd_same, DpAll.snoc (DpAll.tups t3 ds (rows_only rD) dD2) (Dp.tups t3 d (row_only hd) dv), by rw [List.length_append, lD]; rfl, fun y hy => ?_⟩
    rcases List.mem_append.mp hy with hy | hy
    · exact rD y hy
    · obtain rfl := List.mem_singleton.mp hy
      exact hd
  rintro G ⟨pG, tG, us, ds, eR, dR, lD, rD⟩
  have lD : ds.length = N := by simpa using lD
  have pG : Pen G l c 1000 := pG.le (by simp; omega)
  have dn : ∀ {X X' : Hp} {S : Int}, Pen X l c S → Ex1 l X X' → DpAll K X us ds → DpAll K X' us ds := fun {X X' S} p x d => by
    obtain ⟨zns, zu, zo, ezl, _⟩ := id p
    exact DpAll.tups (Ex1.tups (K := K) x ezl) ds (rows_only rD) d
  clear p5 tb5
  -- hands
  refine ⟨_, rfl, l, c, 40, 1000, rfl, pG, by decide, by decide, by omega, fun r6 G1 r60 r61 p6 x6 => ?_⟩
  have tb6 := tabs_ex1 tG pG x6
  have eR6 := x6 _ _ nRl eR
  have dR6 := dn pG x6 dR
  refine ⟨_, _, rfl, rfl, (by show 7 ≤ sizeLine; decide), fun b nb => ?_⟩
  have jb := new_same (o := .lst [.int 3, .int 1, .int 2, .int 4, .int 14, .int 15, .int (1 + r6)]) nb
  have eb : upd G1 b (.lst [.int 3, .int 1, .int 2, .int 4, .int 14, .int 15, .int (1 + r6)]) b = some (.lst [.int 3, .int 1, .int 2, .int 4, .int 14, .int 15, .int (1 + r6)]) := upd_same
  have p7 := p6.same jb
  have tb7 := tb6.ext jb
  have eR7 := jb _ _ eR6
  have dR7 := DpAll.same jb _ dR6
  have nbl := (p6.not nb).1
  generalize upd G1 b (.lst [.int 3, .int 1, .int 2, .int 4, .int 14, .int 15, .int (1 + r6)]) = G2 at jb eb p7 tb7 eR7 dR7 ⊢
  refine ⟨_, rfl, _, rfl, l, c, 7, 1001, rfl, p7, by decide, by decide, by omega, fun r8 G3 r80 r81 p8 x8 => ?_⟩
  have tb8 := tabs_ex1 tb7 p7 x8
  have eR8 := x8 _ _ nRl eR7
  have dR8 := dn p7 x8 dR7
  obtain ⟨n1, hn1, en1⟩ := at_list (f := V.int) (xs := [3, 1, 2, 4, 14, 15, 1 + r6]) r80 (by simpa using r81)
  refine ⟨b, _, _, .int n1, rfl, rfl, SqL.of (x8 _ _ nbl eb), en1, ?_⟩
  have bn : 1 ≤ n1 ∧ n1 ≤ 40 := by
    simp only [List.mem_cons, List.not_mem_nil, or_false] at hn1
    omega
  obtain ⟨k1, rfl⟩ : ∃ k : Nat, n1 = (k : Int) := ⟨n1.toNat, by omega⟩
  clear hn1 en1 eb jb nbl nb p6 tb6 x6 eR6 dR6 eR7 dR7 p7 tb7 x8 eR dR pG tG
  refine ⟨_, rfl, l, c, 9, 1002, rfl, p8, by decide, by decide, by omega, fun r9 G4 r90 r91 p9 x9 => ?_⟩
  have tb9 := tabs_ex1 tb8 p8 x9
  have eR9 := x9 _ _ nRl eR8
  have dR9 := dn p8 x9 dR8
  obtain ⟨k2, hk2⟩ : ∃ k : Nat, 2 + r9 = (k : Int) := ⟨(2 + r9).toNat, by omega⟩
  refine ⟨_, _, rfl, rfl, ?_⟩
  refine ⟨_, rfl, l, c, 3, 1003, rfl, p9, by decide, by decide, by omega, fun r10 G5 r100 r101 p10 x10 => ?_⟩
  have tb10 := tabs_ex1 tb9 p9 x10
  have eR10 := x10 _ _ nRl eR9
  have dR10 := dn p9 x10 dR9
  obtain ⟨k3, hk3⟩ : ∃ k : Nat, 1 + r10 = (k : Int) := ⟨(1 + r10).toNat, by omega⟩
  refine ⟨_, _, rfl, rfl, ?_⟩
  have hk4 : (if (N : Int) > 1 then (N : Int) else 1) = ((max 1 N : Nat) : Int) := by split <;> omega
  refine ⟨_, rfl, _, _, rfl, (by show 4 ≤ sizeLine; decide), fun A nA => ?_⟩
  have jA := new_same (o := .lst [V.int (k1 : Int), .int (2 + r9), .int (1 + r10), .int (if (N : Int) > 1 then (N : Int) else 1)]) nA
  have eA : upd G5 A (.lst [V.int (k1 : Int), .int (2 + r9), .int (1 + r10), .int (if (N : Int) > 1 then (N : Int) else 1)]) A = some (.lst [V.int (k1 : Int), .int (2 + r9), .int (1 + r10), .int (if (N : Int) > 1 then (N : Int) else 1)]) := upd_same
  have tbA := tb10.ext jA
  have eRA := jA _ _ eR10
  have dRA := DpAll.same jA _ dR10
  generalize upd G5 A (.lst [V.int (k1 : Int), .int (2 + r9), .int (1 + r10), .int (if (N : Int) > 1 then (N : Int) else 1)]) = G6 at jA eA tbA eRA dRA ⊢
  rw [hk2, hk3, hk4] at eA
  have eA : G6 A = some (.lst ((k1 :: [k2, k3, max 1 N]).map vN)) := eA
  have dRn : DpAll K (noT G6) us ds := DpAll.tups noT_tups ds (rows_only rD) dRA
  clear p8 tb8 eR8 dR8 p9 tb9 eR9 dR9 x9 x10 eR10 dR10 tb10 jA dRA nA dn
  refine ⟨fun σ' G => σ' = [some (.ref a), some (.ref l), some (.int fm), some (.int (N : Int)), some (.ref R), some (.ref A), none, none, none, none] ∧ Same (noT G6) G, ?_, ?_⟩
  · refine ⟨_, rfl, _, rfl, noT G6, (fun b => ∃ o, noT G6 b = some o), R, A, fm, us, ds, k1, [k2, k3, max 1 N], rfl, noT_same G6, (fun b o e => ⟨o, e⟩), (fun b ⟨o, e⟩ => ⟨o, noT_of e⟩), noT_zT, ⟨_, noT_at eRA (fun _ z => nomatch z)⟩, ⟨_, noT_at eA (fun _ z => nomatch z)⟩, eRA, dRn, rD, by omega, eA, (fun h hm => ?_), (by show 3 ≤ 10; decide), tbA, fun G7 z7 => ⟨_, rfl, iteF ⟨rfl, fun b o e => (z7 b ⟨o, e⟩).trans (noT_of e)⟩⟩⟩
    simp only [List.mem_cons, List.not_mem_nil, or_false] at hm
    omega
  rintro σ7 G7 ⟨rfl, s7⟩
  have eR7 := s7 _ _ (noT_at eRA (fun _ z => nomatch z))
  have eA7 := s7 _ _ (noT_at eA (fun _ z => nomatch z))
  have eRA0 := eRA
  have eA0 := eA
  clear eA eRA tbA
  -- far rows
  refine ⟨_, rfl, by decide, by decide, fun F nF => ?_⟩
  refine lc_it (walk_upto (n := 1500)) (fun j G => Same G7 G ∧ ∃ vs, G F = some (.lst vs) ∧ DpAll K G vs ((List.range j).map farD)) ⟨new_same nF, [], upd_same, .nil⟩ (fun _ _ _ _ => trivial) ?_ ?_
  · rintro j x G G' hj ⟨sG, vs, eF, dF⟩ ⟨rfl, rfl⟩
    have hj : j < 1500 := hj
    refine ⟨rfl, ?_⟩
    refine ⟨_, rfl, _, _, rfl, rfl, .inr ⟨by decide, by decide⟩, _, _, rfl, rfl, (by show (1500 : Int) ≠ 0; decide), _, rfl, (by show 2 ≤ sizeLine; decide), fun t nt => ?_⟩
    have jt := new_same (o := .tup [.int ((((j : Nat) : Int) * 7919).fmod 1500), .int ((j : Nat) : Int)]) nt
    have et : upd G' t (.tup [.int ((((j : Nat) : Int) * 7919).fmod 1500), .int ((j : Nat) : Int)]) t = some (.tup [.int ((((j : Nat) : Int) * 7919).fmod 1500), .int ((j : Nat) : Int)]) := upd_same
    generalize upd G' t (.tup [.int ((((j : Nat) : Int) * 7919).fmod 1500), .int ((j : Nat) : Int)]) = G2 at jt et ⊢
    have lv : vs.length = j := by rw [DpAll.len dF, List.length_map, List.length_range]
    have only : tupOnlyAll ((List.range j).map farD) = true := rows_only (f := 1) fun d hd => by
      obtain ⟨i, hi, rfl⟩ := List.mem_map.mp hd
      exact (far_row (by have : i < j := by simpa using hi
                         omega)).1
    have t3 : Tups K G2 (upd G2 F (.lst (vs ++ [.ref t]))) := Tups.upd_lst (jt _ _ eF)
    refine ⟨vs, jt _ _ eF, by omega, fun b o e => ?_, vs ++ [.ref t], upd_same, ?_⟩
    · rw [upd_ne (ne_of_none e nF)]
      exact jt _ _ (sG _ _ e)
    · rw [List.range_succ, List.map_append]
      exact DpAll.snoc (DpAll.tups t3 _ only (DpAll.same jt _ dF)) (Dp.tups t3 _ (row_only (far_row hj).1) (.tup (SqT.of et) (.cons (.int _) (.cons (.int _) .nil))))
  rintro G8 ⟨s8, vsF, eF, dF⟩
  have dF : DpAll K G8 vsF ((List.range 1500).map farD) := dF
  obtain ⟨far, hfar⟩ : ∃ far, far = (List.range 1500).map farD := ⟨_, rfl⟩
  rw [← hfar] at dF
  have lfar : far.length = 1500 := by rw [hfar, List.length_map, List.length_range]
  have rfar : ∀ d ∈ far, IsRow 1 d ∧ Sm 36 1 d := fun d hd => by
    rw [hfar] at hd
    obtain ⟨i, hi, rfl⟩ := List.mem_map.mp hd
    exact far_row (by simpa using hi)
  clear hfar
  have s68 : Same (noT G6) G8 := s7.trans s8
  have eR8 := s8 _ _ eR7
  have eA8 := s8 _ _ eA7
  clear eR7 eA7 s7 s8 nF
  refine ⟨_, rfl, (by show 1 ≤ sizeLine; decide), fun A2 nA2 => ?_⟩
  have j9 := new_same (o := .lst [.int 800]) nA2
  have eA2 : upd G8 A2 (.lst [.int 800]) A2 = some (.lst [.int 800]) := upd_same
  have eF9 := j9 _ _ eF
  have dF9 := DpAll.same j9 _ dF
  have s69 := s68.trans j9
  generalize upd G8 A2 (.lst [.int 800]) = G9 at j9 eA2 eF9 dF9 s69 ⊢
  have dF9n : DpAll K (noT G9) vsF far := DpAll.tups noT_tups far (rows_only fun d hd => (rfar d hd).1) dF9
  refine ⟨noT G9, (fun b => ∃ o, noT G9 b = some o), F, A2, 1, vsF, far, [800], rfl, noT_same G9, (fun b o e => ⟨o, e⟩), (fun b ⟨o, e⟩ => ⟨o, noT_of e⟩), ⟨_, noT_at eF9 (fun _ z => nomatch z)⟩, ⟨_, noT_at eA2 (fun _ z => nomatch z)⟩, eF9, dF9n, fun d hd => (rfar d hd).1, by omega, eA2, by simp, by decide, fun G10 L ps xs dL mu zz _ eL st => ?_⟩
  obtain ⟨pd, es⟩ := st 0 800 rfl
  have s610 : Same (noT G6) G10 := zsame s69 zz
  have z910 : Same (noT G9) G10 := fun b o e => (zz b ⟨o, e⟩).trans (noT_of e)
  refine ⟨L, _, 0, _, rfl, rfl, SqL.of eL, atI_nat (j := 0) (refs_at (by decide)), ?_⟩
  have mu := mu.sub (Z' := fun b => ∃ o, noT G9 b = some o) (fun b z => .inl z) (fun b o e => ⟨o, e⟩)
  clear zz eL dL st
  refine ⟨fun σ' G => σ' = [some (.ref a), some (.ref l), some (.int fm), some (.int (N : Int)), some (.ref R), some (.ref A), some (.ref F), some (.ref (ps 0)), none, none] ∧ Same (noT G6) G, ?_, ?_⟩
  · obtain ⟨Hf, dx, fs, Rf, ep, nf, act⟩ := mu.act (i := 0) (by decide)
    refine ⟨_, rfl, noT G9, Hf, ps 0, xs 0, 1, 800, 2, sizesOf far.length 800, far, rfl, Rf, pd, by decide, fun G11 x11 R11 pd11 es11 => ?_⟩
    have lz : (sizesOf far.length 800).length = 2 := by rw [sizes_lots (by decide), lfar]
    have rn := run_one (k := max 2 800) (zs := sizesOf far.length 800) (by rw [lz]; decide) 1
    rw [if_pos (by rw [lz]; decide), sizes_sum] at rn
    have rn : runM (max 2 800) (sizesOf far.length 800, 0, 0) 2 = ([far.length], 1, far.length) := rn
    rw [rn] at pd11 es11 ⊢
    obtain ⟨mu11, zz11, _⟩ := act G11 x11 R11
    have s611 : Same (noT G6) G11 := zsame s69 fun b z => by
      obtain ⟨o, e⟩ := z
      rw [zz11 b ⟨o, e⟩, z910 _ _ e, noT_of e]
    have s911 : Same (noT G9) G11 := fun b o e => by rw [zz11 b ⟨o, e⟩]; exact z910 _ _ e
    refine ⟨rfl, _, rfl, ite2 (fun z => absurd z (by simp)) (fun _ => ?_)⟩
    obtain ⟨Hf1, dx1, fs1, Rf1, ep1, nf1, _⟩ := mu11.act (i := 0) (by decide)
    have Rf1 : PileAt K C (noT G9) Hf1 G11 (ps 0) x11 := Rf1
    refine ⟨_, rfl, ps 0, dx1, fs1, rfl, ep1, nf1 _ (by decide +kernel), noT G9, Hf1, ps 0, x11, rfl, Rf1, rfl, _, rfl, ite2 (fun z => absurd z ?_) (fun _ => ?_)⟩
    · have : x11.s = 3000 := by
        rw [es11, es, lfar]
        rfl
      rw [this]
      simp
    have okf : RowsOk far := rows_ok (fun d hd => (rfar d hd).1) (by omega)
    have ft : x11.lots.flatten = told far := post_told pd11.po (by show 1 ≤ 1; decide) (List.Perm.refl _) okf.al
    obtain ⟨dd, hdd, dd1, dd2, dd3⟩ := show_by (w := 36) (ds := told far) (fun d hd => ((rfar d ((told_perm far).subset hd)).2).mono (Nat.le_refl _) (by decide)) (by rw [told_len, lfar]; decide)
    refine ⟨_, rfl, ps 0, dx1, fs1, rfl, ep1, nf1 _ (by decide +kernel), noT G9, Hf1, ps 0, x11, rfl, Rf1, (fun z => by
      rcases z with z | z
      · exact absurd (pd11.po.e.symm.trans z) (by decide)
      · rw [pd11.lots] at z
        exact absurd z (by show ¬ 1 < 1; decide)), fun _ _ => ⟨(by rw [ft, told_len]; omega), fun q0 us0 H' s' nq e' d' => ?_⟩⟩
    rw [ft] at d'
    have s9' := s911.trans s'
    refine ⟨_, dd, rfl, by rw [hdd]; exact .lst (SqL.of e') (DpAll.same s9' _ d'), dd1, dd2, dd3, ?_⟩
    refine ⟨_, rfl, F, vsF, far, (fun _ _ => True), rfl, SqL.of (s9' _ _ (noT_at eF9 (fun _ z => nomatch z))), DpAll.same s9' _ dF9n, (each_dp dF9n).mono fun _ _ _ => trivial, okf.al, okf.tu, okf.len, okf.dep, fun us2 q2 nq2 d2 _ => ?_⟩
    have jq := new_same (o := .lst us2) nq2
    have eq2 : upd H' q2 (.lst us2) q2 = some (.lst us2) := upd_same
    generalize upd H' q2 (.lst us2) = H9 at jq eq2 ⊢
    refine ⟨_, dd, rfl, by rw [hdd]; exact .lst (SqL.of eq2) (DpAll.same jq _ d2), dd1, dd2, dd3, rfl, _, rfl, ?_⟩
    exact iteF' (by simp) ⟨rfl, (s611.trans s').trans jq⟩
  rintro σ12 G12 ⟨rfl, s12⟩
  have eR12 := noT_up s12 _ _ (noT_at eRA0 (fun _ z => nomatch z))
  have eA12 := noT_up s12 _ _ (noT_at eA0 (fun _ z => nomatch z))
  have dR12 : DpAll K (noT G12) us ds := DpAll.same (noT_up s12) _ dRn
  refine ⟨_, rfl, _, rfl, A, _, 3, _, rfl, rfl, SqL.of (noT_of eA12), atI_nat (j := 3) rfl, (by show 1 ≤ sizeLine; decide), fun A3 nA3 => ?_⟩
  have j13 := new_same (o := .lst [vN (max 1 N)]) nA3
  have eA3 : upd G12 A3 (.lst [vN (max 1 N)]) A3 = some (.lst [vN (max 1 N)]) := upd_same
  have eR13 := j13 _ _ (noT_of eR12)
  have dR13 := DpAll.same (noT_mono j13) _ dR12
  generalize upd G12 A3 (.lst [vN (max 1 N)]) = G13 at j13 eA3 eR13 dR13 ⊢
  refine ⟨noT G13, (fun b => ∃ o, noT G13 b = some o), R, A3, fm, us, ds, [max 1 N], rfl, noT_same G13, (fun b o e => ⟨o, e⟩), (fun b ⟨o, e⟩ => ⟨o, noT_of e⟩), ⟨_, noT_at eR13 (fun _ z => nomatch z)⟩, ⟨_, noT_at eA3 (fun _ z => nomatch z)⟩, eR13, dR13, rD, by omega, eA3, (fun h hm => by simp only [List.mem_cons, List.not_mem_nil, or_false] at hm; omega), (by show 1 ≤ 20; decide), fun G14 L ps xs dL mu zz _ eL st => ?_⟩
  obtain ⟨pd, es⟩ := st 0 (max 1 N) rfl
  have z14 : Same (noT G13) G14 := fun b o e => (zz b (⟨o, e⟩)).trans (noT_of e)
  refine ⟨L, _, 0, _, rfl, rfl, SqL.of eL, atI_nat (j := 0) (refs_at (by show 0 < 1; decide)), ?_⟩
  obtain ⟨Hf, dx, fs, Rf, ep, nf, _⟩ := mu.act (i := 0) (by show 0 < 1; decide)
  have lz : (sizesOf ds.length (max 1 N)).length = min 1 N := by
    rw [sizes_lots (by omega), lD, lots_one' (by omega)]
  refine ⟨_, rfl, ps 0, dx, fs, rfl, ep, nf _ (by decide +kernel), noT G13, Hf, ps 0, xs 0, rfl, Rf, _, rfl, rfl, ?_⟩
  rw [es, lD]
  refine ⟨_, rfl, iteT' (by simp) ?_⟩
  have mn0 : (if ((N : Nat) : Int) < 1 then ((N : Nat) : Int) else 1) = ((min 1 N : Nat) : Int) := by split <;> omega
  refine ⟨_, rfl, ps 0, dx, fs, rfl, ep, nf _ (by decide +kernel), noT G13, Hf, ps 0, xs 0, rfl, Rf, _, rfl, _, _, rfl, rfl, ?_⟩
  rw [pd.lots, lz, mn0]
  refine ⟨_, rfl, iteT' (by simp) ?_⟩
  have okd : RowsOk ds := rows_ok rD (by omega)
  have rowT : ∀ d ∈ told ds, IsRow fm d := fun d hd => rD d ((told_perm ds).subset hd)
  have ft : (xs 0).lots.flatten = told ds := post_told pd.po (by rw [lz]; omega) (List.Perm.refl _) okd.al
  obtain ⟨dd, hdd, dd1, dd2, dd3⟩ := show_by (w := 660) (ds := told ds) (fun d hd => row_sm (rowT d hd)) (by rw [told_len, lD]; omega)
  refine ⟨_, rfl, ps 0, dx, fs, rfl, ep, nf _ (by decide +kernel), noT G13, Hf, ps 0, xs 0, rfl, Rf, (fun z => by
    rcases z with z | z
    · exact absurd (pd.po.e.symm.trans z) (by decide)
    · rw [pd.lots, lz] at z
      omega), fun _ _ => ⟨(by rw [ft, told_len]; omega), fun q0 us0 H' s' nq e' d' => ?_⟩⟩
  rw [ft] at d'
  have s9' := z14.trans s'
  refine ⟨_, dd, rfl, by rw [hdd]; exact .lst (SqL.of e') (DpAll.same s9' _ d'), dd1, dd2, dd3, ?_⟩
  refine ⟨_, rfl, R, us, ds, (fun _ _ => True), rfl, SqL.of (s9' _ _ (noT_at eR13 (fun _ z => nomatch z))), DpAll.same s9' _ dR13, (each_dp dR13).mono fun _ _ _ => trivial, okd.al, okd.tu, okd.len, okd.dep, fun us2 q2 nq2 d2 _ => ?_⟩
  have jq := new_same (o := .lst us2) nq2
  have eq2 : upd H' q2 (.lst us2) q2 = some (.lst us2) := upd_same
  generalize upd H' q2 (.lst us2) = H9 at jq eq2 ⊢
  refine ⟨_, dd, rfl, by rw [hdd]; exact .lst (SqL.of eq2) (DpAll.same jq _ d2), dd1, dd2, dd3, rfl, ?_⟩
  have fin := q H9
  generalize dd.shown = tx
  simpa using fin
end
end K42
end

section
set_option Elab.async false
set_option linter.all false
set_option maxRecDepth 100000
set_option maxHeartbeats 8000000
namespace K42
open PySem PySem.Spec PyProof.Rows L2 Gd LamX
structure ClP (K : PySem.W.Frag) (C : Addr) : Prop where
  ev : EvC K C
  sa : PySem.W.findIn K (.ref C) "__setattr__" = some (some (.builtin "object.__setattr__"))
  ty : PySem.W.typeIn K (.ref C) = some (.type "type")
  kp : PySem.W.keepIn K (.ref C) = true
  cl : (PySem.W.clsIn K C).isSome = true
theorem ClP.tyb {K : PySem.W.Frag} {C : Addr} (h : ClP K C) : ((PySem.W.clsIn K C).isSome && PySem.W.typeIn K (.ref C) == some (.type "type")) = true := by
  rw [h.cl, h.ty]
  simp
abbrev vTail : List Value := [.type "ValueError", .type "Exception", .type "BaseException", .type "object"]
theorem refs_v (c : Addr) : PySem.HandSPX.refsVE (.ref c :: vTail) = true ∧ PySem.HandSPX.refsVE vTail = true := ⟨by rfl, by rfl⟩
section
variable {K : PySem.W.Frag} {C N : Addr} {nm q : Str} {bs bm : List Value} {hdct : Bool} {sn : List Str} {sub : List Value} {ab : Bool} {col : Option Bool}
  {dd : Option Addr} {k0 k1 k2 k3 k5 : Option Value} {nw : String}
theorem cls_of (h : K.lookup C = some (excClassObj nm q C N bs bm hdct sn sub ab col dd k0 k1 k2 k3 k5 nw)) :
    ∃ cd, PySem.W.clsIn K C = some cd ∧ cd.mro = .ref C :: bm := by
  unfold PySem.W.clsIn
  rw [h]
  exact ⟨_, rfl, rfl⟩
theorem some_of (h : K.lookup C = some (excClassObj nm q C N bs bm hdct sn sub ab col dd k0 k1 k2 k3 k5 nw)) : (PySem.W.clsIn K C).isSome = true := by
  unfold PySem.W.clsIn
  rw [h]
  rfl
theorem oex_of (h : K.lookup C = some (excClassObj nm q C N bs bm true sn sub ab col dd k0 k1 k2 k3 k5 "ValueError.__new__"))
    (r : PySem.HandSPX.refsVE bm = true) (p : ClP K C) : OexC K C :=
  ⟨⟨_, _, _, _, _, _, _, _, _, _, _, _, _, _, _, h, r⟩, p.sa, p.ev.sub, p.ty, p.kp⟩
end
theorem all_mk {l : PySem.W.OpenLaw} {w : World} {K : PySem.W.Frag} {h : Heap} {mg : Str → Option Value} {fa : Addr} {C cc1 P1 f0 f1 f2 f3 f4 f5 f6 f7 f8 f9 f10 f11 f12 f13 f14 f15 f16 f17 f18 f19 f20 f21 f22 C0 N0 C1 N1 C2 N2 C3 N3 C4 N4 C5 N5 C6 N6 : Addr} (X : K.In h) (G : h.Ns mainGlobals mg) (hfa : mg "law" = some (.ref fa))
    {ed1 od0 an0 od1 an1 od2 an2 od3 an3 od4 an4 od5 an5 od6 an6 od7 an7 od8 an8 od9 an9 od10 an10 od11 an11 od12 an12 od13 an13 od14 an14 od15 an15 od16 an16 od17 an17 od18 an18 od19 an19 od20 an20 od21 an21 od22 an22 : Option Addr} {es1 sl0 sl1 sl2 sl3 sl4 sl5 sl6 sl7 sl8 sl9 sl10 sl11 sl12 sl13 sl14 sl15 sl16 sl17 sl18 sl19 sl20 sl21 sl22 : Array (Option Value)} {vs1 : Array Value} {ec1 oc0 kV0 dc0 pm0 ct0 cd0 oc1 kV1 dc1 pm1 ct1 cd1 oc2 kV2 dc2 pm2 ct2 cd2 oc3 kV3 dc3 pm3 ct3 cd3 oc4 kV4 dc4 pm4 ct4 cd4 oc5 kV5 dc5 pm5 ct5 cd5 oc6 kV6 dc6 pm6 ct6 cd6 oc7 kV7 dc7 pm7 ct7 cd7 oc8 kV8 dc8 pm8 ct8 cd8 oc9 kV9 dc9 pm9 ct9 oc10 kV10 dc10 pm10 ct10 cd10 oc11 kV11 dc11 pm11 ct11 cd11 oc12 kV12 dc12 pm12 ct12 cd12 oc13 kV13 dc13 pm13 ct13 cd13 oc14 kV14 dc14 pm14 ct14 cd14 oc15 kV15 dc15 pm15 ct15 cd15 oc16 kV16 dc16 pm16 ct16 cd16 oc17 kV17 dc17 pm17 ct17 cd17 oc18 kV18 dc18 pm18 ct18 cd18 oc19 kV19 dc19 pm19 ct19 cd19 oc20 kV20 dc20 pm20 ct20 cd20 oc21 kV21 dc21 pm21 ct21 cd21 oc22 kV22 dc22 pm22 ct22 cd22 : Value}
    {nm0 q0 nm1 q1 nm2 q2 nm3 q3 nm4 q4 nm5 q5 nm6 q6 : Str} {bs0 su0 bs1 su1 bs2 su2 bs3 su3 bs4 su4 bs5 su5 bs6 su6 : List Value} {sn0 sn1 sn2 sn3 sn4 sn5 sn6 : List Str} {ab0 ab1 ab2 ab3 ab4 ab5 ab6 : Bool}
    {co0 co1 co2 co3 co4 co5 co6 : Option Bool} {dd0 dd1 dd2 dd3 dd4 dd5 dd6 : Option Addr} {a0_0 a0_1 a0_2 a0_3 a0_5 a1_0 a1_1 a1_2 a1_3 a1_5 a2_0 a2_1 a2_2 a2_3 a2_5 a3_0 a3_1 a3_2 a3_3 a3_5 a4_0 a4_1 a4_2 a4_3 a4_5 a5_0 a5_1 a5_2 a5_3 a5_5 a6_0 a6_1 a6_2 a6_3 a6_5 : Option Value}
    (aF0 : PySem.W.nsIn K mainGlobals "_law_pen" = some (some (.ref f0)))
    (lF0 : K.lookup f0 = some ⟨oc0, od0, .func (PySem.W.fnOf "_law_pen" "_law_pen" (defArgs sPen) (defBody sPen) (defScope sPen) .none kV0 dc0 pm0 an0 cd0 ct0), sl0⟩)
    (cF0 : PySem.W.codeIn K cd0 "_law_pen" = true)
    (kF0 : PySem.W.keepIn K (.ref f0) = true)
    (aF1 : PySem.W.nsIn K mainGlobals "_law_draw" = some (some (.ref f1)))
    (lF1 : K.lookup f1 = some ⟨oc1, od1, .func (PySem.W.fnOf "_law_draw" "_law_draw" (defArgs sDraw) (defBody sDraw) (defScope sDraw) .none kV1 dc1 pm1 an1 cd1 ct1), sl1⟩)
    (cF1 : PySem.W.codeIn K cd1 "_law_draw" = true)
    (kF1 : PySem.W.keepIn K (.ref f1) = true)
    (aF2 : PySem.W.nsIn K mainGlobals "_law_row" = some (some (.ref f2)))
    (lF2 : K.lookup f2 = some ⟨oc2, od2, .func (PySem.W.fnOf "_law_row" "_law_row" (defArgs sRow) (defBody sRow) (defScope sRow) .none kV2 dc2 pm2 an2 cd2 ct2), sl2⟩)
    (cF2 : PySem.W.codeIn K cd2 "_law_row" = true)
    (kF2 : PySem.W.keepIn K (.ref f2) = true)
    (aF3 : PySem.W.nsIn K mainGlobals "_law_heard" = some (some (.ref f3)))
    (lF3 : K.lookup f3 = some ⟨oc3, od3, .func (PySem.W.fnOf "_law_heard" "_law_heard" (defArgs sHeard) (defBody sHeard) (defScope sHeard) .none kV3 dc3 pm3 an3 cd3 ct3), sl3⟩)
    (cF3 : PySem.W.codeIn K cd3 "_law_heard" = true)
    (kF3 : PySem.W.keepIn K (.ref f3) = true)
    (aF4 : PySem.W.nsIn K mainGlobals "_law_lots" = some (some (.ref f4)))
    (lF4 : K.lookup f4 = some ⟨oc4, od4, .func (PySem.W.fnOf "_law_lots" "_law_lots" (defArgs sLt) (defBody sLt) (defScope sLt) .none kV4 dc4 pm4 an4 cd4 ct4), sl4⟩)
    (cF4 : PySem.W.codeIn K cd4 "_law_lots" = true)
    (kF4 : PySem.W.keepIn K (.ref f4) = true)
    (aF5 : PySem.W.nsIn K mainGlobals "_law_mergings" = some (some (.ref f5)))
    (lF5 : K.lookup f5 = some ⟨oc5, od5, .func (PySem.W.fnOf "_law_mergings" "_law_mergings" (defArgs sMg) (defBody sMg) (defScope sMg) .none kV5 dc5 pm5 an5 cd5 ct5), sl5⟩)
    (cF5 : PySem.W.codeIn K cd5 "_law_mergings" = true)
    (kF5 : PySem.W.keepIn K (.ref f5) = true)
    (aF6 : PySem.W.nsIn K mainGlobals "_law_count" = some (some (.ref f6)))
    (lF6 : K.lookup f6 = some ⟨oc6, od6, .func (PySem.W.fnOf "_law_count" "_law_count" (defArgs sCt) (defBody sCt) (defScope sCt) .none kV6 dc6 pm6 an6 cd6 ct6), sl6⟩)
    (cF6 : PySem.W.codeIn K cd6 "_law_count" = true)
    (kF6 : PySem.W.keepIn K (.ref f6) = true)
    (aF7 : PySem.W.nsIn K mainGlobals "_law_ended" = some (some (.ref f7)))
    (lF7 : K.lookup f7 = some ⟨oc7, od7, .func (PySem.W.fnOf "_law_ended" "_law_ended" (defArgs sEn) (defBody sEn) (defScope sEn) .none kV7 dc7 pm7 an7 cd7 ct7), sl7⟩)
    (cF7 : PySem.W.codeIn K cd7 "_law_ended" = true)
    (kF7 : PySem.W.keepIn K (.ref f7) = true)
    (aF8 : PySem.W.nsIn K mainGlobals "_law_lent_right" = some (some (.ref f8)))
    (lF8 : K.lookup f8 = some ⟨oc8, od8, .func (PySem.W.fnOf "_law_lent_right" "_law_lent_right" (defArgs sLn) (defBody sLn) (defScope sLn) .none kV8 dc8 pm8 an8 cd8 ct8), sl8⟩)
    (cF8 : PySem.W.codeIn K cd8 "_law_lent_right" = true)
    (kF8 : PySem.W.keepIn K (.ref f8) = true)
    (aF9 : PySem.W.nsIn K mainGlobals "_law_hands_right" = some (some (.ref f9)))
    (lF9 : K.lookup f9 = some ⟨oc9, od9, .func (PySem.W.fnOf "_law_hands_right" "_law_hands_right" (defArgs sHR) (defBody sHR) (defScope sHR) .none kV9 dc9 pm9 an9 (.ref cc1) ct9), sl9⟩)
    (cF9 : PySem.W.codeIn K (.ref cc1) "_law_hands_right" = true)
    (kF9 : PySem.W.keepIn K (.ref f9) = true)
    (aF10 : PySem.W.nsIn K mainGlobals "law" = some (some (.ref f10)))
    (lF10 : K.lookup f10 = some ⟨oc10, od10, .func (PySem.W.fnOf "law" "law" (defArgs sLaw) (defBody sLaw) (defScope sLaw) .none kV10 dc10 pm10 an10 cd10 ct10), sl10⟩)
    (cF10 : PySem.W.codeIn K cd10 "law" = true)
    (kF10 : PySem.W.keepIn K (.ref f10) = true)
    (lK1 : K.lookup cc1 = some ⟨ec1, ed1, .fields vs1, es1⟩)
    (pK1 : vs1[11]? = some (.ref P1))
    (nK1 : K.lookup P1 = none)
    (aC : PySem.W.nsIn K mainGlobals "Pile" = some (some (.ref C)))
    (aF11 : PySem.W.findIn K (.ref C) "__init__" = some (some (.ref f11)))
    (iF11 : PySem.W.isFn K (.ref f11) = true)
    (lF11 : K.lookup f11 = some ⟨oc11, od11, .func (PySem.W.fnOf "__init__" "Pile.__init__" (defArgs sInit) (defBody sInit) (defScope sInit) .none kV11 dc11 pm11 an11 cd11 ct11), sl11⟩)
    (cF11 : PySem.W.codeIn K cd11 "Pile.__init__" = true)
    (kF11 : PySem.W.keepIn K (.ref f11) = true)
    (aF12 : PySem.W.findIn K (.ref C) "put" = some (some (.ref f12)))
    (iF12 : PySem.W.isFn K (.ref f12) = true)
    (lF12 : K.lookup f12 = some ⟨oc12, od12, .func (PySem.W.fnOf "put" "Pile.put" (defArgs sPut) (defBody sPut) (defScope sPut) .none kV12 dc12 pm12 an12 cd12 ct12), sl12⟩)
    (cF12 : PySem.W.codeIn K cd12 "Pile.put" = true)
    (kF12 : PySem.W.keepIn K (.ref f12) = true)
    (aF13 : PySem.W.findIn K (.ref C) "_empty_hand" = some (some (.ref f13)))
    (iF13 : PySem.W.isFn K (.ref f13) = true)
    (lF13 : K.lookup f13 = some ⟨oc13, od13, .func (PySem.W.fnOf "_empty_hand" "Pile._empty_hand" (defArgs sEmp) (defBody sEmp) (defScope sEmp) .none kV13 dc13 pm13 an13 cd13 ct13), sl13⟩)
    (cF13 : PySem.W.codeIn K cd13 "Pile._empty_hand" = true)
    (kF13 : PySem.W.keepIn K (.ref f13) = true)
    (aF14 : PySem.W.findIn K (.ref C) "_add_lot" = some (some (.ref f14)))
    (iF14 : PySem.W.isFn K (.ref f14) = true)
    (lF14 : K.lookup f14 = some ⟨oc14, od14, .func (PySem.W.fnOf "_add_lot" "Pile._add_lot" (defArgs sAdd) (defBody sAdd) (defScope sAdd) .none kV14 dc14 pm14 an14 cd14 ct14), sl14⟩)
    (cF14 : PySem.W.codeIn K cd14 "Pile._add_lot" = true)
    (kF14 : PySem.W.keepIn K (.ref f14) = true)
    (aF15 : PySem.W.findIn K (.ref C) "lend" = some (some (.ref f15)))
    (iF15 : PySem.W.isFn K (.ref f15) = true)
    (lF15 : K.lookup f15 = some ⟨oc15, od15, .func (PySem.W.fnOf "lend" "Pile.lend" (defArgs sLend) (defBody sLend) (defScope sLend) .none kV15 dc15 pm15 an15 cd15 ct15), sl15⟩)
    (cF15 : PySem.W.codeIn K cd15 "Pile.lend" = true)
    (kF15 : PySem.W.keepIn K (.ref f15) = true)
    (aF16 : PySem.W.findIn K (.ref C) "call_back" = some (some (.ref f16)))
    (iF16 : PySem.W.isFn K (.ref f16) = true)
    (lF16 : K.lookup f16 = some ⟨oc16, od16, .func (PySem.W.fnOf "call_back" "Pile.call_back" (defArgs sCb) (defBody sCb) (defScope sCb) .none kV16 dc16 pm16 an16 cd16 ct16), sl16⟩)
    (cF16 : PySem.W.codeIn K cd16 "Pile.call_back" = true)
    (kF16 : PySem.W.keepIn K (.ref f16) = true)
    (aF17 : PySem.W.findIn K (.ref C) "end" = some (some (.ref f17)))
    (iF17 : PySem.W.isFn K (.ref f17) = true)
    (lF17 : K.lookup f17 = some ⟨oc17, od17, .func (PySem.W.fnOf "end" "Pile.end" (defArgs sFin) (defBody sFin) (defScope sFin) .none kV17 dc17 pm17 an17 cd17 ct17), sl17⟩)
    (cF17 : PySem.W.codeIn K cd17 "Pile.end" = true)
    (kF17 : PySem.W.keepIn K (.ref f17) = true)
    (aF18 : PySem.W.findIn K (.ref C) "merge" = some (some (.ref f18)))
    (iF18 : PySem.W.isFn K (.ref f18) = true)
    (lF18 : K.lookup f18 = some ⟨oc18, od18, .func (PySem.W.fnOf "merge" "Pile.merge" (defArgs sMrg) (defBody sMrg) (defScope sMrg) .none kV18 dc18 pm18 an18 cd18 ct18), sl18⟩)
    (cF18 : PySem.W.codeIn K cd18 "Pile.merge" = true)
    (kF18 : PySem.W.keepIn K (.ref f18) = true)
    (aF19 : PySem.W.findIn K (.ref C) "lots" = some (some (.ref f19)))
    (iF19 : PySem.W.isFn K (.ref f19) = true)
    (lF19 : K.lookup f19 = some ⟨oc19, od19, .func (PySem.W.fnOf "lots" "Pile.lots" (defArgs sLots) (defBody sLots) (defScope sLots) .none kV19 dc19 pm19 an19 cd19 ct19), sl19⟩)
    (cF19 : PySem.W.codeIn K cd19 "Pile.lots" = true)
    (kF19 : PySem.W.keepIn K (.ref f19) = true)
    (aF20 : PySem.W.findIn K (.ref C) "steps" = some (some (.ref f20)))
    (iF20 : PySem.W.isFn K (.ref f20) = true)
    (lF20 : K.lookup f20 = some ⟨oc20, od20, .func (PySem.W.fnOf "steps" "Pile.steps" (defArgs sSteps) (defBody sSteps) (defScope sSteps) .none kV20 dc20 pm20 an20 cd20 ct20), sl20⟩)
    (cF20 : PySem.W.codeIn K cd20 "Pile.steps" = true)
    (kF20 : PySem.W.keepIn K (.ref f20) = true)
    (aF21 : PySem.W.findIn K (.ref C) "hand" = some (some (.ref f21)))
    (iF21 : PySem.W.isFn K (.ref f21) = true)
    (lF21 : K.lookup f21 = some ⟨oc21, od21, .func (PySem.W.fnOf "hand" "Pile.hand" (defArgs sHand) (defBody sHand) (defScope sHand) .none kV21 dc21 pm21 an21 cd21 ct21), sl21⟩)
    (cF21 : PySem.W.codeIn K cd21 "Pile.hand" = true)
    (kF21 : PySem.W.keepIn K (.ref f21) = true)
    (aF22 : PySem.W.findIn K (.ref C) "told" = some (some (.ref f22)))
    (iF22 : PySem.W.isFn K (.ref f22) = true)
    (lF22 : K.lookup f22 = some ⟨oc22, od22, .func (PySem.W.fnOf "told" "Pile.told" (defArgs sTold) (defBody sTold) (defScope sTold) .none kV22 dc22 pm22 an22 cd22 ct22), sl22⟩)
    (cF22 : PySem.W.codeIn K cd22 "Pile.told" = true)
    (kF22 : PySem.W.keepIn K (.ref f22) = true)
    (pg : PySem.W.plainGet K C Str.empty = true)
    (hd : PySem.W.hasDictIn K C = true)
    (po : PySem.W.plainOver K C = true)
    (sa : PySem.W.findIn K (.ref C) "__setattr__" = some (some (.builtin "object.__setattr__")))
    (mk : PySem.W.makesIn K C = true)
    (kc : PySem.W.keepIn K (.ref C) = true)
    (n_most : PySem.W.findIn K (.ref C) "_most" = some none)
    (n_rows : PySem.W.findIn K (.ref C) "_rows" = some none)
    (n_lots : PySem.W.findIn K (.ref C) "_lots" = some none)
    (n_steps : PySem.W.findIn K (.ref C) "_steps" = some none)
    (n_ended : PySem.W.findIn K (.ref C) "_ended" = some none)
    (aC0 : PySem.W.nsIn K mainGlobals "Done" = some (some (.ref C0)))
    (xC0 : K.lookup C0 = some (excClassObj nm0 q0 C0 N0 bs0 (.ref C6 :: vTail) true sn0 su0 ab0 co0 dd0 a0_0 a0_1 a0_2 a0_3 a0_5 "ValueError.__new__"))
    (b1C0 : PySem.W.findIn K (.ref C0) "__getattribute__" = some (some (.builtin "BaseException.__getattribute__")))
    (b2C0 : PySem.W.findIn K (.ref C0) "__getattr__" = some none)
    (b3C0 : PySem.W.subIn K (.ref C0) (.type "BaseException") = some true)
    (b4C0 : PySem.W.hasDictIn K C0 = true)
    (b5C0 : PySem.W.findIn K (.ref C0) "__class__" = some (some (.builtin "object.__class__")))
    (b6C0 : PySem.W.mroIn K C0 (.type "object") = some true)
    (b7C0 : PySem.W.findIn K (.ref C0) "__setattr__" = some (some (.builtin "object.__setattr__")))
    (b8C0 : PySem.W.typeIn K (.ref C0) = some (.type "type"))
    (b9C0 : PySem.W.keepIn K (.ref C0) = true)
    (iC0 : PySem.W.findIn K (.ref C0) "__init__" = some (some (.builtin "ValueError.__init__")))
    (aC1 : PySem.W.nsIn K mainGlobals "NotDone" = some (some (.ref C1)))
    (xC1 : K.lookup C1 = some (excClassObj nm1 q1 C1 N1 bs1 (.ref C6 :: vTail) true sn1 su1 ab1 co1 dd1 a1_0 a1_1 a1_2 a1_3 a1_5 "ValueError.__new__"))
    (b1C1 : PySem.W.findIn K (.ref C1) "__getattribute__" = some (some (.builtin "BaseException.__getattribute__")))
    (b2C1 : PySem.W.findIn K (.ref C1) "__getattr__" = some none)
    (b3C1 : PySem.W.subIn K (.ref C1) (.type "BaseException") = some true)
    (b4C1 : PySem.W.hasDictIn K C1 = true)
    (b5C1 : PySem.W.findIn K (.ref C1) "__class__" = some (some (.builtin "object.__class__")))
    (b6C1 : PySem.W.mroIn K C1 (.type "object") = some true)
    (b7C1 : PySem.W.findIn K (.ref C1) "__setattr__" = some (some (.builtin "object.__setattr__")))
    (b8C1 : PySem.W.typeIn K (.ref C1) = some (.type "type"))
    (b9C1 : PySem.W.keepIn K (.ref C1) = true)
    (iC1 : PySem.W.findIn K (.ref C1) "__init__" = some (some (.builtin "ValueError.__init__")))
    (aC2 : PySem.W.nsIn K mainGlobals "NoRoom" = some (some (.ref C2)))
    (xC2 : K.lookup C2 = some (excClassObj nm2 q2 C2 N2 bs2 (.ref C6 :: vTail) true sn2 su2 ab2 co2 dd2 a2_0 a2_1 a2_2 a2_3 a2_5 "ValueError.__new__"))
    (b1C2 : PySem.W.findIn K (.ref C2) "__getattribute__" = some (some (.builtin "BaseException.__getattribute__")))
    (b2C2 : PySem.W.findIn K (.ref C2) "__getattr__" = some none)
    (b3C2 : PySem.W.subIn K (.ref C2) (.type "BaseException") = some true)
    (b4C2 : PySem.W.hasDictIn K C2 = true)
    (b5C2 : PySem.W.findIn K (.ref C2) "__class__" = some (some (.builtin "object.__class__")))
    (b6C2 : PySem.W.mroIn K C2 (.type "object") = some true)
    (b7C2 : PySem.W.findIn K (.ref C2) "__setattr__" = some (some (.builtin "object.__setattr__")))
    (b8C2 : PySem.W.typeIn K (.ref C2) = some (.type "type"))
    (b9C2 : PySem.W.keepIn K (.ref C2) = true)
    (iC2 : PySem.W.findIn K (.ref C2) "__init__" = some (some (.builtin "ValueError.__init__")))
    (aC3 : PySem.W.nsIn K mainGlobals "Busy" = some (some (.ref C3)))
    (xC3 : K.lookup C3 = some (excClassObj nm3 q3 C3 N3 bs3 (.ref C6 :: vTail) true sn3 su3 ab3 co3 dd3 a3_0 a3_1 a3_2 a3_3 a3_5 "ValueError.__new__"))
    (b1C3 : PySem.W.findIn K (.ref C3) "__getattribute__" = some (some (.builtin "BaseException.__getattribute__")))
    (b2C3 : PySem.W.findIn K (.ref C3) "__getattr__" = some none)
    (b3C3 : PySem.W.subIn K (.ref C3) (.type "BaseException") = some true)
    (b4C3 : PySem.W.hasDictIn K C3 = true)
    (b5C3 : PySem.W.findIn K (.ref C3) "__class__" = some (some (.builtin "object.__class__")))
    (b6C3 : PySem.W.mroIn K C3 (.type "object") = some true)
    (b7C3 : PySem.W.findIn K (.ref C3) "__setattr__" = some (some (.builtin "object.__setattr__")))
    (b8C3 : PySem.W.typeIn K (.ref C3) = some (.type "type"))
    (b9C3 : PySem.W.keepIn K (.ref C3) = true)
    (aC4 : PySem.W.nsIn K mainGlobals "NoDeed" = some (some (.ref C4)))
    (xC4 : K.lookup C4 = some (excClassObj nm4 q4 C4 N4 bs4 (.ref C6 :: vTail) true sn4 su4 ab4 co4 dd4 a4_0 a4_1 a4_2 a4_3 a4_5 "ValueError.__new__"))
    (b1C4 : PySem.W.findIn K (.ref C4) "__getattribute__" = some (some (.builtin "BaseException.__getattribute__")))
    (b2C4 : PySem.W.findIn K (.ref C4) "__getattr__" = some none)
    (b3C4 : PySem.W.subIn K (.ref C4) (.type "BaseException") = some true)
    (b4C4 : PySem.W.hasDictIn K C4 = true)
    (b5C4 : PySem.W.findIn K (.ref C4) "__class__" = some (some (.builtin "object.__class__")))
    (b6C4 : PySem.W.mroIn K C4 (.type "object") = some true)
    (b7C4 : PySem.W.findIn K (.ref C4) "__setattr__" = some (some (.builtin "object.__setattr__")))
    (b8C4 : PySem.W.typeIn K (.ref C4) = some (.type "type"))
    (b9C4 : PySem.W.keepIn K (.ref C4) = true)
    (aC5 : PySem.W.nsIn K mainGlobals "NoStand" = some (some (.ref C5)))
    (xC5 : K.lookup C5 = some (excClassObj nm5 q5 C5 N5 bs5 (.ref C6 :: vTail) true sn5 su5 ab5 co5 dd5 a5_0 a5_1 a5_2 a5_3 a5_5 "ValueError.__new__"))
    (b1C5 : PySem.W.findIn K (.ref C5) "__getattribute__" = some (some (.builtin "BaseException.__getattribute__")))
    (b2C5 : PySem.W.findIn K (.ref C5) "__getattr__" = some none)
    (b3C5 : PySem.W.subIn K (.ref C5) (.type "BaseException") = some true)
    (b4C5 : PySem.W.hasDictIn K C5 = true)
    (b5C5 : PySem.W.findIn K (.ref C5) "__class__" = some (some (.builtin "object.__class__")))
    (b6C5 : PySem.W.mroIn K C5 (.type "object") = some true)
    (b7C5 : PySem.W.findIn K (.ref C5) "__setattr__" = some (some (.builtin "object.__setattr__")))
    (b8C5 : PySem.W.typeIn K (.ref C5) = some (.type "type"))
    (b9C5 : PySem.W.keepIn K (.ref C5) = true)
    (aC6 : PySem.W.nsIn K mainGlobals "PlanError" = some (some (.ref C6)))
    (xC6 : K.lookup C6 = some (excClassObj nm6 q6 C6 N6 bs6 (vTail) true sn6 su6 ab6 co6 dd6 a6_0 a6_1 a6_2 a6_3 a6_5 "ValueError.__new__"))
    (b1C6 : PySem.W.findIn K (.ref C6) "__getattribute__" = some (some (.builtin "BaseException.__getattribute__")))
    (b2C6 : PySem.W.findIn K (.ref C6) "__getattr__" = some none)
    (b3C6 : PySem.W.subIn K (.ref C6) (.type "BaseException") = some true)
    (b4C6 : PySem.W.hasDictIn K C6 = true)
    (b5C6 : PySem.W.findIn K (.ref C6) "__class__" = some (some (.builtin "object.__class__")))
    (b6C6 : PySem.W.mroIn K C6 (.type "object") = some true)
    (b7C6 : PySem.W.findIn K (.ref C6) "__setattr__" = some (some (.builtin "object.__setattr__")))
    (b8C6 : PySem.W.typeIn K (.ref C6) = some (.type "type"))
    (b9C6 : PySem.W.keepIn K (.ref C6) = true)
    (vb1 : PySem.W.specialIn K (.builtin "object.__class__") "__get__" = some (some (.builtin "getset_descriptor.__get__")))
    (vb2 : PySem.W.takesIn K (.builtin "object.__class__") = some true)
    (z_min : PySem.W.nsIn K mainGlobals "min" = some none)
    (z_enumerate : PySem.W.nsIn K mainGlobals "enumerate" = some none)
    (z_len : PySem.W.nsIn K mainGlobals "len" = some none)
    (z_sorted : PySem.W.nsIn K mainGlobals "sorted" = some none)
    (z_max : PySem.W.nsIn K mainGlobals "max" = some none)
    (z_range : PySem.W.nsIn K mainGlobals "range" = some none)
    (z_repr : PySem.W.nsIn K mainGlobals "repr" = some none)
    (z_int : PySem.W.nsIn K mainGlobals "int" = some none)
    (z_list : PySem.W.nsIn K mainGlobals "list" = some none)
    (z_abs : PySem.W.nsIn K mainGlobals "abs" = some none)
    (z_sum : PySem.W.nsIn K mainGlobals "sum" = some none)
    (z_ValueError : PySem.W.nsIn K mainGlobals "ValueError" = some none)
    (z_isinstance : PySem.W.nsIn K mainGlobals "isinstance" = some none)
    (apart : ([C0, C1, C2, C3, C4, C5, C6] : List Addr).Nodup) :
    ∃ (fd : FuncData) (cs : List (Addr × Addr)), (∀ p ∈ cs, TabIn K mg ["_law_hands_right"] p) ∧ (∀ (s : Shared) (v : Value), BindsTo s fd ⟨[v], []⟩ [("_law_script", v)]) ∧
      ∀ base : Heap, K.In base → base.Ns mainGlobals mg → (∀ p ∈ cs, TabB base mg p.1 p.2) → FnG l.prog w K mg base CX0 7 fa fd ["_law_script"] (spLaw K cs) := by
  have e := hfa.symm.trans (PySem.W.mg_of X G aF10)
  cases e
  have F0 := fun_mk (st := sPen) lF0 cF0 kF0
  have b0 := F0.binds (ps := ["_law_script"]) fun _ _ _ _ _ _ us hl => match us, hl with | [_], _ => rfl
  have m0 := PySem.W.mg_of X G aF0
  have F1 := fun_mk (st := sDraw) lF1 cF1 kF1
  have b1 := F1.binds (ps := ["_law_pen_here", "_law_many"]) fun _ _ _ _ _ _ us hl => match us, hl with | [_, _], _ => rfl
  have m1 := PySem.W.mg_of X G aF1
  have F2 := fun_mk (st := sRow) lF2 cF2 kF2
  have b2 := F2.binds (ps := ["_law_pen_here", "_law_form"]) fun _ _ _ _ _ _ us hl => match us, hl with | [_, _], _ => rfl
  have m2 := PySem.W.mg_of X G aF2
  have F3 := fun_mk (st := sHeard) lF3 cF3 kF3
  have b3 := F3.binds (ps := ["_law_ask"]) fun _ _ _ _ _ _ us hl => match us, hl with | [_], _ => rfl
  have m3 := PySem.W.mg_of X G aF3
  have F4 := fun_mk (st := sLt) lF4 cF4 kF4
  have b4 := F4.binds (ps := ["_law_many", "_law_hand"]) fun _ _ _ _ _ _ us hl => match us, hl with | [_, _], _ => rfl
  have m4 := PySem.W.mg_of X G aF4
  have F5 := fun_mk (st := sMg) lF5 cF5 kF5
  have b5 := F5.binds (ps := ["_law_lots_here", "_law_hand"]) fun _ _ _ _ _ _ us hl => match us, hl with | [_, _], _ => rfl
  have m5 := PySem.W.mg_of X G aF5
  have F6 := fun_mk (st := sCt) lF6 cF6 kF6
  have b6 := F6.binds (ps := ["_law_pile", "_law_most"]) fun _ _ _ _ _ _ us hl => match us, hl with | [_, _], _ => rfl
  have m6 := PySem.W.mg_of X G aF6
  have F7 := fun_mk (st := sEn) lF7 cF7 kF7
  have b7 := F7.binds (ps := ["_law_rows", "_law_hands"]) fun _ _ _ _ _ _ us hl => match us, hl with | [_, _], _ => rfl
  have m7 := PySem.W.mg_of X G aF7
  have F8 := fun_mk (st := sLn) lF8 cF8 kF8
  have b8 := F8.binds (ps := ["_law_pile", "_law_lots_here", "_law_many"]) fun _ _ _ _ _ _ us hl => match us, hl with | [_, _, _], _ => rfl
  have m8 := PySem.W.mg_of X G aF8
  have F9 := fun_mk (st := sHR) lF9 cF9 kF9
  have Fc9 : FunC K "_law_hands_right" "_law_hands_right" sHR f9 _ cc1 := ⟨⟨_, _, _, _, _, _, _, _, rfl, lF9, cF9⟩, kF9⟩
  have b9 := F9.binds (ps := ["_law_rows", "_law_hands"]) fun _ _ _ _ _ _ us hl => match us, hl with | [_, _], _ => rfl
  have m9 := PySem.W.mg_of X G aF9
  have F10 := fun_mk (st := sLaw) lF10 cF10 kF10
  have m10 := PySem.W.mg_of X G aF10
  have F11 := fun_mk (st := sInit) lF11 cF11 kF11
  have b11 := F11.binds (ps := ["self", "hand"]) fun _ _ _ _ _ _ us hl => match us, hl with | [_, _], _ => rfl
  have m11 : Meth K C "__init__" f11 := ⟨aF11, iF11, kF11⟩
  have F12 := fun_mk (st := sPut) lF12 cF12 kF12
  have b12 := F12.binds (ps := ["self", "row"]) fun _ _ _ _ _ _ us hl => match us, hl with | [_, _], _ => rfl
  have m12 : Meth K C "put" f12 := ⟨aF12, iF12, kF12⟩
  have F13 := fun_mk (st := sEmp) lF13 cF13 kF13
  have b13 := F13.binds (ps := ["self"]) fun _ _ _ _ _ _ us hl => match us, hl with | [_], _ => rfl
  have m13 : Meth K C "_empty_hand" f13 := ⟨aF13, iF13, kF13⟩
  have F14 := fun_mk (st := sAdd) lF14 cF14 kF14
  have b14 := F14.binds (ps := ["self", "rows"]) fun _ _ _ _ _ _ us hl => match us, hl with | [_, _], _ => rfl
  have m14 : Meth K C "_add_lot" f14 := ⟨aF14, iF14, kF14⟩
  have F15 := fun_mk (st := sLend) lF15 cF15 kF15
  have b15 := F15.binds (ps := ["self", "n"]) fun _ _ _ _ _ _ us hl => match us, hl with | [_, _], _ => rfl
  have m15 : Meth K C "lend" f15 := ⟨aF15, iF15, kF15⟩
  have F16 := fun_mk (st := sCb) lF16 cF16 kF16
  have b16 := F16.binds (ps := ["self", "n"]) fun _ _ _ _ _ _ us hl => match us, hl with | [_, _], _ => rfl
  have m16 : Meth K C "call_back" f16 := ⟨aF16, iF16, kF16⟩
  have F17 := fun_mk (st := sFin) lF17 cF17 kF17
  have b17 := F17.binds (ps := ["self"]) fun _ _ _ _ _ _ us hl => match us, hl with | [_], _ => rfl
  have m17 : Meth K C "end" f17 := ⟨aF17, iF17, kF17⟩
  have F18 := fun_mk (st := sMrg) lF18 cF18 kF18
  have b18 := F18.binds (ps := ["self"]) fun _ _ _ _ _ _ us hl => match us, hl with | [_], _ => rfl
  have m18 : Meth K C "merge" f18 := ⟨aF18, iF18, kF18⟩
  have F19 := fun_mk (st := sLots) lF19 cF19 kF19
  have b19 := F19.binds (ps := ["self"]) fun _ _ _ _ _ _ us hl => match us, hl with | [_], _ => rfl
  have m19 : Meth K C "lots" f19 := ⟨aF19, iF19, kF19⟩
  have F20 := fun_mk (st := sSteps) lF20 cF20 kF20
  have b20 := F20.binds (ps := ["self"]) fun _ _ _ _ _ _ us hl => match us, hl with | [_], _ => rfl
  have m20 : Meth K C "steps" f20 := ⟨aF20, iF20, kF20⟩
  have F21 := fun_mk (st := sHand) lF21 cF21 kF21
  have b21 := F21.binds (ps := ["self"]) fun _ _ _ _ _ _ us hl => match us, hl with | [_], _ => rfl
  have m21 : Meth K C "hand" f21 := ⟨aF21, iF21, kF21⟩
  have F22 := fun_mk (st := sTold) lF22 cF22 kF22
  have b22 := F22.binds (ps := ["self"]) fun _ _ _ _ _ _ us hl => match us, hl with | [_], _ => rfl
  have m22 : Meth K C "told" f22 := ⟨aF22, iF22, kF22⟩
  have y_min := PySem.W.mg_none_of X G z_min
  have y_enumerate := PySem.W.mg_none_of X G z_enumerate
  have y_len := PySem.W.mg_none_of X G z_len
  have y_sorted := PySem.W.mg_none_of X G z_sorted
  have y_max := PySem.W.mg_none_of X G z_max
  have y_range := PySem.W.mg_none_of X G z_range
  have y_repr := PySem.W.mg_none_of X G z_repr
  have y_int := PySem.W.mg_none_of X G z_int
  have y_list := PySem.W.mg_none_of X G z_list
  have y_abs := PySem.W.mg_none_of X G z_abs
  have y_sum := PySem.W.mg_none_of X G z_sum
  have y_ValueError := PySem.W.mg_none_of X G z_ValueError
  have y_isinstance := PySem.W.mg_none_of X G z_isinstance
  have p0 : ClP K C0 := ⟨⟨b1C0, b2C0, b3C0, b4C0, b5C0, b6C0⟩, b7C0, b8C0, b9C0, some_of xC0⟩
  have p1 : ClP K C1 := ⟨⟨b1C1, b2C1, b3C1, b4C1, b5C1, b6C1⟩, b7C1, b8C1, b9C1, some_of xC1⟩
  have p2 : ClP K C2 := ⟨⟨b1C2, b2C2, b3C2, b4C2, b5C2, b6C2⟩, b7C2, b8C2, b9C2, some_of xC2⟩
  have p3 : ClP K C3 := ⟨⟨b1C3, b2C3, b3C3, b4C3, b5C3, b6C3⟩, b7C3, b8C3, b9C3, some_of xC3⟩
  have p4 : ClP K C4 := ⟨⟨b1C4, b2C4, b3C4, b4C4, b5C4, b6C4⟩, b7C4, b8C4, b9C4, some_of xC4⟩
  have p5 : ClP K C5 := ⟨⟨b1C5, b2C5, b3C5, b4C5, b5C5, b6C5⟩, b7C5, b8C5, b9C5, some_of xC5⟩
  have p6 : ClP K C6 := ⟨⟨b1C6, b2C6, b3C6, b4C6, b5C6, b6C6⟩, b7C6, b8C6, b9C6, some_of xC6⟩
  have o0 := oex_of xC0 (refs_v C6).1 p0
  have o1 := oex_of xC1 (refs_v C6).1 p1
  have o2 := oex_of xC2 (refs_v C6).1 p2
  have inj : ∀ i j : Nat, i < 7 → j < 7 → (fun i => ([C0, C1, C2, C3, C4, C5, C6] : List Addr).getD i 0) i = (fun i => ([C0, C1, C2, C3, C4, C5, C6] : List Addr).getD i 0) j → i = j := by
    intro i j hi hj e
    have e' : ([C0, C1, C2, C3, C4, C5, C6] : List Addr)[i]'hi = [C0, C1, C2, C3, C4, C5, C6][j]'hj := by
      have g : ∀ k (hk : k < 7), ([C0, C1, C2, C3, C4, C5, C6] : List Addr).getD k 0 = [C0, C1, C2, C3, C4, C5, C6][k]'hk := fun k hk => by
        rw [List.getD_eq_getElem?_getD, List.getElem?_eq_getElem hk]
        rfl
      rw [← g i hi, ← g j hj]
      exact e
    exact (List.getElem_inj apart).mp e'
  have all7 : ∀ i : Nat, i < 7 → ClP K ((fun i => ([C0, C1, C2, C3, C4, C5, C6] : List Addr).getD i 0) i) := by
    intro i hi
    have hh : i = 0 ∨ i = 1 ∨ i = 2 ∨ i = 3 ∨ i = 4 ∨ i = 5 ∨ i = 6 := by omega
    rcases hh with rfl | rfl | rfl | rfl | rfl | rfl | rfl
    · exact p0
    · exact p1
    · exact p2
    · exact p3
    · exact p4
    · exact p5
    · exact p6
  have mro6 : ∀ i : Nat, i < 6 → ∃ cd, PySem.W.clsIn K ((fun i => ([C0, C1, C2, C3, C4, C5, C6] : List Addr).getD i 0) i) = some cd ∧ cd.mro = [.ref ((fun i => ([C0, C1, C2, C3, C4, C5, C6] : List Addr).getD i 0) i), .ref ((fun i => ([C0, C1, C2, C3, C4, C5, C6] : List Addr).getD i 0) 6), .type "ValueError", .type "Exception", .type "BaseException", .type "object"] := by
    intro i hi
    have hh : i = 0 ∨ i = 1 ∨ i = 2 ∨ i = 3 ∨ i = 4 ∨ i = 5 := by omega
    rcases hh with rfl | rfl | rfl | rfl | rfl | rfl
    · exact cls_of xC0
    · exact cls_of xC1
    · exact cls_of xC2
    · exact cls_of xC3
    · exact cls_of xC4
    · exact cls_of xC5
  have c42 : Cls42 K mg (fun i => ([C0, C1, C2, C3, C4, C5, C6] : List Addr).getD i 0) := ⟨PySem.W.mg_of X G aC0, PySem.W.mg_of X G aC1, PySem.W.mg_of X G aC2, PySem.W.mg_of X G aC3, PySem.W.mg_of X G aC4, PySem.W.mg_of X G aC5, PySem.W.mg_of X G aC6, inj, fun i hi => (all7 i hi).ev, fun i hi => (all7 i hi).tyb, mro6, ⟨vb1, vb2⟩, y_isinstance⟩
  have T : Txt K mg C (fun i => ([C0, C1, C2, C3, C4, C5, C6] : List Addr).getD i 0) := ⟨⟨pg, hd, po, sa⟩, n_most, n_rows, n_lots, n_steps, n_ended, PySem.W.mg_of X G aC, y_len, y_sorted, y_max, by
    intro i hi
    have hh : i = 0 ∨ i = 1 ∨ i = 2 := by omega
    rcases hh with rfl | rfl | rfl
    · exact ⟨o0, iC0⟩
    · exact ⟨o1, iC1⟩
    · exact ⟨o2, iC2⟩⟩
  refine ⟨PySem.W.fnOf "law" "law" (defArgs sLaw) (defBody sLaw) (defScope sLaw) .none kV10 dc10 pm10 an10 cd10 ct10, [(cc1, P1)], ?_, fun s v => .of_eq rfl, fun base _ _ TB => ?_⟩
  · intro p hp
    simp only [List.mem_cons, List.not_mem_nil, or_false] at hp
    subst hp
    exact ⟨"_law_hands_right", f9, _, _, _, _, _, _, _, _, by simp, m9, lF9, rfl, lK1, pK1, nK1⟩
  have MP : Mt l.prog w K mg base C "put" ["self", "row"] (L2.CX l.prog w) 3 (spPut K C (fun i => ([C0, C1, C2, C3, C4, C5, C6] : List Addr).getD i 0)) := ⟨_, _, m12, ok_put (P := l.prog) (w := w) (base := base) F12 T c42 F14 b14 m14 F13 b13 m13, b12⟩
  have ML : Mt l.prog w K mg base C "lend" ["self", "n"] CX0 1 (spLend K C) := ⟨_, _, m15, ok_lend (P := l.prog) (w := w) (base := base) F15 T, b15⟩
  have MC : Mt l.prog w K mg base C "call_back" ["self", "n"] (L2.CX l.prog w) 3 (spCb K C (fun i => ([C0, C1, C2, C3, C4, C5, C6] : List Addr).getD i 0)) := ⟨_, _, m16, ok_cb (P := l.prog) (w := w) (base := base) F16 T c42 F14 b14 m14 F13 b13 m13, b16⟩
  have MF : Mt l.prog w K mg base C "end" ["self"] (L2.CX l.prog w) 3 (spFin K C (fun i => ([C0, C1, C2, C3, C4, C5, C6] : List Addr).getD i 0)) := ⟨_, _, m17, ok_fin (P := l.prog) (w := w) (base := base) F17 T c42 F14 b14 m14 F13 b13 m13, b17⟩
  have MM : Mt l.prog w K mg base C "merge" ["self"] (L2.CX l.prog w) 2 (spMrg K C (fun i => ([C0, C1, C2, C3, C4, C5, C6] : List Addr).getD i 0)) := ⟨_, _, m18, ok_mrg (P := l.prog) (w := w) (base := base) F18 T c42 F14 b14 m14, b18⟩
  have MN : Mt l.prog w K mg base C "lots" ["self"] CX0 1 (spLots K C) := ⟨_, _, m19, ok_lots (P := l.prog) (w := w) (base := base) F19 T, b19⟩
  have MS : Mt l.prog w K mg base C "steps" ["self"] CX0 1 (spSteps K C) := ⟨_, _, m20, ok_steps (P := l.prog) (w := w) (base := base) F20 T, b20⟩
  have MA : Mt l.prog w K mg base C "hand" ["self"] CX0 1 (spHand K C) := ⟨_, _, m21, ok_hand (P := l.prog) (w := w) (base := base) F21 T, b21⟩
  have MT : Mt l.prog w K mg base C "told" ["self"] (L2.CX l.prog w) 1 (spTold K C (fun i => ([C0, C1, C2, C3, C4, C5, C6] : List Addr).getD i 0)) := ⟨_, _, m22, ok_told (P := l.prog) (w := w) (base := base) F22 T c42, b22⟩
  have gPen := ok_pen (P := l.prog) (w := w) (base := base) F0 y_list
  have gDraw := ok_draw (P := l.prog) (w := w) (base := base) (K := K) (mg := mg) F1 y_len y_abs y_int
  have gRow := ok_row (P := l.prog) (w := w) (base := base) F2 y_range y_int F1 gDraw b1 m1
  have gLt := ok_lt (P := l.prog) (w := w) (base := base) (K := K) (mg := mg) F4
  have gMg := ok_mg (P := l.prog) (w := w) (base := base) (K := K) (mg := mg) F5 y_max
  have gCt := ok_ct (P := l.prog) (w := w) (base := base) F6 y_range T MN MM
  have gEn := ok_en (P := l.prog) (w := w) (base := base) F7 T ⟨mk, aF11, iF11, kc⟩ F11 b11 MP MF
  have gLn := ok_ln (P := l.prog) (w := w) (base := base) F8 y_max y_int y_min T F6 gCt m6 b6 MA ML MN MS
  have gHR := ok_hr (c1 := cc1) (P1 := P1) Fc9 (TB (cc1, P1) (by simp)) y_sum y_ValueError y_repr y_min y_enumerate T c42 F3 m3 b3 F7 gEn m7 b7 F6 gCt m6 b6 F4 gLt m4 b4 F5 gMg m5 b5 F8 gLn m8 b8 MN MS MC MM MT
  exact ok_law (c1 := cc1) (P1 := P1) F10 y_range y_repr y_min T F0 gPen m0 b0 F1 gDraw m1 b1 F2 gRow m2 b2 F9 gHR m9 b9 F7 gEn m7 b7 F6 gCt m6 b6 MN MS MT
end K42
open PySem PySem.W PyProof.Rows
set_option maxRecDepth 100000 in
set_option maxHeartbeats 0 in
theorem PySem.Challenge.cw_plansamid_k42_whole_how_many_mergings_holds : PySem.Challenge.rw_plansamid_k42_whole_how_many_mergings.Holds := by
  w_on; o_law; k_head; (case hw => w_witness2)
  k_fill
  refine Gd.walkT (l := PySem.Challenge.rw_plansamid_k42_whole_how_many_mergings) (m := 63) (n := 7) (x := "_law_script") (ys := ["_law_hands_right"]) (sp := K42.spLaw) rfl (by decide) rfl ⟨rfl, by decide, by decide⟩ (fun w h Y => PySem.W.km_in_of Y) ?H ?F ?S
  case H => rfl
  case S =>
    intro K cs H a ns h1 _ h3 h4
    exact ⟨a, ns, rfl, h4, h1, h3, fun _ => rfl⟩
  case F =>
    intro w mg fa h KX G hmg
    refine' K42.all_mk KX G hmg ?aF0 ?lF0 ?cF0 ?kF0 ?aF1 ?lF1 ?cF1 ?kF1 ?aF2 ?lF2 ?cF2 ?kF2 ?aF3 ?lF3 ?cF3 ?kF3 ?aF4 ?lF4 ?cF4 ?kF4 ?aF5 ?lF5 ?cF5 ?kF5 ?aF6 ?lF6 ?cF6 ?kF6 ?aF7 ?lF7 ?cF7 ?kF7 ?aF8 ?lF8 ?cF8 ?kF8 ?aF9 ?lF9 ?cF9 ?kF9 ?aF10 ?lF10 ?cF10 ?kF10 ?lK1 ?pK1 ?nK1 ?aC ?aF11 ?iF11 ?lF11 ?cF11 ?kF11 ?aF12 ?iF12 ?lF12 ?cF12 ?kF12 ?aF13 ?iF13 ?lF13 ?cF13 ?kF13 ?aF14 ?iF14 ?lF14 ?cF14 ?kF14 ?aF15 ?iF15 ?lF15 ?cF15 ?kF15 ?aF16 ?iF16 ?lF16 ?cF16 ?kF16 ?aF17 ?iF17 ?lF17 ?cF17 ?kF17 ?aF18 ?iF18 ?lF18 ?cF18 ?kF18 ?aF19 ?iF19 ?lF19 ?cF19 ?kF19 ?aF20 ?iF20 ?lF20 ?cF20 ?kF20 ?aF21 ?iF21 ?lF21 ?cF21 ?kF21 ?aF22 ?iF22 ?lF22 ?cF22 ?kF22 ?pg ?hd ?po ?sa ?mk ?kc ?n_most ?n_rows ?n_lots ?n_steps ?n_ended ?aC0 ?xC0 ?b1C0 ?b2C0 ?b3C0 ?b4C0 ?b5C0 ?b6C0 ?b7C0 ?b8C0 ?b9C0 ?iC0 ?aC1 ?xC1 ?b1C1 ?b2C1 ?b3C1 ?b4C1 ?b5C1 ?b6C1 ?b7C1 ?b8C1 ?b9C1 ?iC1 ?aC2 ?xC2 ?b1C2 ?b2C2 ?b3C2 ?b4C2 ?b5C2 ?b6C2 ?b7C2 ?b8C2 ?b9C2 ?iC2 ?aC3 ?xC3 ?b1C3 ?b2C3 ?b3C3 ?b4C3 ?b5C3 ?b6C3 ?b7C3 ?b8C3 ?b9C3 ?aC4 ?xC4 ?b1C4 ?b2C4 ?b3C4 ?b4C4 ?b5C4 ?b6C4 ?b7C4 ?b8C4 ?b9C4 ?aC5 ?xC5 ?b1C5 ?b2C5 ?b3C5 ?b4C5 ?b5C5 ?b6C5 ?b7C5 ?b8C5 ?b9C5 ?aC6 ?xC6 ?b1C6 ?b2C6 ?b3C6 ?b4C6 ?b5C6 ?b6C6 ?b7C6 ?b8C6 ?b9C6 ?vb1 ?vb2 ?z_min ?z_enumerate ?z_len ?z_sorted ?z_max ?z_range ?z_repr ?z_int ?z_list ?z_abs ?z_sum ?z_ValueError ?z_isinstance ?apart
    (case aF0 => k_is)
    (case lF0 => k_is)
    (case cF0 => k_is)
    (case kF0 => k_is)
    (case aF1 => k_is)
    (case lF1 => k_is)
    (case cF1 => k_is)
    (case kF1 => k_is)
    (case aF2 => k_is)
    (case lF2 => k_is)
    (case cF2 => k_is)
    (case kF2 => k_is)
    (case aF3 => k_is)
    (case lF3 => k_is)
    (case cF3 => k_is)
    (case kF3 => k_is)
    (case aF4 => k_is)
    (case lF4 => k_is)
    (case cF4 => k_is)
    (case kF4 => k_is)
    (case aF5 => k_is)
    (case lF5 => k_is)
    (case cF5 => k_is)
    (case kF5 => k_is)
    (case aF6 => k_is)
    (case lF6 => k_is)
    (case cF6 => k_is)
    (case kF6 => k_is)
    (case aF7 => k_is)
    (case lF7 => k_is)
    (case cF7 => k_is)
    (case kF7 => k_is)
    (case aF8 => k_is)
    (case lF8 => k_is)
    (case cF8 => k_is)
    (case kF8 => k_is)
    (case aF9 => k_is)
    (case lF9 => k_is)
    (case cF9 => k_is)
    (case kF9 => k_is)
    (case aF10 => k_is)
    (case lF10 => k_is)
    (case cF10 => k_is)
    (case kF10 => k_is)
    (case lK1 => k_is)
    (case pK1 => rfl)
    (case nK1 => rfl)
    (case aC => k_is)
    (case aF11 => k_is)
    (case iF11 => k_is)
    (case lF11 => k_is)
    (case cF11 => k_is)
    (case kF11 => k_is)
    (case aF12 => k_is)
    (case iF12 => k_is)
    (case lF12 => k_is)
    (case cF12 => k_is)
    (case kF12 => k_is)
    (case aF13 => k_is)
    (case iF13 => k_is)
    (case lF13 => k_is)
    (case cF13 => k_is)
    (case kF13 => k_is)
    (case aF14 => k_is)
    (case iF14 => k_is)
    (case lF14 => k_is)
    (case cF14 => k_is)
    (case kF14 => k_is)
    (case aF15 => k_is)
    (case iF15 => k_is)
    (case lF15 => k_is)
    (case cF15 => k_is)
    (case kF15 => k_is)
    (case aF16 => k_is)
    (case iF16 => k_is)
    (case lF16 => k_is)
    (case cF16 => k_is)
    (case kF16 => k_is)
    (case aF17 => k_is)
    (case iF17 => k_is)
    (case lF17 => k_is)
    (case cF17 => k_is)
    (case kF17 => k_is)
    (case aF18 => k_is)
    (case iF18 => k_is)
    (case lF18 => k_is)
    (case cF18 => k_is)
    (case kF18 => k_is)
    (case aF19 => k_is)
    (case iF19 => k_is)
    (case lF19 => k_is)
    (case cF19 => k_is)
    (case kF19 => k_is)
    (case aF20 => k_is)
    (case iF20 => k_is)
    (case lF20 => k_is)
    (case cF20 => k_is)
    (case kF20 => k_is)
    (case aF21 => k_is)
    (case iF21 => k_is)
    (case lF21 => k_is)
    (case cF21 => k_is)
    (case kF21 => k_is)
    (case aF22 => k_is)
    (case iF22 => k_is)
    (case lF22 => k_is)
    (case cF22 => k_is)
    (case kF22 => k_is)
    (case pg => k_is)
    (case hd => k_is)
    (case po => k_is)
    (case sa => k_is)
    (case mk => k_is)
    (case kc => k_is)
    (case n_most => k_is)
    (case n_rows => k_is)
    (case n_lots => k_is)
    (case n_steps => k_is)
    (case n_ended => k_is)
    (case aC0 => k_is)
    (case xC0 => k_is)
    (case b1C0 => k_is)
    (case b2C0 => k_is)
    (case b3C0 => k_is)
    (case b4C0 => k_is)
    (case b5C0 => k_is)
    (case b6C0 => k_is)
    (case b7C0 => k_is)
    (case b8C0 => k_is)
    (case b9C0 => k_is)
    (case iC0 => k_is)
    (case aC1 => k_is)
    (case xC1 => k_is)
    (case b1C1 => k_is)
    (case b2C1 => k_is)
    (case b3C1 => k_is)
    (case b4C1 => k_is)
    (case b5C1 => k_is)
    (case b6C1 => k_is)
    (case b7C1 => k_is)
    (case b8C1 => k_is)
    (case b9C1 => k_is)
    (case iC1 => k_is)
    (case aC2 => k_is)
    (case xC2 => k_is)
    (case b1C2 => k_is)
    (case b2C2 => k_is)
    (case b3C2 => k_is)
    (case b4C2 => k_is)
    (case b5C2 => k_is)
    (case b6C2 => k_is)
    (case b7C2 => k_is)
    (case b8C2 => k_is)
    (case b9C2 => k_is)
    (case iC2 => k_is)
    (case aC3 => k_is)
    (case xC3 => k_is)
    (case b1C3 => k_is)
    (case b2C3 => k_is)
    (case b3C3 => k_is)
    (case b4C3 => k_is)
    (case b5C3 => k_is)
    (case b6C3 => k_is)
    (case b7C3 => k_is)
    (case b8C3 => k_is)
    (case b9C3 => k_is)
    (case aC4 => k_is)
    (case xC4 => k_is)
    (case b1C4 => k_is)
    (case b2C4 => k_is)
    (case b3C4 => k_is)
    (case b4C4 => k_is)
    (case b5C4 => k_is)
    (case b6C4 => k_is)
    (case b7C4 => k_is)
    (case b8C4 => k_is)
    (case b9C4 => k_is)
    (case aC5 => k_is)
    (case xC5 => k_is)
    (case b1C5 => k_is)
    (case b2C5 => k_is)
    (case b3C5 => k_is)
    (case b4C5 => k_is)
    (case b5C5 => k_is)
    (case b6C5 => k_is)
    (case b7C5 => k_is)
    (case b8C5 => k_is)
    (case b9C5 => k_is)
    (case aC6 => k_is)
    (case xC6 => k_is)
    (case b1C6 => k_is)
    (case b2C6 => k_is)
    (case b3C6 => k_is)
    (case b4C6 => k_is)
    (case b5C6 => k_is)
    (case b6C6 => k_is)
    (case b7C6 => k_is)
    (case b8C6 => k_is)
    (case b9C6 => k_is)
    (case vb1 => k_is)
    (case vb2 => k_is)
    (case z_min => k_is)
    (case z_enumerate => k_is)
    (case z_len => k_is)
    (case z_sorted => k_is)
    (case z_max => k_is)
    (case z_range => k_is)
    (case z_repr => k_is)
    (case z_int => k_is)
    (case z_list => k_is)
    (case z_abs => k_is)
    (case z_sum => k_is)
    (case z_ValueError => k_is)
    (case z_isinstance => k_is)
    (case apart => decide)
end
