import PyProof.Rows.All
import Wide.All
import OpenK.AllK
import Wide.FinOn
import HandS.ForMost
import HandS.ForExc
import HandS.EndBits
import HandS.Lambda
import HandS.EndTab
import HandS.IsInst
import PyProof.ReprRoads
import PyProof.ReprLen
import HandS.TupAny
import PyProof.Rows.IntBool
import KE.KRevSl
import HandS.Style
import PyProof.FitsInt
import PyProof.NeKinds
import HandS.Codes
import HandS.Conv
import HandS.Walk
import HandS.Text
import HandS.Dict
import KE.KDictDisplayH
import HandS.ExcInit
import KE.KExcMake
import KE.KExcIs
import KE.KTryMore
import HandS.TryOnly
import PyProof.Rows.CatchTuple
import HandS.ExcIs
import HandS.Wide
import HandS.Deep
import PySem.Challenge.RW_plansamid_k03_what_parts_tell

section
set_option Elab.async false
set_option linter.all false
set_option maxRecDepth 100000
set_option maxHeartbeats 4000000
/-! A def's promise where no text of a container is being put together around it (so that repr is served). -/
namespace Gd
open PySem PySem.Spec PyProof.Rows L2

/-- no container is amid its own text -/
def Free (A : Around) : Prop := A.guards = some []

structure FnG (P : Program) (w : World) (K : PySem.W.Frag) (mg : Str → Option Value)
    (base : Heap) (cx : CXT) (n : Nat) (f : Addr) (fd : FuncData) (ps : List Str) (sp : Sp) : Prop where
  len : ∀ vs H Q E, sp vs H Q E → vs.length = ps.length
  run : ∀ (A : Around) (out : List Env) (s : Shared) (H : Hp) (args : Args) (us : List Value)
      (vs : List V) (Q : VK) (E : XK), Free A → Room n A → Env0 P w K mg base A out s H →
      BindsTo s fd args (ps.zip us) → Vals vs us → sp vs H Q E →
      codeAny (model P w) A (.call (.ref f) args) (CR cx out P w H s Q E) s

section
variable {P : Program} {w : World} {K : PySem.W.Frag} {mg : Str → Option Value} {base : Heap} {cx : CXT}
theorem FnG.ofOk {n : Nat} {f : Addr} {fd : FuncData} {ps : List Str} {sp : Sp}
    (F : FnOk P w K mg base cx n f fd ps sp) : FnG P w K mg base cx n f fd ps sp :=
  ⟨F.len, fun A out s H args us vs Q E _ => F.run A out s H args us vs Q E⟩
theorem FnG.mono {m n : Nat} {f : Addr} {fd : FuncData} {ps : List Str} {sp : Sp}
    (F : FnG P w K mg base cx m f fd ps sp) (h : m ≤ n) : FnG P w K mg base cx n f fd ps sp :=
  ⟨F.len, fun A out s H args us vs Q E g r => F.run A out s H args us vs Q E g (r.mono h)⟩
end

section
variable {X : Cx} {cx : CXT} {n : Nat} {f : Addr} {fd : FuncData} {ps : List Str} {sp : Sp}
  {dvs : List V} {ds : List Value} {E : XK} {x : Str} {p pos : Pos} {e : Expr} {es : List Expr} {t : TA}

theorem run_g {pins : List (Addr × Obj)} {σ : L2.St} {H : Hp} {s : Shared} {Q : VK} {us : List Value} {vs : List V}
    (F : FnG X.prog X.w X.K X.mg X.base cx n f fd ps sp) (g : Free X.A) (hr : Room n X.A)
    (hb : Binds X.K fd ps ds) (hd : Vals dvs ds) (hx : Passes cx X E)
    (I : Inv X pins σ H s) (r : Vals vs us) (h : sp (vs ++ dvs) H Q E) :
    wpAny (model X.prog X.w) X.A (call (.ref f) us) (EP X pins σ Q) X.xe s := by
  have rr : Vals (vs ++ dvs) (us ++ ds) := r.append hd
  have hl : (us ++ ds).length = ps.length := (Paired.length rr).symm.trans (F.len _ _ _ _ h)
  have all := F.run X.A X.stack s H ⟨us, []⟩ (us ++ ds) (vs ++ dvs) Q E g hr I.env0 (hb s us I.kIn hl) rr h
  refine wpAny_call (codeAny_mono all ?_)
  intro o s' z
  cases o with
  | error er => exact hx pins σ H s er s' I z
  | ok fl =>
    cases fl with
    | ret u => exact I.after z
    | _ => exact False.elim z

theorem pe_callG (F : FnG X.prog X.w X.K X.mg X.base cx n f fd ps sp) (g : Free X.A) (hr : Room n X.A)
    (hg : Gl X x) (hm : X.mg x = some (.ref f)) (hk : PySem.W.keepIn X.K (.ref f) = true)
    (hb : Binds X.K fd ps ds) (hd : Vals dvs ds) (hx : Passes cx X E) (ha : PA X (e :: es) t)
    (hdb : (x == ("__debug__" : Str)) = false := by decide)
    (he : starEach (e :: es) X.env = (false, eval e X.env) :: starEach es X.env := by rfl)
    (hpl : (backTo pos (starEach es X.env)).any (·.1) = false := by rfl) :
    PE X (.Call (.Name x p) (e :: es) [] pos) (tCall sp dvs E t) := by
  constructor
  intro pins s σ H Q I h
  refine wpAny_Call_Name_kw (ld_glob I hg hm ?_ hdb)
  have args := ha.run pos pins s σ H _ I h
  refine PySem.W.callWith_K (h₀ := X.base) I.ok.mod.kin hk (thn args ?_) he hpl
  rintro us s1 ⟨vs, H1, J, r, q⟩
  exact ⟨J.kIn, run_g F g hr hb hd hx J r q⟩
end

/-! ### by the body -/
section
variable {P : Program} {w : World} {K : PySem.W.Frag} {mg : Str → Option Value} {base : Heap}
theorem FnG.body {cx : CXT} {n : Nat} {f : Addr} {nm ql : Str} {pr : Arguments} {bd : List Stmt} {sc : Scope}
    {dV kV dc pm cv ct oc : Value} {an od : Option Addr} {sl : Array (Option Value)} {N ps : List Str} {sp : Sp}
    (lk : K.lookup f = some ⟨oc, od, .func (PySem.W.fnOf nm ql pr bd sc dV kV dc pm an cv ct), sl⟩)
    (hc : PySem.W.codeIn K cv ql = true) (S : FnScope N ps sc) (len : ∀ vs H Q E, sp vs H Q E → vs.length = ps.length)
    (hb : ∀ (A : Around) (out : List Env) (s : Shared) (H : Hp) (vs : List V) (Q : VK) (E : XK),
      Free (A.deeper (envOfC ql sc s.heap.objs.size f cv)) → Room n (A.deeper (envOfC ql sc s.heap.objs.size f cv)) →
      sp vs H Q E → ∃ t, PSs (cxOf cx P w K mg base N ql sc f cv A out s H E) bd t ∧
        t { nx := fun _ H' => Q .non H', rt := Q } (start N vs) H) :
    FnG P w K mg base cx (n + 1) f (PySem.W.fnOf nm ql pr bd sc dV kV dc pm an cv ct) ps sp := by
  refine ⟨len, ?_⟩
  intro A out s H args us vs Q E g hr e0 hbd r hsp
  have hl := len _ _ _ _ hsp
  have KX : K.In s.heap := e0.mod.kin.keeps fun b o e => (e0.bs b o e).1
  have lim : s.heap.NoLimit := e0.mod.nolimit.keeps fun b o e => (e0.bs b o e).1
  have kinds : ∀ y ∈ ps.zip us, sc.names.lookup y.1 = some .local ∨
      (sc.names.lookup y.1 = some .cell ∧
        ((cellsFrom (s.heap.objs.size + 1) sc.names []).lookup y.1).isSome = true) := by
    rintro ⟨y, v⟩ hy
    rcases S.par y (List.of_mem_zip hy).1 with q | q
    · left; exact q
    · right; exact ⟨q, PySem.W.cellsFrom_some _ _ _ (.inl q)⟩
  have code := PySem.W.codeRec_of KX hc
  refine codeAny_call_function hr.depth (KX _ _ lk) rfl S.co S.gen rfl code (hbd _ _ _ _ ?_)
  refine wpAny_newFunctionEnv_cells S.kind kinds ?_
  intro env he s1 x
  subst he
  refine ⟨lim.keeps x.toInCall.keep, codeAny_func ?_⟩
  obtain ⟨t, ht, hq⟩ := hb A out s H vs Q E g (hr.deeper _) hsp
  have I := inv_start (CX := cx) (P := P) (w := w) (E := E) S hr.hd e0 hl r x
  refine wpAny_mono (ht.run [] s1 (start N vs) H _ I hq) ?_ fun er s' z => z
  intro fl s' z
  cases fl with
  | ret u =>
    obtain ⟨v, σ', H', J, rv, q⟩ := z
    exact ⟨v, H', J.os, J.bare, J.base, J.hok, rv, q⟩
  | next =>
    obtain ⟨σ', H', J, q⟩ := z
    exact ⟨V.non, H', J.os, J.bare, J.base, J.hok, rfl, q⟩
  | brk =>
    obtain ⟨_, _, _, q⟩ := z
    exact q.elim
  | cont =>
    obtain ⟨_, _, _, q⟩ := z
    exact q.elim

theorem okG {x ql : Str} {st : Stmt} {f : Addr} {fd : FuncData} {N ps : List Str} {n : Nat} {sp : Sp}
    (F : Fun K x ql st f fd) (S : FnScope N ps (defScope st)) (len : ∀ vs H Q E, sp vs H Q E → vs.length = ps.length)
    (hb : ∀ (cv : Value) (A : Around) (out : List Env) (s : Shared) (H : Hp) (vs : List V) (Q : VK) (E : XK),
      Free (A.deeper (envOfC ql (defScope st) s.heap.objs.size f cv)) →
      Room n (A.deeper (envOfC ql (defScope st) s.heap.objs.size f cv)) → sp vs H Q E →
      ∃ t, PSs (cxOf CX0 P w K mg base N ql (defScope st) f cv A out s H E).nox (defBody st) t ∧
        t { nx := fun _ H' => Q .non H', rt := Q } (start N vs) H) :
    FnG P w K mg base CX0 (n + 1) f fd ps sp := by
  obtain ⟨oc, od, kV, dc, pm, an, cv, ct, sl, rfl, lk, hc⟩ := F.ex
  refine FnG.body lk hc S len ?_
  intro A out s H vs Q E g hr hsp
  obtain ⟨t, h, q⟩ := hb cv A out s H vs Q E g hr hsp
  exact ⟨t, h.nox, q⟩
end
end Gd
end

section
set_option Elab.async false
set_option linter.all false
set_option maxRecDepth 100000
set_option maxHeartbeats 4000000
/-! The end of a law's row from a promise of Gd.FnG. -/
namespace Gd
open PySem PySem.Spec PyProof.Rows L2

/-- what is wanted of the law's own call -/
def Yes (s1 : Shared) (r : Result) (s' : Shared) : Prop :=
  r = .ok (.ret (.bool true)) ∧ OldK s1.heap s'.heap ∧ s'.os = s1.os ∧ AllBare s'.gens

section
variable {P : Program} {w : World} {K : PySem.W.Frag} {mg mb : Str → Option Value} {cx : CXT} {n : Nat}
  {fa a : Addr} {fd : FuncData} {x : Str} {sp : Sp} {s1 : Shared} {vs : List Value} {ns : List Int}

theorem begun (H : Hp) (only : Only H) (hS : SqL K H a (ns.map V.int)) (hok : HOk P w H s1.heap)
    (at_a : ∀ b, H b ≠ none → b = a) (noK : H a ≠ none → K.lookup a = none)
    (KX : K.In s1.heap) (hns : s1.heap.Ns mainGlobals mg) (hb : s1.heap.Ns builtinsNs mb)
    (hbb : ∀ y : Str, y ≠ "__name__" → mb y = bootBuiltins y) (hlim : s1.heap.NoLimit) (hg : s1.gens = #[])
    (ha : s1.heap.get? a = some { cls := .type "list", data := .seq vs.toArray }) (hr : Room n callerA)
    (F : ∀ base : Heap, K.In base → base.Ns mainGlobals mg → FnG P w K mg base cx n fa fd [x] sp)
    (hbind : ∀ (s : Shared) (u : Value), BindsTo s fd ⟨[u], []⟩ [(x, u)])
    (hsp : sp [.ref a] H (fun v _ => v = .bl true) fun _ _ _ => False)
    (hCX : ∀ e s', cx [] H s1 (fun _ _ _ => False) e s' → False) :
    codeAny (model P w) callerA (.call (.ref fa) ⟨[.ref a], []⟩) (Yes s1) s1 := by
  -- the base: what isn't tracked
  let B := hidT s1.heap H
  have toB : ∀ {b : Addr} {o : Obj}, s1.heap.get? b = some o → H b = none → B.get? b = some o :=
    fun e z => hidT_get e z
  have notDict : ∀ {b : Addr} {o : Obj} {es : Array DictEntry} {m : Nat},
      s1.heap.get? b = some o → o.data = .dict es m → H b = none := by
    intro b o es m e d
    cases q : H b with
    | none => rfl
    | some u =>
      exfalso
      have eb : b = a := at_a b (by simp [q])
      rw [eb, ha] at e
      cases Option.some.inj e
      cases d
  have nsB : ∀ {b : Addr} {m : Str → Option Value}, s1.heap.Ns b m → B.Ns b m := by
    rintro b m ⟨o, es, ep, e, d, r⟩
    exact ⟨o, es, ep, toB e (notDict e d), d, r⟩
  have inB : K.In B := by
    intro b o e
    refine toB (KX b o e) ?_
    cases q : H b with
    | none => rfl
    | some u =>
      have eb : b = a := at_a b (by simp [q])
      have z := noK (by rw [← eb, q]; simp)
      rw [eb, z] at e
      cases e
  have modB : Mod K mg B := by
    obtain ⟨mc, l1, l2⟩ := hlim
    exact ⟨inB, nsB hns, ⟨mb, nsB hb, hbb⟩, ⟨mc, nsB l1, l2⟩⟩
  have nil : ∀ {b : Addr}, b ∉ ([] : List Addr) := fun z => nomatch z
  have e0 : Env0 P w K mg B callerA [] s1 H :=
    ⟨rfl, modB, fun b o e => of_hidT e, Nat.le_of_eq (hidT_size _ _), trivial, fun b z => (nil z).elim, hok, .of_eq hg⟩
  have got := (F B inB (nsB hns)).run callerA [] s1 H ⟨[.ref a], []⟩ [.ref a] [.ref a] _ _ rfl hr e0
    (hbind s1 (.ref a)) (.cons rfl .nil) hsp
  refine codeAny_mono got ?_
  intro r s' z
  cases r with
  | error er => exact (hCX er s' z).elim
  | ok fl =>
    cases fl with
    | ret u =>
      obtain ⟨v, H', os, bare, un, hok', rv, q⟩ := z
      obtain rfl : v = .bl true := q
      obtain rfl : u = Value.bool true := rv
      refine ⟨rfl, OldK.of_keep ?_, os, bare⟩
      intro b o e
      cases q : H b with
      | none => exact un.keep b o e q (fun z => (nil z).elim) (fun z => (nil z).elim)
      | some u =>
        rcases only b with z | ⟨ob, xs, z⟩
        · exact nomatch q.symm.trans z
        · obtain ⟨g1, _⟩ := hok b _ z
          obtain ⟨g2, _⟩ := hok' b _ (un.frzs b ob _ z)
          exact g2.trans (g1.symm.trans e)
    | _ => exact False.elim z

theorem law_callG (KX : K.In s1.heap) (hns : s1.heap.Ns mainGlobals mg) (hb : s1.heap.Ns builtinsNs mb)
    (hbb : ∀ y : Str, y ≠ "__name__" → mb y = bootBuiltins y) (hlim : s1.heap.NoLimit) (hg : s1.gens = #[])
    (ha : s1.heap.get? a = some { cls := .type "list", data := .seq vs.toArray }) (hi : IntsAre vs ns)
    (hl : ns.length ≤ sizeLine) (hr : Room n callerA)
    (F : ∀ base : Heap, K.In base → base.Ns mainGlobals mg → FnG P w K mg base cx n fa fd [x] sp)
    (hbind : ∀ (s : Shared) (u : Value), BindsTo s fd ⟨[u], []⟩ [(x, u)])
    (hsp : ∀ H : Hp, Only H → SqL K H a (ns.map V.int) → sp [.ref a] H (fun v _ => v = .bl true) fun _ _ _ => False)
    (hCX : ∀ H e s', cx [] H s1 (fun _ _ _ => False) e s' → False) :
    codeAny (model P w) callerA (.call (.ref fa) ⟨[.ref a], []⟩) (Yes s1) s1 := by
  have rv := vals_ints hi
  have hz : vs.toArray.size ≤ sizeLine := by
    rw [List.size_toArray, hi.length]
    exact hl
  cases hk : K.lookup a with
  | some o =>
    have e : some o = some _ := (KX a o hk).symm.trans ha
    cases e
    have here : SqL K (fun _ => none) a (ns.map V.int) := .inr ⟨_, vs.toArray, _, hk, rfl, rfl, rfl, hz, by simpa using rv⟩
    have only : Only (fun _ => none) := fun _ => .inl rfl
    exact begun (fun _ => none) only here (fun b u z => nomatch z) (fun b z => absurd rfl z) (fun z => absurd rfl z)
      KX hns hb hbb hlim hg ha hr F hbind (hsp _ only here) (hCX _)
  | none =>
    let H : Hp := fun b => if b = a then some (.frz { cls := .type "list", data := .seq vs.toArray } (.lst (ns.map V.int))) else none
    have Ha : H a = some (.frz { cls := .type "list", data := .seq vs.toArray } (.lst (ns.map V.int))) := if_pos rfl
    have Hn : ∀ {b : Addr}, b ≠ a → H b = none := fun z => if_neg z
    have only : Only H := by
      intro b
      by_cases eb : b = a
      · right
        subst eb
        exact ⟨_, _, Ha⟩
      · left
        exact Hn eb
    have here : SqL K H a (ns.map V.int) := .inl (.inr ⟨_, Ha⟩)
    refine begun H only here ?_ ?_ (fun _ => hk) KX hns hb hbb hlim hg ha hr F hbind (hsp _ only here) (hCX _)
    · intro b u z
      by_cases eb : b = a
      · subst eb
        rw [Ha] at z
        cases z
        exact ⟨ha, by rw [List.length_map]; exact hl, vs, _, rv, ha⟩
      · rw [Hn eb] at z
        cases z
    · intro b z
      by_cases eb : b = a
      · exact eb
      · exact absurd (Hn eb) z
end

theorem walkG {l : PySem.W.OpenLaw} {m n : Nat} {q : Program} {loose : List Str} {XP : (Str → Option Value) → Heap → Prop}
    {YP : World → Heap → Prop} {d : DefRec} {K : Params → PySem.W.Frag} {sp : PySem.W.Frag → Sp} {x : Str}
    (hn : l.most = some m) (hm : m ≤ sizeLine) (hdf : d.params.defaults = []) (hr : Room n callerA)
    (hY : ∀ (w : World) (h : Heap), YP w h → (K w.params).In h)
    (F : ∀ (w : World) (mg : Str → Option Value) (fa : Addr) (h : Heap), (K w.params).In h → h.Ns mainGlobals mg →
      mg d.name = some (.ref fa) → ∃ fd : FuncData, (∀ (s : Shared) (u : Value), BindsTo s fd ⟨[u], []⟩ [(x, u)]) ∧
        ∀ base : Heap, (K w.params).In base → base.Ns mainGlobals mg →
          FnG l.prog w (K w.params) mg base CX0 n fa fd [x] (sp (K w.params)))
    (hsp : ∀ (K : PySem.W.Frag) (H : Hp) (a : Addr) (ns : List Int), ns.length ≤ m →
      (∀ z ∈ ns, Builtin.Int.intBits z ≤ 1048576) → Only H → SqL K H a (ns.map V.int) →
      sp K [.ref a] H (fun v _ => v = .bl true) fun _ _ _ => False) :
    PySem.W.WalkO q loose XP YP l.row.toRowW d [] (fun f vs => PySem.call f vs) := by
  refine Att.attach_callB hn hdf ?_
  intro w s0 s1 mg mb fa o pm cd dc a vs ns G Y ho hd hcd hmg hobj hints hlen hbits hg
  have KX := hY w _ Y
  obtain ⟨fd, hb, hF⟩ := F w mg fa _ KX G.T.g hmg
  exact law_callG KX G.T.g G.T.b G.T.builtins G.T.nolimit hg hobj hints (Nat.le_trans hlen hm) hr hF hb
    (fun H only hS => hsp _ H a ns hlen hbits only hS) fun H e s' z => z.elim
end Gd
end

section
set_option Elab.async false
set_option linter.all false
set_option maxRecDepth 100000
set_option maxHeartbeats 4000000
/-! The end of a law's row from a promise of Gd.FnG, with the tables of code objects of defs that hold lambdas. -/
namespace Gd
open PySem PySem.Spec PyProof.Rows L2 LamX
/-- the def y, its code object c, the table P, which is not written out -/
def TabIn (K : PySem.W.Frag) (mg : Str → Option Value) (ys : List Str) (p : Addr × Addr) : Prop :=
  ∃ (y : Str) (f : Addr) (oc : Value) (od : Option Addr) (fd : FuncData) (sl : Array (Option Value)) (e : Value) (dd : Option Addr) (vs : Array Value) (sl2 : Array (Option Value)), y ∈ ys ∧ mg y = some (.ref f) ∧ K.lookup f = some ⟨oc, od, .func fd, sl⟩ ∧ fd.code = .ref p.1 ∧
    K.lookup p.1 = some ⟨e, dd, .fields vs, sl2⟩ ∧ vs[11]? = some (.ref p.2) ∧ K.lookup p.2 = none
section
variable {P : Program} {w : World} {K : PySem.W.Frag} {mg mb : Str → Option Value} {cx : CXT} {n : Nat} {cs : List (Addr × Addr)}
  {fa a : Addr} {fd : FuncData} {x : Str} {sp : Sp} {s1 : Shared} {vs : List Value} {ns : List Int}
theorem begunT (H : Hp) (hH : ∀ p ∈ cs, H p.2 = some (.tbl #[])) (only : ∀ b, H b = none ∨ (∃ p ∈ cs, b = p.2) ∨ ∃ o xs, H b = some (.frz o (.lst xs))) (hok : HOk P w H s1.heap)
    (at_a : ∀ b, H b ≠ none → b = a ∨ ∃ p ∈ cs, b = p.2) (noK : H a ≠ none → K.lookup a = none)
    (hT : ∀ p ∈ cs, s1.heap.get? p.2 = some { cls := .none, data := .fields #[] }) (nT : ∀ p ∈ cs, K.lookup p.2 = none) (C : ∀ p ∈ cs, PySem.W.CodeHd s1.heap p.1 p.2)
    (hbm : ∃ (bm : Addr) (ob : Obj), mg "__builtins__" = some (.ref bm) ∧ bm ≠ builtinsNs ∧ s1.heap.get? bm = some ob ∧ ob.cls = .type "module" ∧ ob.dict = some builtinsNs ∧ ob.data = .plain)
    (KX : K.In s1.heap) (hns : s1.heap.Ns mainGlobals mg) (hb : s1.heap.Ns builtinsNs mb)
    (hbb : ∀ y : Str, y ≠ "__name__" → mb y = bootBuiltins y) (hlim : s1.heap.NoLimit) (hg : s1.gens = #[])
    (ha : s1.heap.get? a = some { cls := .type "list", data := .seq vs.toArray }) (hr : Room n callerA)
    (F : ∀ base : Heap, K.In base → base.Ns mainGlobals mg → (∀ p ∈ cs, TabB base mg p.1 p.2) → FnG P w K mg base cx n fa fd [x] sp)
    (hbind : ∀ (s : Shared) (u : Value), BindsTo s fd ⟨[u], []⟩ [(x, u)])
    (hsp : sp [.ref a] H (fun v _ => v = .bl true) fun _ _ _ => False)
    (hCX : ∀ e s', cx [] H s1 (fun _ _ _ => False) e s' → False) :
    codeAny (model P w) callerA (.call (.ref fa) ⟨[.ref a], []⟩) (Yes s1) s1 := by
  let B := hidT s1.heap H
  have toB : ∀ {b : Addr} {o : Obj}, s1.heap.get? b = some o → H b = none → B.get? b = some o := fun e z => hidT_get e z
  -- what is neither a list nor an empty table is not tracked
  have off : ∀ {b : Addr} {o : Obj}, s1.heap.get? b = some o → (∀ us m, o.data ≠ .seq us m) → o.data ≠ .fields #[] → H b = none := by
    intro b o e d1 d2
    cases q : H b with
    | none => rfl
    | some u =>
      exfalso
      rcases at_a b (by simp [q]) with eb | ⟨p, hp, eb⟩
      · rw [eb, ha] at e
        cases Option.some.inj e
        exact d1 _ _ rfl
      · rw [eb, hT p hp] at e
        cases Option.some.inj e
        exact d2 rfl
  have nsB : ∀ {b : Addr} {m : Str → Option Value}, s1.heap.Ns b m → B.Ns b m := by
    rintro b m ⟨o, es, ep, e, d, r⟩
    exact ⟨o, es, ep, toB e (off e (fun _ _ z => by rw [d] at z; cases z) (fun z => by rw [d] at z; cases z)), d, r⟩
  have inB : K.In B := by
    intro b o e
    refine toB (KX b o e) ?_
    cases q : H b with
    | none => rfl
    | some u =>
      rcases at_a b (by simp [q]) with eb | ⟨p, hp, eb⟩
      · have z := noK (by rw [← eb, q]; simp)
        rw [eb, z] at e
        cases e
      · rw [eb, nT p hp] at e
        cases e
  have modB : Mod K mg B := by
    obtain ⟨mc, l1, l2⟩ := hlim
    exact ⟨inB, nsB hns, ⟨mb, nsB hb, hbb⟩, ⟨mc, nsB l1, l2⟩⟩
  have tabB : ∀ p ∈ cs, TabB B mg p.1 p.2 := by
    intro p hp
    have hTp := hT p hp
    refine ⟨?_, ?_, ?_⟩
    · obtain ⟨o, us, file, tf, flags, tg, inF, text, tt, e1, r1, r2, r3, r⟩ := C p hp
      refine ⟨o, us, file, tf, flags, tg, inF, text, tt, toB e1 (off e1 (fun _ _ z => by rw [r2] at z; cases z) fun z => ?_), r1, r2, r3, r⟩
      rw [r2] at z
      cases z
      simp at r3
    · obtain ⟨bm, ob, b1, b2, b3, b4, b5, b6⟩ := hbm
      refine ⟨bm, ob, b1, b2, ?_, ?_, toB b3 (off b3 (fun _ _ z => by rw [b6] at z; cases z) fun z => by rw [b6] at z; cases z), b4, b5, b6⟩
      · rintro rfl
        obtain ⟨o, es, ep, e, d, _⟩ := hns
        rw [e] at b3
        cases b3
        rw [d] at b6
        cases b6
      · rintro rfl
        rw [hTp] at b3
        cases b3
        cases b6
    · intro z
      obtain ⟨o, es, ep, e, d, _⟩ := hns
      rw [z, hTp] at e
      cases e
      cases d
  have nil : ∀ {b : Addr}, b ∉ ([] : List Addr) := fun z => nomatch z
  have e0 : Env0 P w K mg B callerA [] s1 H :=
    ⟨rfl, modB, fun b o e => of_hidT e, Nat.le_of_eq (hidT_size _ _), trivial, fun b z => (nil z).elim, hok, .of_eq hg⟩
  have got := (F B inB (nsB hns) tabB).run callerA [] s1 H ⟨[.ref a], []⟩ [.ref a] [.ref a] _ _ rfl hr e0
    (hbind s1 (.ref a)) (.cons rfl .nil) hsp
  refine codeAny_mono got ?_
  intro r s' z
  cases r with
  | error er => exact (hCX er s' z).elim
  | ok fl =>
    cases fl with
    | ret u =>
      obtain ⟨v, H', os, bare, un, hok', rv, q⟩ := z
      obtain rfl : v = .bl true := q
      obtain rfl : u = Value.bool true := rv
      have old : ∀ b o, (¬ ∃ p ∈ cs, b = p.2) → s1.heap.get? b = some o → s'.heap.get? b = some o := by
        intro b o nb e
        cases q : H b with
        | none => exact un.keep b o e q (fun z => (nil z).elim) (fun z => (nil z).elim)
        | some u =>
          rcases only b with z | z | ⟨ob, xs, z⟩
          · exact nomatch q.symm.trans z
          · exact absurd z nb
          · obtain ⟨g1, _⟩ := hok b _ z
            obtain ⟨g2, _⟩ := hok' b _ (un.frzs b ob _ z)
            exact g2.trans (g1.symm.trans e)
      have more : ∀ p ∈ cs, ∃ us : Array Value, s'.heap.get? p.2 = some { cls := .none, data := .fields us } := fun p hp => by
        obtain ⟨us, z⟩ := un.tbls p.2 #[] (hH p hp)
        exact ⟨_, hok' p.2 _ z⟩
      refine ⟨rfl, ⟨fun b o e => ?_, fun b o e => ?_⟩, os, bare⟩
      · by_cases nb : ∃ p ∈ cs, b = p.2
        · obtain ⟨p, hp, rfl⟩ := nb
          obtain ⟨us, z⟩ := more p hp
          rw [hT p hp] at e
          cases e
          exact .inr (.inl ⟨((C p hp).tab (hT p hp)).isCodeTable, rfl, #[], us, rfl, by rw [Array.empty_append]; exact z⟩)
        · exact .inl (old b o nb e)
      · by_cases nb : ∃ p ∈ cs, b = p.2
        · obtain ⟨p, hp, rfl⟩ := nb
          obtain ⟨us, z⟩ := more p hp
          exact ⟨_, z⟩
        · exact ⟨o, old b o nb e⟩
    | _ => exact False.elim z
theorem law_callT (hT : ∀ p ∈ cs, s1.heap.get? p.2 = some { cls := .none, data := .fields #[] }) (nT : ∀ p ∈ cs, K.lookup p.2 = none) (C : ∀ p ∈ cs, PySem.W.CodeHd s1.heap p.1 p.2)
    (hbm : ∃ (bm : Addr) (ob : Obj), mg "__builtins__" = some (.ref bm) ∧ bm ≠ builtinsNs ∧ s1.heap.get? bm = some ob ∧ ob.cls = .type "module" ∧ ob.dict = some builtinsNs ∧ ob.data = .plain)
    (KX : K.In s1.heap) (hns : s1.heap.Ns mainGlobals mg) (hb : s1.heap.Ns builtinsNs mb)
    (hbb : ∀ y : Str, y ≠ "__name__" → mb y = bootBuiltins y) (hlim : s1.heap.NoLimit) (hg : s1.gens = #[])
    (ha : s1.heap.get? a = some { cls := .type "list", data := .seq vs.toArray }) (hi : IntsAre vs ns)
    (hl : ns.length ≤ sizeLine) (hr : Room n callerA)
    (F : ∀ base : Heap, K.In base → base.Ns mainGlobals mg → (∀ p ∈ cs, TabB base mg p.1 p.2) → FnG P w K mg base cx n fa fd [x] sp)
    (hbind : ∀ (s : Shared) (u : Value), BindsTo s fd ⟨[u], []⟩ [(x, u)])
    (hsp : ∀ H : Hp, (∀ p ∈ cs, H p.2 = some (.tbl #[])) → SqL K H a (ns.map V.int) → sp [.ref a] H (fun v _ => v = .bl true) fun _ _ _ => False)
    (hCX : ∀ H e s', cx [] H s1 (fun _ _ _ => False) e s' → False) :
    codeAny (model P w) callerA (.call (.ref fa) ⟨[.ref a], []⟩) (Yes s1) s1 := by
  have rv := vals_ints hi
  have hz : vs.toArray.size ≤ sizeLine := by
    rw [List.size_toArray, hi.length]
    exact hl
  have na : ¬ ∃ p ∈ cs, a = p.2 := by
    rintro ⟨p, hp, e⟩
    have := hT p hp
    rw [← e, ha] at this
    cases Option.some.inj this
  have dec : ∀ b, Decidable (∃ p ∈ cs, b = p.2) := fun b => Classical.propDecidable _
  cases hk : K.lookup a with
  | some o =>
    have e : some o = some _ := (KX a o hk).symm.trans ha
    cases e
    let H : Hp := fun b => @ite _ (∃ p ∈ cs, b = p.2) (dec b) (some (.tbl #[])) none
    have Ht : ∀ {b}, (∃ p ∈ cs, b = p.2) → H b = some (.tbl #[]) := fun z => if_pos z
    have Hn : ∀ {b}, (¬ ∃ p ∈ cs, b = p.2) → H b = none := fun z => if_neg z
    have here : SqL K H a (ns.map V.int) := .inr ⟨_, vs.toArray, _, hk, rfl, rfl, rfl, hz, by simpa using rv⟩
    have hH : ∀ p ∈ cs, H p.2 = some (.tbl #[]) := fun p hp => Ht ⟨p, hp, rfl⟩
    refine begunT H hH (fun b => ?_) (fun b u z => ?_) (fun b z => ?_) (fun z => absurd (Hn na) z) hT nT C hbm KX hns hb hbb hlim hg ha hr F hbind (hsp H hH here) (hCX _)
    · by_cases hb : ∃ p ∈ cs, b = p.2
      · exact .inr (.inl hb)
      · exact .inl (Hn hb)
    · by_cases hb : ∃ p ∈ cs, b = p.2
      · rw [Ht hb] at z
        cases z
        obtain ⟨p, hp, rfl⟩ := hb
        exact hT p hp
      · rw [Hn hb] at z
        cases z
    · by_cases hb : ∃ p ∈ cs, b = p.2
      · exact .inr hb
      · exact absurd (Hn hb) z
  | none =>
    let H : Hp := fun b => if b = a then some (.frz { cls := .type "list", data := .seq vs.toArray } (.lst (ns.map V.int))) else @ite _ (∃ p ∈ cs, b = p.2) (dec b) (some (.tbl #[])) none
    have Ha : H a = some (.frz { cls := .type "list", data := .seq vs.toArray } (.lst (ns.map V.int))) := if_pos rfl
    have Ht : ∀ {b}, (∃ p ∈ cs, b = p.2) → H b = some (.tbl #[]) := fun {b} z => (if_neg (fun (e : b = a) => na (by rw [← e]; exact z))).trans (if_pos z)
    have Hn : ∀ {b}, b ≠ a → (¬ ∃ p ∈ cs, b = p.2) → H b = none := fun z1 z2 => (if_neg z1).trans (if_neg z2)
    have here : SqL K H a (ns.map V.int) := .inl (.inr ⟨_, Ha⟩)
    have hH : ∀ p ∈ cs, H p.2 = some (.tbl #[]) := fun p hp => Ht ⟨p, hp, rfl⟩
    refine begunT H hH (fun b => ?_) (fun b u z => ?_) (fun b z => ?_) (fun _ => hk) hT nT C hbm KX hns hb hbb hlim hg ha hr F hbind (hsp H hH here) (hCX _)
    · by_cases eb : b = a
      · exact .inr (.inr ⟨_, _, by rw [eb]; exact Ha⟩)
      by_cases hb : ∃ p ∈ cs, b = p.2
      · exact .inr (.inl hb)
      · exact .inl (Hn eb hb)
    · by_cases eb : b = a
      · subst eb
        rw [Ha] at z
        cases z
        exact ⟨ha, by rw [List.length_map]; exact hl, vs, _, rv, ha⟩
      by_cases hb : ∃ p ∈ cs, b = p.2
      · rw [Ht hb] at z
        cases z
        obtain ⟨p, hp, rfl⟩ := hb
        exact hT p hp
      · rw [Hn eb hb] at z
        cases z
    · by_cases eb : b = a
      · exact .inl eb
      by_cases hb : ∃ p ∈ cs, b = p.2
      · exact .inr hb
      · exact absurd (Hn eb hb) z
end
theorem walkT {l : PySem.W.OpenLaw} {m n : Nat} {q : Program} {loose : List Str} {XP : (Str → Option Value) → Heap → Prop}
    {YP : World → Heap → Prop} {d : DefRec} {K : Params → PySem.W.Frag} {sp : PySem.W.Frag → List (Addr × Addr) → Sp} {x : Str} {ys : List Str}
    (hn : l.most = some m) (hm : m ≤ sizeLine) (hdf : d.params.defaults = []) (hr : Room n callerA)
    (hY : ∀ (w : World) (h : Heap), YP w h → (K w.params).In h) (hys : (ys.all fun y => (recsOf q).any fun e => e.name == y) = true)
    (F : ∀ (w : World) (mg : Str → Option Value) (fa : Addr) (h : Heap), (K w.params).In h → h.Ns mainGlobals mg →
      mg d.name = some (.ref fa) → ∃ (fd : FuncData) (cs : List (Addr × Addr)), (∀ p ∈ cs, TabIn (K w.params) mg ys p) ∧ (∀ (s : Shared) (u : Value), BindsTo s fd ⟨[u], []⟩ [(x, u)]) ∧
        ∀ base : Heap, (K w.params).In base → base.Ns mainGlobals mg → (∀ p ∈ cs, TabB base mg p.1 p.2) → FnG l.prog w (K w.params) mg base CX0 n fa fd [x] (sp (K w.params) cs))
    (hsp : ∀ (K : PySem.W.Frag) (cs : List (Addr × Addr)) (H : Hp) (a : Addr) (ns : List Int), ns.length ≤ m →
      (∀ z ∈ ns, Builtin.Int.intBits z ≤ 1048576) → (∀ p ∈ cs, H p.2 = some (.tbl #[])) → SqL K H a (ns.map V.int) →
      sp K cs [.ref a] H (fun v _ => v = .bl true) fun _ _ _ => False) :
    PySem.W.WalkO q loose XP YP l.row.toRowW d [] (fun f vs => PySem.call f vs) := by
  refine Att.attach_callB hn hdf ?_
  intro w s0 s1 mg mb fa o pm cd dc a vs ns G Y ho hd hcd hmg hobj hints hlen hbits hg
  have KX := hY w _ Y
  obtain ⟨fd, cs, tabs, hb, hF⟩ := F w mg fa _ KX G.T.g hmg
  have all : ∀ p ∈ cs, s1.heap.get? p.2 = some { cls := .none, data := .fields #[] } ∧ (K w.params).lookup p.2 = none ∧ PySem.W.CodeHd s1.heap p.1 p.2 := by
    rintro ⟨c, P⟩ hp
    obtain ⟨y, f, oc, od, fd1, sl, e, dd, us, sl2, hy, t1, t2, t3, t4, t5, t6⟩ := tabs _ hp
    obtain ⟨dL, hL, en⟩ := List.any_eq_true.mp (List.all_eq_true.mp hys y hy)
    have en : dL.name = y := beq_iff_eq.mp en
    obtain ⟨a', o', fd', c', P', h1, h2, h3, h4, h5, h6⟩ := G.T.tab dL hL
    rw [en, t1] at h1
    cases h1
    rw [KX _ _ t2] at h2
    cases h2
    cases h3
    rw [t3] at h4
    cases h4
    have hcd := PySem.W.CodeHd.of h5 h6
    obtain ⟨⟨o2, vs2, q1, _, q3, q4⟩, hP⟩ := h6
    rw [KX _ _ t4] at q1
    cases q1
    cases q3
    rw [t5] at q4
    cases q4
    exact ⟨hP, t6, hcd⟩
  exact law_callT (fun p hp => (all p hp).1) (fun p hp => (all p hp).2.1) (fun p hp => (all p hp).2.2) G.T.bmain KX G.T.g G.T.b G.T.builtins G.T.nolimit hg hobj hints (Nat.le_trans hlen hm) hr hF hb
    (fun H hH hS => hsp _ cs H a ns hlen hbits hH hS) fun H e s' z => z.elim
end Gd
end

section
set_option Elab.async false
set_option linter.all false
set_option maxRecDepth 100000
set_option maxHeartbeats 4000000
/-! f(k=e, ..): by its names alone, in any order. -/
namespace Gd
open PySem PySem.Spec PyProof.Rows L2
section
variable {X : Cx} {cx : CXT} {n : Nat} {f : Addr} {fd : FuncData} {ps ks : List Str} {sp : Sp} {E : XK} {x : Str} {p pos : Pos} {kws : List Keyword} {tk : TA}
  {g : List Value → List Value → List Value} {gV : List V → List V → List V}
def tKw2 (sp : Sp) (gV : List V → List V → List V) (E : XK) (tk : TA) : TE := fun σ H Q => tk σ H fun zs H2 => sp (gV [] zs) H2 Q E
/-- f(k=e): by its names alone -/
theorem pe_kw2 (F : FnOk X.prog X.w X.K X.mg X.base cx n f fd ps sp) (hr : Room n X.A) (hg : Gl X x) (hm : X.mg x = some (.ref f)) (hk : PySem.W.keepIn X.K (.ref f) = true)
    (hb : KBinds X.K fd ps ks g gV) (hx : Passes cx X E) (hkw : PK X kws tk)
    (hall : (backToKw pos (keywordEach kws X.env)).all (·.1.isSome) = true := by rfl) (hks : (backToKw pos (keywordEach kws X.env)).filterMap (·.1) = ks := by rfl)
    (hdb : (x == ("__debug__" : Str)) = false := by decide)
    (hpl : ((backTo pos (starEach [] X.env)).any (·.1) || (backToKw pos (keywordEach kws X.env)).any (·.1.isNone)) = false := by rfl) :
    PE X (.Call (.Name x p) [] kws pos) (tKw2 sp gV E tk) := by
  constructor
  intro pins s σ H Q I h
  refine wpAny_Call_Name_kw (ld_glob I hg hm ?_ hdb)
  refine PySem.W.callWith_KW0 (h₀ := X.base) I.ok.mod.kin hk hall (thn (hkw.run pos pins s σ H _ I h) ?_) hpl
  rintro ws s2 ⟨zs, H2, J, rz, q⟩
  refine ⟨J.kIn, ?_⟩
  rw [hks]
  exact run_fnk (us := []) (vs := []) F hr hb hx J .nil rz q
end
/-- two by their names, told in the other order -/
def back2 {α : Type} : List α → List α → List α
  | [], [a, b] => [b, a]
  | _, _ => []
theorem back2_rel {vs : List V} {us : List Value} {zs : List V} {ws : List Value} (a : Vals vs us) (b : Vals zs ws) : Vals (back2 vs zs) (back2 us ws) := by
  cases a with
  | cons _ _ => cases b <;> exact .nil
  | nil =>
    cases b with
    | nil => exact .nil
    | cons b1 b => cases b with
      | nil => exact .nil
      | cons b2 b => cases b with
        | nil => exact .cons b2 (.cons b1 .nil)
        | cons _ _ => exact .nil
theorem back2_of {K : PySem.W.Frag} {x qual p0 p1 : Str} {st : Stmt} {f : Addr} {fd : FuncData} (F : Fun K x qual st f fd)
    (h : ∀ (kV doc pm : Value) (an : Option Addr) (cdv ct a b : Value), bindArgs (PySem.W.fnOf x qual (defArgs st) (defBody st) (defScope st) .none kV doc pm an cdv ct) ⟨[], [(p1, a), (p0, b)]⟩ = pure [(p0, b), (p1, a)]) :
    KBinds K fd [p0, p1] [p1, p0] back2 back2 := by
  obtain ⟨oc, od, kV, doc, pm, an, cdv, ct, osl, rfl, lk, hcd⟩ := F.ex
  refine ⟨fun s us ws _ hl => ?_, fun a b => back2_rel a b⟩
  match us, ws, hl with
  | [], [a, b], _ => exact .of_eq (h kV doc pm an cdv ct a b)
end Gd
end

section
set_option Elab.async false
set_option linter.all false
set_option maxRecDepth 100000
set_option maxHeartbeats 4000000
/-! What the laws draw from: a list of three numbers, of which each draw takes one more. -/
namespace Gd
open PySem PySem.Spec PyProof.Rows L2

/-- at p: what is left of a great number, the seed, how many were drawn, at most S -/
def Feed (H : Hp) (p : Addr) (S : Int) : Prop := ∃ g x s : Int, H p = some (.lst [.int g, .int x, .int s]) ∧ 0 ≤ s ∧ s ≤ S
theorem Feed.le {H : Hp} {p : Addr} {S T : Int} (h : Feed H p S) (l : S ≤ T) : Feed H p T := by
  obtain ⟨g, x, s, e, a, b⟩ := h
  exact ⟨g, x, s, e, a, by omega⟩
theorem Feed.here {H : Hp} {p : Addr} {S g x s : Int} (h0 : 0 ≤ s) (h : s ≤ S) : Feed (upd H p (.lst [.int g, .int x, .int s])) p S :=
  ⟨g, x, s, upd_same, h0, h⟩
theorem Feed.stays {H : Hp} {p q : Addr} {S : Int} {o : HO} (h : Feed H p S) (n : H q = none) : Feed (upd H q o) p S := by
  obtain ⟨g, x, s, e, a, b⟩ := h
  refine ⟨g, x, s, ?_, a, b⟩
  rw [upd_ne (ne_of_none e n)]
  exact e
/-- all is as it was, but at p -/
def Ex1 (p : Addr) (H H' : Hp) : Prop := ∀ a o, a ≠ p → H a = some o → H' a = some o
theorem Ex1.refl (p : Addr) (H : Hp) : Ex1 p H H := fun _ _ _ h => h
theorem Ex1.trans {p : Addr} {H H1 H2 : Hp} (a : Ex1 p H H1) (b : Ex1 p H1 H2) : Ex1 p H H2 := fun x o n h => b x o n (a x o n h)
theorem Ex1.at {p : Addr} {H : Hp} {o : HO} : Ex1 p H (upd H p o) := fun a u n e => by
  rw [upd_ne n]
  exact e
theorem Ex1.new {p q : Addr} {H : Hp} {o : HO} (n : H q = none) : Ex1 p H (upd H q o) := fun a u _ e => by
  rw [upd_ne (ne_of_none e n)]
  exact e

theorem Feed.lst {H : Hp} {p : Addr} {S : Int} (h : Feed H p S) : ∃ xs, H p = some (.lst xs) := by
  obtain ⟨g, x, s, e, _⟩ := h
  exact ⟨_, e⟩
theorem Feed.ne {H : Hp} {p q : Addr} {S : Int} (h : Feed H p S) (n : H q = none) : q ≠ p := fun z => by
  obtain ⟨xs, e⟩ := h.lst
  rw [z, e] at n
  cases n
def spTake : Sp := fun vs H Q _ => ∃ (p : Addr) (m S : Int), vs = [.ref p, .int m] ∧ Feed H p S ∧ 0 < m ∧ m < 1073741824 ∧
  S ≤ 1000000000 ∧ ∀ (r : Int) (H' : Hp), 0 ≤ r → r < m → Feed H' p (S + 1) → Ex1 p H H' → Q (.int r) H'

theorem fmod_in (a : Int) {b : Int} (h : 0 < b) : 0 ≤ a.fmod b ∧ a.fmod b < b :=
  ⟨Int.fmod_nonneg_of_pos a h, Int.fmod_lt_of_pos a h⟩
end Gd
end

section
set_option Elab.async false
set_option linter.all false
set_option maxRecDepth 100000
set_option maxHeartbeats 4000000
/-! Data: numbers, texts, truths, None, tuples of such. -/
namespace Gd
open PySem PySem.Spec PyProof.Rows L2

mutual
def tupOnly : PyData → Bool
  | .none => true
  | .bool _ => true
  | .int _ => true
  | .str _ => true
  | .tuple ds => decide (ds.length ≤ 1000) && tupOnlyAll ds
  | .list _ => false
  | .dict _ => false
def tupOnlyAll : List PyData → Bool
  | [] => true
  | d :: ds => tupOnly d && tupOnlyAll ds
end

/-- tuples stay -/
def Tups (K : PySem.W.Frag) (H H' : Hp) : Prop := ∀ a xs, SqT K H a xs → SqT K H' a xs
theorem Tups.refl {K : PySem.W.Frag} {H : Hp} : Tups K H H := fun _ _ h => h
theorem Tups.trans {K : PySem.W.Frag} {H H1 H2 : Hp} (a : Tups K H H1) (b : Tups K H1 H2) : Tups K H H2 := fun x y h => b x y (a x y h)
theorem Tups.upd_lst {K : PySem.W.Frag} {H : Hp} {D : Addr} {xs ys : List V} (e : H D = some (.lst xs)) : Tups K H (upd H D (.lst ys)) := by
  intro a zs h
  rcases h with (h | ⟨o, h⟩) | h
  · refine .inl (.inl ?_)
    rw [upd_ne (fun z => by rw [z, e] at h; cases h)]
    exact h
  · refine .inl (.inr ⟨o, ?_⟩)
    rw [upd_ne (fun z => by rw [z, e] at h; cases h)]
    exact h
  · exact .inr h
theorem Tups.of_same {K : PySem.W.Frag} {H H' : Hp} (s : Same H H') : Tups K H H' := by
  intro a zs h
  rcases h with (h | ⟨o, h⟩) | h
  · exact .inl (.inl (s _ _ h))
  · exact .inl (.inr ⟨o, s _ _ h⟩)
  · exact .inr h

theorem Tups.new {K : PySem.W.Frag} {H : Hp} {q : Addr} {o : HO} (n : H q = none) : Tups K H (upd H q o) :=
  .of_same fun b u e => by
    rw [upd_ne (ne_of_none e n)]
    exact e
theorem Ex1.tups {K : PySem.W.Frag} {H H' : Hp} {p : Addr} {xs : List V} (x : Ex1 p H H') (e : H p = some (.lst xs)) : Tups K H H' := by
  intro a zs h
  rcases h with (h | ⟨o, h⟩) | h
  · exact .inl (.inl (x _ _ (fun z => by rw [z, e] at h; cases h) h))
  · exact .inl (.inr ⟨o, x _ _ (fun z => by rw [z, e] at h; cases h) h⟩)
  · exact .inr h
section
variable {K : PySem.W.Frag} {H H' : Hp}
mutual
theorem Dp.tups (t : Tups K H H') : ∀ (d : PyData) {v : V}, tupOnly d = true → Dp K H v d → Dp K H' v d
  | .none, _, _, h => by cases h; exact .non
  | .bool _, _, _, h => by cases h; exact .bl _
  | .int _, _, _, h => by cases h; exact .int _
  | .str _, _, _, h => by cases h; exact .str _
  | .tuple ds, _, o, h => by
    cases h with
    | tup a b =>
      simp only [tupOnly, Bool.and_eq_true] at o
      exact .tup (t _ _ a) (DpAll.tups t ds o.2 b)
  | .list _, _, o, _ => by simp [tupOnly] at o
  | .dict _, _, _, h => by cases h
theorem DpAll.tups (t : Tups K H H') : ∀ (ds : List PyData) {vs : List V}, tupOnlyAll ds = true → DpAll K H vs ds → DpAll K H' vs ds
  | [], _, _, h => by cases h; exact .nil
  | d :: ds, _, o, h => by
    simp only [tupOnlyAll, Bool.and_eq_true] at o
    cases h with
    | cons a b => exact .cons (Dp.tups t d o.1 a) (DpAll.tups t ds o.2 b)
end
mutual
theorem Dp.same (s : Same H H') : ∀ (d : PyData) {v : V}, Dp K H v d → Dp K H' v d
  | .none, _, h => by cases h; exact .non
  | .bool _, _, h => by cases h; exact .bl _
  | .int _, _, h => by cases h; exact .int _
  | .str _, _, h => by cases h; exact .str _
  | .tuple ds, _, h => by
    cases h with
    | tup a b => exact .tup (Tups.of_same s _ _ a) (DpAll.same s ds b)
  | .list ds, _, h => by
    cases h with
    | lst a b => exact .lst (s.seq a) (DpAll.same s ds b)
  | .dict _, _, h => by cases h
theorem DpAll.same (s : Same H H') : ∀ (ds : List PyData) {vs : List V}, DpAll K H vs ds → DpAll K H' vs ds
  | [], _, h => by cases h; exact .nil
  | d :: ds, _, h => by
    cases h with
    | cons a b => exact .cons (Dp.same s d a) (DpAll.same s ds b)
end
theorem DpAll.len : ∀ {vs : List V} {ds : List PyData}, DpAll K H vs ds → vs.length = ds.length
  | _, _, .nil => rfl
  | _, _, .cons _ b => congrArg (· + 1) (DpAll.len b)
theorem DpAll.at_ : ∀ {vs : List V} {ds : List PyData} {i : Nat} {v : V}, DpAll K H vs ds → vs[i]? = some v → ∃ d, ds[i]? = some d ∧ Dp K H v d
  | _, _, _, _, .nil, e => by simp at e
  | _, _, 0, _, .cons a _, e => by
    cases Option.some.inj e
    exact ⟨_, rfl, a⟩
  | _, _, i + 1, _, .cons _ b, e => DpAll.at_ (i := i) b e
theorem DpAll.snoc : ∀ {vs : List V} {ds : List PyData} {v : V} {d : PyData}, DpAll K H vs ds → Dp K H v d → DpAll K H (vs ++ [v]) (ds ++ [d])
  | _, _, _, _, .nil, h => .cons h .nil
  | _, _, _, _, .cons a b, h => .cons a (DpAll.snoc b h)
theorem tupOnlyAll_at : ∀ {ds : List PyData} {i : Nat} {d : PyData}, tupOnlyAll ds = true → ds[i]? = some d → tupOnly d = true
  | [], _, _, _, e => by simp at e
  | x :: r, 0, d, o, e => by
    simp only [tupOnlyAll, Bool.and_eq_true] at o
    cases Option.some.inj e
    exact o.1
  | x :: r, i + 1, d, o, e => by
    simp only [tupOnlyAll, Bool.and_eq_true] at o
    exact tupOnlyAll_at (i := i) o.2 e
theorem tupOnlyAll_take : ∀ {ds : List PyData}, tupOnlyAll ds = true → ∀ i : Nat, tupOnlyAll (ds.take i) = true
  | [], _, i => by rw [List.take_nil] <;> rfl
  | x :: r, o, 0 => rfl
  | x :: r, o, i + 1 => by
    simp only [tupOnlyAll, Bool.and_eq_true] at o
    simp only [List.take_succ_cons, tupOnlyAll, Bool.and_eq_true]
    exact ⟨o.1, tupOnlyAll_take o.2 i⟩
theorem depth_at : ∀ {ds : List PyData} {i : Nat} {d : PyData}, ds[i]? = some d → d.depth ≤ PyData.depthAll ds
  | [], _, _, e => by simp at e
  | x :: r, 0, d, e => by
    cases Option.some.inj e
    simp only [PyData.depthAll]
    omega
  | x :: r, i + 1, d, e => by
    have h := depth_at (ds := r) (i := i) e
    simp only [PyData.depthAll]
    omega
end

/-- the built-in class of data -/
def kindN : PyData → String
  | .none => "NoneType"
  | .bool _ => "bool"
  | .int _ => "int"
  | .str _ => "str"
  | .list _ => "list"
  | .tuple _ => "tuple"
  | .dict _ => "dict"
theorem Dp.kind {K : PySem.W.Frag} {H : Hp} {v : V} {d : PyData} (h : Dp K H v d) (o : tupOnly d = true) : TyX K H v (.type (kindN d)) := by
  cases h with
  | non => exact .base .non
  | bl b => exact .base (.bl b)
  | int i => exact .base (.int i)
  | str x => exact .base (.str x)
  | lst _ _ => simp [tupOnly] at o
  | tup a _ =>
    rcases a with (a | ⟨z, a⟩) | ⟨z, its, n, a, c, _⟩
    · exact .base (.tup a)
    · exact .fTuple a
    · exact .kTuple a c
section
theorem kb0 : kitB "NoneType" "list" = some false ∧ kitB "NoneType" "tuple" = some false ∧ kitB "NoneType" "dict" = some false := by decide +kernel
theorem kb1 : kitB "bool" "list" = some false ∧ kitB "bool" "tuple" = some false ∧ kitB "bool" "dict" = some false := by decide +kernel
theorem kb2 : kitB "int" "list" = some false ∧ kitB "int" "tuple" = some false ∧ kitB "int" "dict" = some false := by decide +kernel
theorem kb3 : kitB "str" "list" = some false ∧ kitB "str" "tuple" = some false ∧ kitB "str" "dict" = some false := by decide +kernel
theorem kb4 : kitB "tuple" "list" = some false ∧ kitB "tuple" "tuple" = some true ∧ kitB "tuple" "dict" = some false := by decide +kernel
theorem kind_list {d : PyData} (o : tupOnly d = true) : kitB (kindN d) "list" = some false := by
  cases d with
  | none => exact kb0.1
  | bool b => exact kb1.1
  | int i => exact kb2.1
  | str x => exact kb3.1
  | tuple ds => exact kb4.1
  | list ds => simp [tupOnly] at o
  | dict ds => simp [tupOnly] at o
theorem kind_dict {d : PyData} (o : tupOnly d = true) : kitB (kindN d) "dict" = some false := by
  cases d with
  | none => exact kb0.2.2
  | bool b => exact kb1.2.2
  | int i => exact kb2.2.2
  | str x => exact kb3.2.2
  | tuple ds => exact kb4.2.2
  | list ds => simp [tupOnly] at o
  | dict ds => simp [tupOnly] at o
theorem kind_tuple {d : PyData} (o : tupOnly d = true) (n : ¬ ∃ ds, d = .tuple ds) : kitB (kindN d) "tuple" = some false := by
  cases d with
  | none => exact kb0.2.1
  | bool b => exact kb1.2.1
  | int i => exact kb2.2.1
  | str x => exact kb3.2.1
  | tuple ds => exact absurd ⟨ds, rfl⟩ n
  | list ds => simp [tupOnly] at o
  | dict ds => simp [tupOnly] at o
end
end Gd
end

section
set_option Elab.async false
set_option linter.all false
set_option maxRecDepth 100000
set_option maxHeartbeats 4000000
/-! repr of data, the reading of a promise that is free of texts under way. -/
namespace Gd
open PySem PySem.Spec PyProof.Rows L2

section
variable {K : PySem.W.Frag} {H : Hp}
mutual
theorem Dp.plain : ∀ (d : PyData) {v : V}, Dp K H v d → d.hasDict = false
  | .none, _, _ => by simp only [PyData.hasDict]
  | .bool _, _, _ => by simp only [PyData.hasDict]
  | .int _, _, _ => by simp only [PyData.hasDict]
  | .str _, _, _ => by simp only [PyData.hasDict]
  | .list ds, _, h => by
    cases h with
    | lst _ k =>
      simp only [PyData.hasDict]
      exact DpAll.plain ds k
  | .tuple ds, _, h => by
    cases h with
    | tup _ k =>
      simp only [PyData.hasDict]
      exact DpAll.plain ds k
  | .dict _, _, h => by cases h
theorem DpAll.plain : ∀ (ds : List PyData) {vs : List V}, DpAll K H vs ds → PyData.hasDictAll ds = false
  | [], _, _ => by simp only [PyData.hasDictAll]
  | d :: ds, _, h => by
    cases h with
    | cons a b =>
      simp only [PyData.hasDictAll, Dp.plain d a, DpAll.plain ds b, Bool.or_self]
end
end

/-- repr(x), x data -/
def rRepr (K : PySem.W.Frag) : List V → Hp → VK → Prop := fun xs H Q =>
  ∃ (x : V) (d : PyData), xs = [x] ∧ Dp K H x d ∧ d.showable = true ∧ d.shown.length ≤ sizeLine ∧ d.depth ≤ 60 ∧ Q (.str d.shown) H

section
variable {X : Cx}
theorem call_repr (g : Free X.A) (hu : X.A.units + 64 < cLine) : CallR X (.builtin "repr") (rRepr X.K) := by
  intro pins s σ H xs us Q I r h
  obtain ⟨x, d, rfl, hd, hs, hz, hdp, q⟩ := h
  obtain ⟨u, rfl, ru⟩ := r.one
  have pl := Dp.plain d hd
  obtain ⟨as, rd⟩ := Dp.reads I d x u hd ru
  have fin : ∀ (h' : Heap) (tk tk' : Nat), (∀ b o, s.heap.get? b = some o → h'.get? b = some o) →
      EP X pins σ Q (.str d.shown tk) { s with heap := h', toks := tk' } :=
    fun h' tk tk' k => ⟨.str d.shown, H, I.kept k, ⟨tk, rfl⟩, q⟩
  have fin0 : ∀ (tk tk' : Nat), EP X pins σ Q (.str d.shown tk) { s with toks := tk' } :=
    fun tk tk' => ⟨.str d.shown, H, I.tok tk', ⟨tk, rfl⟩, q⟩
  cases rd with
  | none => exact P.repr_of_none (fin0 _ _)
  | bool b => exact P.repr_of_bool (fin0 _ _)
  | int i t => exact P.repr_of_int (by simpa [PyData.showable] using hs) (fin0 _ _)
  | str z t => exact P.repr_of_str (fin0 _ _) hz
  | list h1 h2 h3 h4 =>
    exact repr_of_reads' (.list h1 h2 h3 h4) hs (PyData.noDict_hsm pl) g (by omega) (fun _ _ e => e) (fun h' u tk k => fin h' u tk k) hz
  | tuple h1 h2 h3 h4 =>
    exact repr_of_reads' (.tuple h1 h2 h3 h4) hs (PyData.noDict_hsm pl) g (by omega) (fun _ _ e => e) (fun h' u tk k => fin h' u tk k) hz
  | dict h1 h2 h3 h4 h5 => simp [PyData.hasDict] at pl
end
end Gd
end

section
set_option Elab.async false
set_option linter.all false
set_option maxRecDepth 100000
set_option maxHeartbeats 4000000
/-! Data with lists, and with two small dicts; what is not in it: the addresses of N. -/
namespace Gd
open PySem PySem.Spec PyProof.Rows L2

mutual
inductive Dd (K : PySem.W.Frag) (H : Hp) (N : Addr → Prop) : V → PyData → Prop
  | non : Dd K H N .non .none
  | bl (b : Bool) : Dd K H N (.bl b) (.bool b)
  | int (i : Int) : Dd K H N (.int i) (.int i)
  | str (x : Str) : Dd K H N (.str x) (.str x)
  | lst {a : Addr} {xs : List V} {ds : List PyData} : H a = some (.lst xs) → ¬ N a → a ≠ sysModules → DdAll K H N xs ds → Dd K H N (.ref a) (.list ds)
  | tup {a : Addr} {xs : List V} {ds : List PyData} : SqT K H a xs → DdAll K H N xs ds → Dd K H N (.ref a) (.tuple ds)
  | dct0 {a : Addr} : H a = some (.dK []) → ¬ N a → Dd K H N (.ref a) (.dict [])
  | dct1 {a : Addr} {x : Str} {i : Int} : H a = some (.dK [(Sum.inr x, .int i)]) → ¬ N a → Dd K H N (.ref a) (.dict [(.str x, .int i)])
inductive DdAll (K : PySem.W.Frag) (H : Hp) (N : Addr → Prop) : List V → List PyData → Prop
  | nil : DdAll K H N [] []
  | cons {v : V} {vs : List V} {d : PyData} {ds : List PyData} : Dd K H N v d → DdAll K H N vs ds → DdAll K H N (v :: vs) (d :: ds)
end

section
variable {K : PySem.W.Frag} {H H' : Hp} {N N' : Addr → Prop}
mutual
theorem Dd.stay (t : Tups K H H') (x : ∀ a o, ¬ N a → H a = some o → H' a = some o) (m : ∀ a, N' a → N a) : ∀ (d : PyData) {v : V}, Dd K H N v d → Dd K H' N' v d
  | .none, _, h => by cases h; exact .non
  | .bool _, _, h => by cases h; exact .bl _
  | .int _, _, h => by cases h; exact .int _
  | .str _, _, h => by cases h; exact .str _
  | .tuple ds, _, h => by
    cases h with
    | tup a b => exact .tup (t _ _ a) (DdAll.stay t x m ds b)
  | .list ds, _, h => by
    cases h with
    | lst a n g b => exact .lst (x _ _ n a) (fun z => n (m _ z)) g (DdAll.stay t x m ds b)
  | .dict ds, _, h => by
    cases h with
    | dct0 a n => exact .dct0 (x _ _ n a) (fun z => n (m _ z))
    | dct1 a n => exact .dct1 (x _ _ n a) (fun z => n (m _ z))
theorem DdAll.stay (t : Tups K H H') (x : ∀ a o, ¬ N a → H a = some o → H' a = some o) (m : ∀ a, N' a → N a) : ∀ (ds : List PyData) {vs : List V}, DdAll K H N vs ds → DdAll K H' N' vs ds
  | [], _, h => by cases h; exact .nil
  | d :: ds, _, h => by
    cases h with
    | cons a b => exact .cons (Dd.stay t x m d a) (DdAll.stay t x m ds b)
end
theorem Dd.same {v : V} {d : PyData} (s : Same H H') (h : Dd K H N v d) : Dd K H' N v d := Dd.stay (Tups.of_same s) (fun a o _ e => s a o e) (fun _ z => z) d h
theorem DdAll.same {vs : List V} {ds : List PyData} (s : Same H H') (h : DdAll K H N vs ds) : DdAll K H' N vs ds := DdAll.stay (Tups.of_same s) (fun a o _ e => s a o e) (fun _ z => z) ds h
theorem Dd.free {v : V} {d : PyData} (h : Dd K H N v d) : Dd K H (fun _ => False) v d := Dd.stay .refl (fun a o _ e => e) (fun _ z => z.elim) d h
theorem DdAll.free {vs : List V} {ds : List PyData} (h : DdAll K H N vs ds) : DdAll K H (fun _ => False) vs ds := DdAll.stay .refl (fun a o _ e => e) (fun _ z => z.elim) ds h
/-- behind a draw -/
theorem Dd.drawn {p : Addr} {ys : List V} {v : V} {d : PyData} (e : H p = some (.lst ys)) (x : Ex1 p H H') (h : Dd K H (· = p) v d) : Dd K H' (· = p) v d :=
  Dd.stay (x.tups e) (fun a o n q => x a o n q) (fun _ z => z) d h
theorem DdAll.drawn {p : Addr} {ys : List V} {vs : List V} {ds : List PyData} (e : H p = some (.lst ys)) (x : Ex1 p H H') (h : DdAll K H (· = p) vs ds) : DdAll K H' (· = p) vs ds :=
  DdAll.stay (x.tups e) (fun a o n q => x a o n q) (fun _ z => z) ds h
mutual
/-- what is new is not in it -/
theorem Dd.shun {q : Addr} (n : H q = none) : ∀ (d : PyData) {v : V}, Dd K H N v d → Dd K H (fun a => N a ∨ a = q) v d
  | .none, _, h => by cases h; exact .non
  | .bool _, _, h => by cases h; exact .bl _
  | .int _, _, h => by cases h; exact .int _
  | .str _, _, h => by cases h; exact .str _
  | .tuple ds, _, h => by
    cases h with
    | tup a b => exact .tup a (DdAll.shun n ds b)
  | .list ds, _, h => by
    cases h with
    | lst a m g b => exact .lst a (fun z => z.elim m (fun z => by rw [z, n] at a; cases a)) g (DdAll.shun n ds b)
  | .dict ds, _, h => by
    cases h with
    | dct0 a m => exact .dct0 a (fun z => z.elim m (fun z => by rw [z, n] at a; cases a))
    | dct1 a m => exact .dct1 a (fun z => z.elim m (fun z => by rw [z, n] at a; cases a))
theorem DdAll.shun {q : Addr} (n : H q = none) : ∀ (ds : List PyData) {vs : List V}, DdAll K H N vs ds → DdAll K H (fun a => N a ∨ a = q) vs ds
  | [], _, h => by cases h; exact .nil
  | d :: ds, _, h => by
    cases h with
    | cons a b => exact .cons (Dd.shun n d a) (DdAll.shun n ds b)
end
theorem DdAll.len : ∀ {vs : List V} {ds : List PyData}, DdAll K H N vs ds → vs.length = ds.length
  | _, _, .nil => rfl
  | _, _, .cons _ b => congrArg (· + 1) (DdAll.len b)
theorem DdAll.at_ : ∀ {vs : List V} {ds : List PyData} {i : Nat} {v : V}, DdAll K H N vs ds → vs[i]? = some v → ∃ d, ds[i]? = some d ∧ Dd K H N v d
  | _, _, _, _, .nil, e => by simp at e
  | _, _, 0, _, .cons a _, e => by
    cases Option.some.inj e
    exact ⟨_, rfl, a⟩
  | _, _, i + 1, _, .cons _ b, e => DdAll.at_ (i := i) b e
theorem DdAll.app : ∀ {vs us : List V} {ds es : List PyData}, DdAll K H N vs ds → DdAll K H N us es → DdAll K H N (vs ++ us) (ds ++ es)
  | _, _, _, _, .nil, h => h
  | _, _, _, _, .cons a b, h => .cons a (DdAll.app b h)
theorem DdAll.take : ∀ {vs : List V} {ds : List PyData}, DdAll K H N vs ds → ∀ i : Nat, DdAll K H N (vs.take i) (ds.take i)
  | _, _, .nil, i => by rw [List.take_nil, List.take_nil]; exact .nil
  | _, _, .cons _ _, 0 => .nil
  | _, _, .cons a b, i + 1 => .cons a (DdAll.take b i)
theorem DdAll.drop : ∀ {vs : List V} {ds : List PyData}, DdAll K H N vs ds → ∀ i : Nat, DdAll K H N (vs.drop i) (ds.drop i)
  | _, _, .nil, i => by rw [List.drop_nil, List.drop_nil]; exact .nil
  | _, _, .cons a b, 0 => .cons a b
  | _, _, .cons a b, i + 1 => DdAll.drop b i
theorem DdAll.rev : ∀ {vs : List V} {ds : List PyData}, DdAll K H N vs ds → DdAll K H N vs.reverse ds.reverse
  | _, _, .nil => .nil
  | _, _, .cons a b => by
    rw [List.reverse_cons, List.reverse_cons]
    exact DdAll.app (DdAll.rev b) (.cons a .nil)
mutual
theorem Dd.ofDp : ∀ (d : PyData) {v : V}, tupOnly d = true → Dp K H v d → Dd K H N v d
  | .none, _, _, h => by cases h; exact .non
  | .bool _, _, _, h => by cases h; exact .bl _
  | .int _, _, _, h => by cases h; exact .int _
  | .str _, _, _, h => by cases h; exact .str _
  | .tuple ds, _, o, h => by
    cases h with
    | tup a b =>
      simp only [tupOnly, Bool.and_eq_true] at o
      exact .tup a (DdAll.ofDp ds o.2 b)
  | .list _, _, o, _ => by simp [tupOnly] at o
  | .dict _, _, o, _ => by simp [tupOnly] at o
theorem DdAll.ofDp : ∀ (ds : List PyData) {vs : List V}, tupOnlyAll ds = true → DpAll K H vs ds → DdAll K H N vs ds
  | [], _, _, h => by cases h; exact .nil
  | d :: ds, _, o, h => by
    simp only [tupOnlyAll, Bool.and_eq_true] at o
    cases h with
    | cons a b => exact .cons (Dd.ofDp d o.1 a) (DdAll.ofDp ds o.2 b)
end
theorem Dd.kind {v : V} {d : PyData} (h : Dd K H N v d) : TyX K H v (.type (kindN d)) := by
  cases h with
  | non => exact .base .non
  | bl b => exact .base (.bl b)
  | int i => exact .base (.int i)
  | str x => exact .base (.str x)
  | lst e _ _ _ => exact .base (.lst e)
  | dct0 e _ => exact .base (.dK e)
  | dct1 e _ => exact .base (.dK e)
  | tup a _ =>
    rcases a with (a | ⟨z, a⟩) | ⟨z, its, n, a, c, _⟩
    · exact .base (.tup a)
    · exact .fTuple a
    · exact .kTuple a c
end
section
variable {X : Cx} {pins : List (Addr × Obj)} {σ : L2.St} {H : Hp} {s : Shared} {N : Addr → Prop}
theorem dk_reads (I : Inv X pins σ H s) {a : Addr} {kvs : List (Key × V)} (e : H a = some (.dK kvs)) :
    (a == sysModules) = false ∧ ∃ vs, KV kvs vs ∧ s.heap.DictOf (mixKind X.prog X.w) a vs := (I.hok a _ e).2
mutual
theorem Dd.reads (I : Inv X pins σ H s) : ∀ (d : PyData) (v : V) (u : Value), Dd X.K H N v d → RelV v u → ∃ as, Reads s.heap u d as ∧ sysModules ∉ as
  | .none, _, _, h, r => by
    cases h
    cases r
    exact ⟨[], .none, nofun⟩
  | .bool b, _, _, h, r => by
    cases h
    cases r
    exact ⟨[], .bool b, nofun⟩
  | .int i, _, _, h, r => by
    cases h
    obtain ⟨t, rfl⟩ := r
    exact ⟨[], .int i t, nofun⟩
  | .str x, _, _, h, r => by
    cases h
    obtain ⟨t, rfl⟩ := r
    exact ⟨[], .str x t, nofun⟩
  | .list ds, _, _, h, r => by
    cases h with
    | lst hs _ g ha =>
      cases r
      obtain ⟨its, rv, pl, _⟩ := I.list (SqL.of hs)
      obtain ⟨o, n, ho, hc, _, hd⟩ := pl
      obtain ⟨as, hr, hn⟩ := Dd.readsAll I ds _ its ha rv
      refine ⟨_, .list ho hc hd hr, fun m => ?_⟩
      rcases List.mem_cons.mp m with m | m
      · exact g m.symm
      · exact hn m
  | .tuple ds, _, _, h, r => by
    cases h with
    | tup hs ha =>
      cases r
      obtain ⟨its, rv, pl, _⟩ := I.tuple hs
      obtain ⟨o, ho, hc, n, hd⟩ := pl
      obtain ⟨as, hr, hn⟩ := Dd.readsAll I ds _ its ha rv
      exact ⟨as, .tuple ho hc hd hr, hn⟩
  | .dict ds, _, _, h, r => by
    cases h with
    | dct0 e _ =>
      cases r
      obtain ⟨g, vs, kv, o, es, ep, ho, ex, hd, ks, ps, _⟩ := dk_reads I e
      cases kv
      cases hes : es.toList with
      | nil =>
        refine ⟨_, .dict (as := []) (bs := []) ho ex.1 hd ?_ ?_, fun m => ?_⟩
        · rw [hes]; exact .nil
        · rw [hes]; exact .nil
        · rcases List.mem_cons.mp m with m | m
          · rw [← m] at g
            simp at g
          · cases m
      | cons z zs =>
        rw [hes] at ps
        cases ps
    | @dct1 a x i e _ =>
      cases r
      obtain ⟨g, vs, kv, o, es, ep, ho, ex, hd, ks, ps, _⟩ := dk_reads I e
      cases kv with
      | @cons _ q _ _ r0 rest =>
      cases rest
      obtain ⟨qk, qv⟩ := q
      obtain ⟨rk, t, rv⟩ := r0
      dsimp only at rk rv
      subst rk rv
      cases hes : es.toList with
      | nil =>
        rw [hes] at ps
        cases ps
      | cons z zs =>
        rw [hes] at ps
        cases ps with
        | cons p1 p2 p3 =>
        cases p3
        obtain ⟨tk, ek⟩ : ∃ tk, z.key = .str x tk := by
          have p1 : keyIs (Sum.inr x) z.key = true := p1
          rcases keyIs_shape p1 with ⟨i, t, h1, h2⟩ | ⟨y, t, h1, h2⟩
          · cases h1
          · cases h1
            exact ⟨t, h2⟩
        refine ⟨_, .dict (as := [] ++ []) (bs := [] ++ []) ho ex.1 hd ?_ ?_, fun m => ?_⟩
        · rw [hes]
          show ReadsAll s.heap [z.key] [.str x] _
          rw [ek]
          exact .cons (.str x tk) .nil
        · rw [hes]
          show ReadsAll s.heap [z.val] [.int i] _
          rw [p2]
          exact .cons (.int i t) .nil
        · rcases List.mem_cons.mp m with m | m
          · rw [← m] at g
            simp at g
          · cases m
theorem Dd.readsAll (I : Inv X pins σ H s) : ∀ (ds : List PyData) (vs : List V) (us : List Value), DdAll X.K H N vs ds → Vals vs us → ∃ as, ReadsAll s.heap us ds as ∧ sysModules ∉ as
  | [], _, _, h, r => by
    cases h
    cases r
    exact ⟨[], .nil, nofun⟩
  | d :: ds, _, _, h, r => by
    cases h with
    | cons h1 h2 =>
      cases r with
      | cons r1 r2 =>
        obtain ⟨as, q1, n1⟩ := Dd.reads I d _ _ h1 r1
        obtain ⟨bs, q2, n2⟩ := Dd.readsAll I ds _ _ h2 r2
        exact ⟨as ++ bs, .cons q1 q2, fun m => (List.mem_append.mp m).elim n1 n2⟩
end
/-- repr(x), x such data -/
def rReprD (K : PySem.W.Frag) : List V → Hp → VK → Prop := fun xs H Q =>
  ∃ (x : V) (d : PyData) (N : Addr → Prop), xs = [x] ∧ Dd K H N x d ∧ d.showable = true ∧ d.shown.length ≤ sizeLine ∧ d.depth ≤ 60 ∧ Q (.str d.shown) H
theorem call_reprD (g : Free X.A) (hu : X.A.units + 64 < cLine) : CallR X (.builtin "repr") (rReprD X.K) := by
  intro pins s σ H xs us Q I r h
  obtain ⟨x, d, N, rfl, hd, hs, hz, hdp, q⟩ := h
  obtain ⟨u, rfl, ru⟩ := r.one
  obtain ⟨as, rd, hn⟩ := Dd.reads I d x u hd ru
  have fin : ∀ (h' : Heap) (tk tk' : Nat), (∀ b o, s.heap.get? b = some o → h'.get? b = some o) →
      EP X pins σ Q (.str d.shown tk) { s with heap := h', toks := tk' } :=
    fun h' tk tk' k => ⟨.str d.shown, H, I.kept k, ⟨tk, rfl⟩, q⟩
  have fin0 : ∀ (tk tk' : Nat), EP X pins σ Q (.str d.shown tk) { s with toks := tk' } :=
    fun tk tk' => ⟨.str d.shown, H, I.tok tk', ⟨tk, rfl⟩, q⟩
  cases rd with
  | none => exact P.repr_of_none (fin0 _ _)
  | bool b => exact P.repr_of_bool (fin0 _ _)
  | int i t => exact P.repr_of_int (by simpa [PyData.showable] using hs) (fin0 _ _)
  | str z t => exact P.repr_of_str (fin0 _ _) hz
  | list h1 h2 h3 h4 =>
    exact repr_of_reads' (.list h1 h2 h3 h4) hs (fun _ => hn) g (by omega) (fun _ _ e => e) (fun h' u tk k => fin h' u tk k) hz
  | tuple h1 h2 h3 h4 =>
    exact repr_of_reads' (.tuple h1 h2 h3 h4) hs (fun _ => hn) g (by omega) (fun _ _ e => e) (fun h' u tk k => fin h' u tk k) hz
  | dict h1 h2 h3 h4 h5 =>
    exact repr_of_reads' (.dict h1 h2 h3 h4 h5) hs (fun _ => hn) g (by omega) (fun _ _ e => e) (fun h' u tk k => fin h' u tk k) hz
end
end Gd
end

section
set_option Elab.async false
set_option linter.all false
set_option maxRecDepth 100000
set_option maxHeartbeats 4000000
namespace Gd
open PySem PySem.Spec PyProof.Rows L2

section
variable {X : Cx}
/-- the address of a new object is none of the interpreter's own -/
theorem new_no {pins : List (Addr × Obj)} {σ : L2.St} {H : Hp} {s : Shared} (I : Inv X pins σ H s) : s.heap.objs.size ≠ sysModules := Nat.ne_of_gt I.big
def tLstS (t : TA) : TE := fun σ H Q => t σ H fun xs H1 => xs.length ≤ sizeLine ∧ ∀ p, H1 p = none → p ≠ sysModules → Q (.ref p) (upd H1 p (.lst xs))
theorem pe_lstS {es : List Expr} {pos : Pos} {t : TA} (h : PA X es t) : PE X (.List es pos) (tLstS t) := by
  constructor
  intro pins s σ H Q I hq
  refine wpAny_List_spliced (thn (h.run pos pins s σ H _ I hq) ?_)
  rintro us s1 ⟨xs, H1, J, r, z, q⟩
  have hn : H1 s1.heap.objs.size = none := J.hok.fresh (Nat.le_refl _)
  have J2 := J.laid (a := s1.heap.objs.size) (o := .lst xs) (h' := s1.heap.push { cls := .type "list", data := .seq us.toArray }) (t' := s1.toks)
    (fun b u e => Heap.get?_push_of_some _ e) (Nat.le_refl _) ⟨z, us, 0, r, Heap.get?_push_size _ rfl⟩
  exact ⟨by rw [← r.length]; exact z, .ref s1.heap.objs.size, _, J2, rfl, q _ hn (new_no J)⟩
theorem call_listS : CallR X (.type "list") (fun xs H Q => ∃ p ys, xs = [.ref p] ∧ SqT X.K H p ys ∧ ∀ l, H l = none → l ≠ sysModules → Q (.ref l) (upd H l (.lst ys))) := by
  intro pins s σ H xs us Q I r h
  obtain ⟨p, ys, rfl, hq, q⟩ := h
  obtain ⟨u, rfl, rx⟩ := r.one
  cases rx
  obtain ⟨its, r', pl, hz⟩ := I.tuple hq
  have hlen := r'.length
  obtain ⟨o, ho, hc, n, hd⟩ := pl
  refine call_list_seq p (.inr rfl) ho hc hd ?_ (by simp only [List.size_toArray] <;> omega)
  intro h' c' kp e
  have J := I.laid (a := s.heap.objs.size) (o := .lst ys) (t' := s.toks) kp (Nat.le_refl _) ⟨hz, its, c', r', e⟩
  exact ⟨.ref s.heap.objs.size, _, J, rfl, q _ (I.hok.fresh (Nat.le_refl _)) (new_no I)⟩

/-! truths as numbers -/
theorem op_add_bi : OpR X (binaryOp .Add) (fun x y H Q => ∃ k i, x = .bl k ∧ y = .int i ∧ Q (.int ((if k = true then 1 else 0) + i)) H) := by
  intro pins s σ H x y v u Q I rx ry h
  obtain ⟨k, i, rfl, rfl, q⟩ := h
  obtain ⟨t, rfl⟩ := ry
  cases rx
  exact IntBool.add_bool_int ⟨.int ((if k = true then 1 else 0) + i), H, I.tok _, ⟨_, rfl⟩, q⟩
theorem op_sub_ib : OpR X (binaryOp .Sub) (fun x y H Q => ∃ i k, x = .int i ∧ y = .bl k ∧ Q (.int (i - (if k = true then 1 else 0))) H) := by
  intro pins s σ H x y v u Q I rx ry h
  obtain ⟨i, k, rfl, rfl, q⟩ := h
  obtain ⟨t, rfl⟩ := rx
  cases ry
  exact IntBool.sub_int_bool ⟨.int (i - (if k = true then 1 else 0)), H, I.tok _, ⟨_, rfl⟩, q⟩
theorem call_str_bool : CallR X (.type "str") (fun xs H Q => ∃ b, xs = [.bl b] ∧ Q (.str (if b then "True" else "False")) H) := by
  intro pins s σ H xs us Q I r h
  obtain ⟨b, rfl, q⟩ := h
  obtain ⟨u, rfl, rx⟩ := r.one
  cases rx
  exact PySem.P.str_of_bool ⟨.str (if b then "True" else "False"), H, I.tok _, ⟨_, rfl⟩, q⟩
end

/-! a dict is no text -/
section
variable {A : Around} {s : Shared} {P : Program} {w : World}
theorem dict_declines (d : Addr) (b : Str) (u : Tok) :
    Meets (Builtin.«dict.__eq__» ⟨[.ref d, .str b u], []⟩) (fun _ R s => s.TypeIs (.ref d) "dict" ∧ R (.ok (.ret .notImplemented)) s) :=
  .of_wp fun prog w A R s h => by
    obtain ⟨hd, h⟩ := h
    show wpAny _ _ (Builtin.Dict.dictSlotArgs "__eq__" ⟨[.ref d, .str b u], []⟩ >>= _) _ _ s
    refine wpAny_bind ?_
    unfold Builtin.Dict.dictSlotArgs
    refine wpAny_bind (wpAny_notOrdered_dict hd ?_)
    refine wpAny_pure ?_
    refine wpAny_bind (wpAny_isInstance (T := "str") (typeIs_str s b u) PySem.F.sub_str_dict ?_)
    simp only [Bool.not_false, if_true]
    exact wpAny_bind (wpAny_rule (wpAny_pure ⟨_, rfl, h⟩))
theorem str_declines (d : Addr) (es : Array DictEntry) (ep : Nat) (b : Str) (u : Tok) :
    Meets (Builtin.«str.__eq__» ⟨[.str b u, .ref d], []⟩)
      (fun _ R s => s.heap.get? d = some { cls := .type "dict", dict := none, data := .dict es ep, slots := #[] } ∧ R (.ok (.ret .notImplemented)) s) :=
  .of_wp fun prog w A R s h => by
    obtain ⟨hp, g, d, tk, os⟩ := s
    obtain ⟨hd, h⟩ := h
    wp_walk using wpAny_load hd
    exact ⟨_, rfl, h⟩
variable {d : Addr} {es : Array DictEntry} {ep : Nat}
theorem rc_dict_str (b : Str) (u : Tok) (ho : s.heap.get? d = some { cls := .type "dict", dict := none, data := .dict es ep, slots := #[] }) (hu : A.units < cLine) :
    SeqAt.RcAt A s (.ref d) (.str b u) false := fun prog w E Q h =>
  SeqAt.rc_eq_decline_or (k := false) ⟨_, ho, rfl⟩ (typeIs_str s b u) (by decide) PySem.F.sub_str_dict PySem.F.slot_dict_eq PySem.F.slot_str_eq_refl
    (fun _ hq => call_meets PySem.F.slot_dict_eq ⟨_, ho, rfl⟩ PySem.F.entry_dict_eq (PySem.F.args_dict_eq_2 _ _) (dict_declines d b u) ⟨⟨_, ho, rfl⟩, hq⟩)
    (fun _ hq => call_meets PySem.F.slot_str_eq_refl (typeIs_str s b u) PySem.F.entry_str_eq (PySem.F.args_str_eq_2 _ _) (str_declines d es ep b u) ⟨ho, hq⟩)
    (fun _ hq => wpAny_of_eq (rfl : isSame (.ref d) (.str b u) = pure false) hq) (.inr hu) h
theorem rc_str_dict (b : Str) (u : Tok) (ho : s.heap.get? d = some { cls := .type "dict", dict := none, data := .dict es ep, slots := #[] }) (hu : A.units < cLine) :
    SeqAt.RcAt A s (.str b u) (.ref d) false := fun prog w E Q h =>
  SeqAt.rc_eq_decline_or (k := false) (typeIs_str s b u) ⟨_, ho, rfl⟩ (by decide) PySem.F.sub_dict_str PySem.F.slot_str_eq PySem.F.slot_dict_eq_refl
    (fun _ hq => call_meets PySem.F.slot_str_eq (typeIs_str s b u) PySem.F.entry_str_eq (PySem.F.args_str_eq_2 _ _) (str_declines d es ep b u) ⟨ho, hq⟩)
    (fun _ hq => call_meets PySem.F.slot_dict_eq_refl ⟨_, ho, rfl⟩ PySem.F.entry_dict_eq (PySem.F.args_dict_eq_2 _ _) (dict_declines d b u) ⟨⟨_, ho, rfl⟩, hq⟩)
    (fun _ hq => wpAny_of_eq (rfl : isSame (.str b u) (.ref d) = pure false) hq) (.inr hu) h
theorem eq_str_dict (b : Str) (u : Tok) (ho : s.heap.get? d = some { cls := .type "dict", dict := none, data := .dict es ep, slots := #[] }) (hu : A.units < cLine) :
    SeqAt.EqAt A s (.str b u) (.ref d) false := fun prog w E Q h => by
  unfold eqBool
  refine wpAny_holding (wpAny_ite_split (fun q => absurd (eq_of_beq q) nofun) (fun _ => ?_))
  exact wpAny_bind (rc_str_dict b u ho hu prog w E _ (wpAny_truthy_bool h))
end

/-! data beside a text -/
def isStr (d : PyData) (b : Str) : Bool := match d with
  | .str x => x == b
  | _ => false
section
variable {X : Cx} {pins : List (Addr × Obj)} {σ : L2.St} {H : Hp} {s : Shared} {N : Addr → Prop} {A : Around}
theorem Dd.dictAt (I : Inv X pins σ H s) {v : V} {u : Value} {ks : List (PyData × PyData)} (h : Dd X.K H N v (.dict ks)) (r : RelV v u) :
    ∃ d es ep, u = .ref d ∧ s.heap.get? d = some { cls := .type "dict", dict := none, data := .dict es ep, slots := #[] } := by
  have key : ∀ {a : Addr} {kvs : List (Key × V)}, H a = some (.dK kvs) → ∃ es ep, s.heap.get? a = some { cls := .type "dict", dict := none, data := .dict es ep, slots := #[] } := by
    intro a kvs e
    obtain ⟨_, vs, _, o, es, ep, ho, ⟨e1, e2, e3⟩, hd, _⟩ := dk_reads I e
    obtain ⟨oc, od, dt, sl⟩ := o
    dsimp only at e1 e2 e3 hd
    subst e1 e2 e3 hd
    exact ⟨es, ep, ho⟩
  cases h with
  | dct0 e _ =>
    cases r
    obtain ⟨es, ep, ho⟩ := key e
    exact ⟨_, es, ep, rfl, ho⟩
  | dct1 e _ =>
    cases r
    obtain ⟨es, ep, ho⟩ := key e
    exact ⟨_, es, ep, rfl, ho⟩
theorem Dd.strEq (I : Inv X pins σ H s) (hu : A.units < cLine) {d : PyData} {v : V} {u : Value} (h : Dd X.K H N v d) (r : RelV v u) (b : Str) (t : Tok) :
    SeqAt.EqAt A s (.str b t) u (isStr d b) := by
  cases d with
  | none =>
    cases h
    cases r
    exact .str_none b t
  | bool k =>
    cases h
    cases r
    exact .str_bool b t k
  | int i =>
    cases h
    obtain ⟨t2, rfl⟩ := r
    exact .str_int b t i t2
  | str x =>
    cases h
    obtain ⟨t2, rfl⟩ := r
    have e := SeqAt.EqAt.str_str (A := A) (s := s) b t x t2
    have e2 : isStr (.str x) b = (b == x) := by
      show (x == b) = (b == x)
      exact Bool.eq_iff_iff.mpr ⟨fun z => by rw [eq_of_beq z] <;> exact beq_self_eq_true _, fun z => by rw [eq_of_beq z] <;> exact beq_self_eq_true _⟩
    rw [e2]
    exact e
  | list ds =>
    cases h with
    | lst e n g k =>
    cases r
    obtain ⟨its, _, pl, _⟩ := I.list (SqL.of e)
    exact .str_list b t pl.isList hu
  | tuple ds =>
    cases h with
    | tup e k =>
    cases r
    obtain ⟨its, _, pl, _⟩ := I.tuple e
    exact .str_tuple b t pl hu
  | dict ks =>
    obtain ⟨a, es, ep, rfl, ho⟩ := Dd.dictAt I h r
    exact eq_str_dict b t ho hu
end
end Gd
end

section
set_option Elab.async false
set_option linter.all false
set_option maxRecDepth 100000
set_option maxHeartbeats 4000000
namespace Gd
open PySem PySem.Spec PyProof.Rows L2

section
variable {X : Cx}
/-- data == a text -/
def rEqS (K : PySem.W.Frag) : R2 := fun x y H Q => ∃ (N : Addr → Prop) (d : PyData) (b : Str), Dd K H N x d ∧ y = .str b ∧ Q (.bl (isStr d b)) H
theorem op_eqS (hu : X.A.units < cLine) : OpR X (compareOp .Eq) (rEqS X.K) := by
  intro pins s σ H x y v u Q I rx ry h
  obtain ⟨N, d, b, h, rfl, q⟩ := h
  obtain ⟨t, rfl⟩ := ry
  have fin : EP X pins σ Q (.bool (isStr d b)) s := ⟨.bl _, H, I, rfl, q⟩
  cases d with
  | none =>
    cases h
    cases rx
    exact SeqAt.RcAt.none_str b t _ _ _ _ fin
  | bool k =>
    cases h
    cases rx
    exact SeqAt.RcAt.bool_str k b t _ _ _ _ fin
  | int i =>
    cases h
    obtain ⟨t2, rfl⟩ := rx
    exact SeqAt.RcAt.int_str i t2 b t _ _ _ _ fin
  | str z =>
    cases h
    obtain ⟨t2, rfl⟩ := rx
    exact SeqAt.RcAt.str_str z t2 b t _ _ _ _ fin
  | list ds =>
    cases h with
    | lst e n g k =>
    cases rx
    obtain ⟨its, _, pl, _⟩ := I.list (SqL.of e)
    exact SeqAt.RcAt.list_str b t pl.isList hu _ _ _ _ fin
  | tuple ds =>
    cases h with
    | tup e k =>
    cases rx
    obtain ⟨its, _, pl, _⟩ := I.tuple e
    exact SeqAt.RcAt.tuple_str b t pl hu _ _ _ _ fin
  | dict ks =>
    obtain ⟨a, es, ep, rfl, ho⟩ := Dd.dictAt I h rx
    exact rc_dict_str b t ho hu _ _ _ _ fin

/-- data not in a tuple of texts -/
def rNiS (K : PySem.W.Frag) : R2 := fun x y H Q => ∃ (N : Addr → Prop) (d : PyData) (p : Addr) (bs : List Str), Dd K H N x d ∧ y = .ref p ∧ SqT K H p (bs.map V.str) ∧ Q (.bl (!bs.any (isStr d))) H
def hitS (d : PyData) : Value → Bool
  | .str b _ => isStr d b
  | _ => false
theorem hits {d : PyData} : ∀ {bs : List Str} {us : List Value}, Vals (bs.map V.str) us → us.any (hitS d) = bs.any (isStr d) ∧ ∀ u ∈ us, ∃ b t, u = .str b t
  | [], _, h => by
    cases h
    exact ⟨rfl, nofun⟩
  | b :: bs, _, h => by
    cases h with
    | cons r rs =>
    obtain ⟨t, rfl⟩ := r
    obtain ⟨e, f⟩ := hits rs
    refine ⟨?_, fun u m => ?_⟩
    · rw [List.any_cons, List.any_cons, e]
      rfl
    · rcases List.mem_cons.mp m with rfl | m
      · exact ⟨b, t, rfl⟩
      · exact f u m
theorem op_notInS (hu : X.A.units + 1 < cLine) : OpR X (compareOp .NotIn) (rNiS X.K) := by
  intro pins s σ H x y v u Q I rx ry h
  obtain ⟨N, d, p, bs, hd, rfl, hp, q⟩ := h
  cases ry
  obtain ⟨its, r, pl, _⟩ := I.tuple hp
  obtain ⟨e, f⟩ := hits (d := d) r
  refine SeqAt.notIn_tupleAt (hitS d) pl (fun w hw => ?_) ⟨.bl _, H, I, rfl, ?_⟩
  · obtain ⟨b, t, rfl⟩ := f w (by simpa using hw)
    exact Dd.strEq I (by show X.A.units + 1 < cLine; exact hu) hd rx b t
  · rw [show its.toArray.any (hitS d) = its.any (hitS d) by simp, e]
    exact q
/-- a tuple == () -/
def rEqT0 (K : PySem.W.Frag) : R2 := fun x y H Q => ∃ a b xs, x = .ref a ∧ y = .ref b ∧ SqT K H a xs ∧ SqT K H b [] ∧ Q (.bl xs.isEmpty) H
theorem op_eqT0 (hu : X.A.units < cLine) : OpR X (compareOp .Eq) (rEqT0 X.K) := by
  intro pins s σ H x y v u Q I rx ry h
  obtain ⟨a, b, xs, rfl, rfl, ha, hb, q⟩ := h
  cases rx
  cases ry
  obtain ⟨its, r, pl, _⟩ := I.tuple ha
  obtain ⟨its2, r2, pl2, _⟩ := I.tuple hb
  cases r2
  have e : ((List.range (min its.toArray.size (#[] : Array Value).size)).all (fun _ => true) && its.toArray.size == (#[] : Array Value).size) = xs.isEmpty := by
    cases r with
    | nil => rfl
    | cons _ _ => simp
  refine SeqAt.RcAt.tuples (e := fun _ => true) pl pl2 hu (fun j _ h2 => absurd h2 (by simp)) _ _ _ _ ⟨.bl _, H, I, rfl, ?_⟩
  rw [e]
  exact q
end

/-! t[::-1] -/
section
variable {prog : Program} {w : World} {A : Around} {E : Value → Shared → Prop} {s : Shared}
theorem places_rev (n : Nat) : Builtin.Slice.slicePlaces ((n : Int) - 1) (-1) (-1) = n := by
  unfold Builtin.Slice.slicePlaces
  rw [if_neg (by decide)]
  split
  · rw [show (-(-1) : Int) = 1 by decide, Int.ediv_one]
    omega
  · omega
theorem pick_rev (xs : Array Value) : ((List.range xs.size).filterMap fun (k : Nat) => xs[(((xs.size : Int) - 1) + (k : Int) * (-1)).toNat]?).toArray = xs.toList.reverse.toArray := by
  have e : (List.range xs.size).filterMap (fun (k : Nat) => xs[(((xs.size : Int) - 1) + (k : Int) * (-1)).toNat]?) =
      ((List.range xs.size).map fun k => xs.size - 1 - k).filterMap (xs[·]?) := by
    rw [List.filterMap_map]
    refine congrArg (fun f => List.filterMap f (List.range xs.size)) (funext fun k => ?_)
    show xs[(((xs.size : Int) - 1) + (k : Int) * (-1)).toNat]? = xs[xs.size - 1 - k]?
    rw [show (((xs.size : Int) - 1) + (k : Int) * (-1)).toNat = xs.size - 1 - k by omega]
  rw [e, PySem.W.krv_range, List.filterMap_reverse, PySem.W.krv_all]
theorem applied_rev {sl : Addr} {vs : Value} {n : Nat} {Q : Int × Int × Nat → Shared → Prop} (hs : s.heap.IsSliceOf sl .none .none vs) (ps : IsPart vs (some (-1)))
    (h : Q ((n : Int) - 1, -1, n) s) : wpAny (model prog w) A (Builtin.Slice.sliceApplied (.ref sl) (pure (n : Int))) Q E s := by
  obtain ⟨os, hos, hcs, hds⟩ := id hs
  unfold Builtin.Slice.sliceApplied Builtin.Slice.sliceFields
  refine wpAny_bind (wpAny_bind (wpAny_field hos hds (x := .none) rfl ?_))
  refine wpAny_bind (wpAny_field hos hds (x := .none) rfl (wpAny_bind (wpAny_field hos hds (x := vs) rfl (wpAny_pure ?_))))
  refine wpAny_bind (HT.slicePart_ ps ?_)
  show wpAny _ _ (if ((-1 : Int) == 0) = true then _ else _) _ _ s
  rw [if_neg (by decide)]
  refine wpAny_bind (slicePart_none (wpAny_bind (slicePart_none (wpAny_bind (wpAny_pure ?_)))))
  show wpAny _ _ (pure ((n : Int) - 1, (-1 : Int), Builtin.Slice.slicePlaces ((n : Int) - 1) (-1) (-1))) _ _ s
  rw [places_rev]
  exact wpAny_pure h
theorem get_rev {t sl : Addr} {items : Array Value} {vs : Value} {Q : Value → Shared → Prop} (ht : IsTup s.heap t items) (hs : s.heap.IsSliceOf sl .none .none vs) (ps : IsPart vs (some (-1)))
    (h : Q (.ref s.heap.objs.size) { s with heap := s.heap.push { cls := .type "tuple", data := .seq items.toList.reverse.toArray } })
    (hz : items.size ≤ sizeLine) : wpAny (model prog w) A (getItem (.ref t) (.ref sl)) Q E s := by
  have ok : sizeOk (.seq items.toList.reverse.toArray) := by
    show items.toList.reverse.toArray.size ≤ sizeLine
    simpa using hz
  obtain ⟨os, hos, hcs, hds⟩ := id hs
  have hT : s.TypeIs (.ref sl) "slice" := ⟨os, hos, hcs⟩
  unfold getItem
  try with_reducible refine wpAny_holding ?_
  refine wpAny_bind (wpAny_sequenceKey ht.typeIs (by decide) ?_)
  refine wpAny_bind (wpAny_callSpecial?_slot (name := Str.ofString "__getitem__") ht.typeIs PyProof.Rows.slot_tuple_getitem
    (wpAny_call_entry PyProof.Rows.slot_tuple_getitem ht.typeIs entry_tuple_getitem ?_ (args_tuple_getitem _ _)))
  show wpAny _ _ (Builtin.Tuple.tupleItemsOf (.ref t) >>= _) _ _ s
  refine wpAny_bind (PyProof.Rows.tupleItemsOf_ ht (wpAny_bind (wpAny_typeOf hT ?_)))
  rw [if_pos (by decide)]
  refine wpAny_bind (applied_rev hs ps ?_)
  have no : ¬ ((((items.size : Int) - 1) == 0 && (-1 : Int) == 1 && items.size == items.size) = true) := by simp
  show wpAny _ _ (if (((items.size : Int) - 1) == 0 && (-1 : Int) == 1 && items.size == items.size) = true then _ else _) _ _ s
  rw [if_neg no, pick_rev]
  first
    | exact wpAny_bind (m := Builtin.Tuple.tupleExact _) (wpAny_newObj_type (wpAny_pure ⟨_, rfl, wpAny_pure h⟩) ok)
    | exact wpAny_bind (m := Builtin.Tuple.tupleExact _) (wpAny_newObj_type (wpAny_bind (wpAny_pure (wpAny_pure ⟨_, rfl, wpAny_pure h⟩))) ok)
    | exact wpAny_bind (wpAny_bind (m := Builtin.Tuple.tupleExact _) (wpAny_newObj_type (wpAny_pure (wpAny_pure ⟨_, rfl, wpAny_pure h⟩)) ok))
    | exact wpAny_bind (wpAny_bind (m := Builtin.Tuple.tupleExact _) (wpAny_newObj_type (wpAny_pure ⟨_, rfl, wpAny_pure h⟩) ok))
end
section
variable {X : Cx}
def tRevT (K : PySem.W.Frag) (te : TE) : TE := fun σ H Q => te σ H fun x H1 => ∃ a xs, x = .ref a ∧ SqT K H1 a xs ∧ ∀ p, H1 p = none → Q (.ref p) (upd H1 p (.tup xs.reverse))
theorem pe_revT {e : Expr} {te : TE} {k : Nat} {p1 p2 p3 pos : Pos} (he : PE X e te) :
    PE X (.Subscript e (.Slice none none (some (.UnaryOp .USub (.Constant (.int 1) k p1) p2)) p3) pos) (tRevT X.K te) := by
  constructor
  intro pins s σ H Q I h
  refine Subscript_ (thn (he.run pins s σ H _ I h) ?_)
  rintro v s1 ⟨x, H1, I1, r1, a, xs, rfl, hx, q⟩
  cases r1
  have hst : PO X (some (.UnaryOp .USub (.Constant (.int 1) k p1) p2)) (tPart (tUn (rU fun i => .int (-i)) (tC (.int 1)))) := po_some (pe_un un_neg pe_int)
  refine wpAny_Slice (thn (po_none.run pins s1 σ H1 (fun o H2 => o = none ∧ H2 = H1) I1 ⟨rfl, rfl⟩) ?_)
  rintro vl s2 ⟨l, H2, I2, pl, rfl, rfl⟩
  refine thn (po_none.run pins s2 σ H2 (fun o H3 => o = none ∧ H3 = H2) I2 ⟨rfl, rfl⟩) ?_
  rintro vu s3 ⟨u, H3, I3, pu, rfl, rfl⟩
  refine thn (hst.run pins s3 σ H3 (fun o H4 => o = some (-1) ∧ H4 = H3) I3 ⟨1, rfl, -1, rfl, rfl, rfl⟩) ?_
  rintro vs s4 ⟨o, H4, I4, ps, rfl, rfl⟩
  cases pl
  cases pu
  have J : Inv X pins σ H4 { s4 with heap := s4.heap.push { cls := .type "slice", data := .fields #[.none, .none, vs] } } := I4.kept (t' := s4.toks) fun b ob z => Heap.get?_push_of_some _ z
  obtain ⟨its, r, ht, hz⟩ := J.tuple hx
  have hlen := r.length
  refine tail_any (ops := [.ref a, .ref s4.heap.objs.size]) ht.typeIs (PyProof.Rows.slot_tuple_getitem.lookup) ?_ (by with_unfolding_all rfl)
  refine get_rev ht (Heap.IsSliceOf.new _ .none .none vs) ps ?_ (by rw [List.size_toArray]; omega)
  refine ⟨.ref _, _, J.laid (t' := s4.toks) (o := .tup xs.reverse) (fun b ob z => Heap.get?_push_of_some _ z) (Nat.le_refl _) ?_, rfl, q _ (J.hok.fresh (Nat.le_refl _))⟩
  exact ⟨by rw [List.length_reverse]; exact hz, _, r.reverse, IsTup.new _ _⟩
end
end Gd
end

section
set_option Elab.async false
set_option linter.all false
set_option maxRecDepth 100000
set_option maxHeartbeats 4000000
/-! Lists of ints and slabs in the heap; what they show. -/
namespace Gd
open PySem PySem.Spec PyProof.Rows L2
theorem int_shown {i : Int} (h : i.natAbs ≤ 10 ^ 40) : (PyData.int i).shown.length ≤ 100 ∧ i.natAbs.log2 < 1920 ∧ (PyData.int i).weight ≤ 200 := by
  have h1 : i.natAbs < 10 ^ 41 := Nat.lt_of_le_of_lt h (by decide)
  have hl : i.natAbs.log2 < 190 := by
    by_cases z : i.natAbs = 0
    · rw [z]; decide
    · exact (Nat.log2_lt z).mpr (Nat.lt_of_lt_of_le h1 (by decide +kernel))
  refine ⟨?_, by omega, ?_⟩
  · have e := int_text_length_le10 (k := 41) (by decide) h1
    have e2 : (PyData.int i).shown.length = (toString i).length := by
      show (Str.ofString (toString i)).length = _
      rw [PySem.ofString_length]
    omega
  · simp only [PyData.weight]
    split <;> omega
theorem ints_leaves : ∀ {ns : List Int}, (∀ i ∈ ns, i.natAbs ≤ 10 ^ 40) → PyData.leavesShortAll 100 (ns.map .int) = true ∧ PyData.showableAll (ns.map .int) = true ∧ PyData.weightAll (ns.map .int) ≤ 201 * ns.length ∧ PyData.depthAll (ns.map .int) = 0
  | [], _ => ⟨rfl, rfl, Nat.zero_le _, rfl⟩
  | i :: ns, h => by
    obtain ⟨a, b, c, d⟩ := ints_leaves (ns := ns) fun j hj => h j (by simp [hj])
    obtain ⟨e1, e2, e3⟩ := int_shown (h i (by simp))
    refine ⟨?_, ?_, ?_, ?_⟩
    · simp only [List.map_cons, PyData.leavesShortAll, a, Bool.and_true, PyData.leavesShort, decide_eq_true_eq]
      exact e1
    · simp only [List.map_cons, PyData.showableAll, b, Bool.and_true, PyData.showable, decide_eq_true_eq]
      exact e2
    · simp only [List.map_cons, PyData.weightAll, List.length_cons]
      omega
    · simp only [List.map_cons, PyData.depthAll, d, PyData.depth]
      omega
/-- repr of a list of ints is served -/
theorem ints_shown {ns : List Int} (h : ∀ i ∈ ns, i.natAbs ≤ 10 ^ 40) (hl : ns.length ≤ 700) :
    (PyData.list (ns.map .int)).showable = true ∧ (PyData.list (ns.map .int)).shown.length ≤ sizeLine ∧ (PyData.list (ns.map .int)).depth ≤ 60 := by
  obtain ⟨a, b, c, d⟩ := ints_leaves h
  have hs := PyData.shown_le 100 (by decide) (.list (ns.map .int)) (by simpa only [PyData.leavesShort] using a)
  have hw : (PyData.list (ns.map .int)).weight ≤ 201 * ns.length + 1 := by
    simp only [PyData.weight]
    omega
  have z : sizeLine = 16777216 := rfl
  refine ⟨by simpa only [PyData.showable] using b, by omega, ?_⟩
  simp only [PyData.depth, d]
  omega
theorem one_shown {i : Int} (h : i.natAbs ≤ 10 ^ 40) : (PyData.int i).showable = true ∧ (PyData.int i).shown.length ≤ sizeLine ∧ (PyData.int i).depth ≤ 60 := by
  obtain ⟨e1, e2, e3⟩ := int_shown h
  have z : sizeLine = 16777216 := rfl
  refine ⟨by simpa [PyData.showable] using e2, by omega, by simp only [PyData.depth]; omega⟩
theorem ints_dp {K : PySem.W.Frag} {H : Hp} : ∀ ns : List Int, DpAll K H (ns.map V.int) (ns.map .int)
  | [] => .nil
  | i :: ns => .cons (.int i) (ints_dp ns)
theorem list_dp {K : PySem.W.Frag} {H : Hp} {a : Addr} {ns : List Int} (h : SqL K H a (ns.map V.int)) : Dp K H (.ref a) (.list (ns.map .int)) := .lst h (ints_dp ns)

/-! what stays -/
theorem new_same {H : Hp} {q : Addr} {o : HO} (n : H q = none) : Same H (upd H q o) := fun b u e => by
  rw [upd_ne (ne_of_none e n)]
  exact e
/-- a new object may change -/
theorem own_same {H H' : Hp} {q : Addr} {o : HO} (n : H q = none) (s : Same H H') : Same H (upd H' q o) := fun b u e => by
  rw [upd_ne (ne_of_none e n)]
  exact s b u e
theorem same_tup {K : PySem.W.Frag} {H H' : Hp} (s : Same H H') {a : Addr} {xs : List V} (h : SqT K H a xs) : SqT K H' a xs := by
  rcases h with (h | ⟨o, h⟩) | h
  · exact .inl (.inl (s _ _ h))
  · exact .inl (.inr ⟨o, s _ _ h⟩)
  · exact .inr h
/-- slabs at a: a list of pairs -/
def SlabsAt (K : PySem.W.Frag) (H : Hp) (a : Addr) (ss : List (Nat × Int)) : Prop :=
  ∃ bs : List Addr, SqL K H a (bs.map V.ref) ∧ bs.length = ss.length ∧ ∀ (i : Nat) (b : Addr) (s : Nat × Int), bs[i]? = some b → ss[i]? = some s → SqT K H b [.int (s.1 : Nat), .int s.2]
theorem SlabsAt.same {K : PySem.W.Frag} {H H' : Hp} {a : Addr} {ss : List (Nat × Int)} (h : SlabsAt K H a ss) (s : Same H H') : SlabsAt K H' a ss := by
  obtain ⟨bs, h1, h2, h3⟩ := h
  exact ⟨bs, s.seq h1, h2, fun i b t e1 e2 => same_tup s (h3 i b t e1 e2)⟩
theorem map_at {α : Type} {f : α → V} {xs : List α} {i : Nat} {v : V} (h : (xs.map f)[i]? = some v) : ∃ x, xs[i]? = some x ∧ v = f x := by
  rw [List.getElem?_map] at h
  cases e : xs[i]? with
  | none => rw [e] at h; cases h
  | some x => rw [e] at h; exact ⟨x, rfl, (Option.some.inj h).symm⟩
theorem at_of {α : Type} {xs : List α} {i n : Nat} (hl : xs.length = n) (h : i < n) : ∃ x, xs[i]? = some x := ⟨xs[i]'(by omega), List.getElem?_eq_getElem (by omega)⟩
theorem at_lt {α : Type} {xs : List α} {i : Nat} {x : α} (h : xs[i]? = some x) : i < xs.length := (List.getElem?_eq_some_iff.mp h).1
theorem getD_at {l : List Int} {i : Nat} (h : i < l.length) : l[i]? = some (l.getD i 0) := by
  rw [List.getD_eq_getElem?_getD, List.getElem?_eq_getElem h] <;> rfl
theorem ints_at {l : List Int} {i : Nat} (h : i < l.length) : (l.map V.int)[i]? = some (.int (l.getD i 0)) := by
  rw [List.getElem?_map, getD_at h] <;> rfl
theorem ints_atI {l : List Int} {i : Nat} (h : i < l.length) : atI (l.map V.int) ((i : Nat) : Int) = some (.int (l.getD i 0)) := atI_nat (ints_at h)
theorem take_at {α : Type} {xs : List α} {i : Nat} {x : α} (h : xs[i]? = some x) : xs.take (i + 1) = xs.take i ++ [x] := by
  rw [List.take_add_one, h] <;> rfl
theorem map_set {l : List Int} {i : Nat} {v : Int} : (l.map V.int).set i (.int v) = (l.set i v).map V.int := by
  rw [List.map_set]
section
variable {X : Cx}
/-- l[j], j from nought on, in l[j] op= x -/
def rGetL (K : PySem.W.Frag) : V → V → Hp → VK → Prop := fun o i H Q => ∃ (p : Addr) (xs : List V) (j : Nat) (v : V), o = .ref p ∧ i = .int (j : Nat) ∧ SqL K H p xs ∧ xs[j]? = some v ∧ Q v H
theorem get_list : PGet X (rGetL X.K) := by
  intro pins s σ H o i ov iv Q I r1 r2 h
  obtain ⟨p, xs, j, v, rfl, rfl, hq, he, q⟩ := h
  cases r1
  obtain ⟨t, rfl⟩ := r2
  obtain ⟨its, r, pl, hz⟩ := I.list hq
  obtain ⟨u, eu, ru⟩ := r.get he
  have hl := r.length
  have lt := at_lt he
  have zz : sizeLine = 16777216 := rfl
  have hi := at_lt eu
  refine wpAny_getItem_list pl.isList (by omega) (by omega) ?_ ⟨v, H, I, ru, q⟩
  simpa using eu
end
theorem ixN_nat {n j : Nat} (h : j < n) : ixN n (j : Int) = some j := by
  unfold ixN
  rw [if_pos (by omega), if_pos (by omega)] <;> simp
end Gd
end

section
set_option Elab.async false
set_option linter.all false
set_option maxRecDepth 100000
set_option maxHeartbeats 4000000
namespace Gd
open PySem PySem.Spec PyProof.Rows L2
section
variable {X : Cx}
/-- a list beside [] -/
def rL0 (K : PySem.W.Frag) (neg : Bool) : R2 := fun x y H Q => ∃ a b xs, x = .ref a ∧ y = .ref b ∧ SqL K H a xs ∧ SqL K H b [] ∧ Q (.bl (if neg then !xs.isEmpty else xs.isEmpty)) H
theorem op_eqL0 (hu : X.A.units < cLine) : OpR X (compareOp .Eq) (rL0 X.K false) := by
  intro pins s σ H x y v u Q I rx ry h
  obtain ⟨a, b, xs, rfl, rfl, ha, hb, q⟩ := h
  cases rx
  cases ry
  obtain ⟨its, r, pl, _⟩ := I.list ha
  obtain ⟨its2, r2, pl2, _⟩ := I.list hb
  cases r2
  cases r with
  | nil => exact SeqAt.RcAt.lists (e := fun _ => true) pl.isList pl2.isList rfl hu (fun j h1 _ => absurd h1 (by simp)) _ _ _ _ ⟨.bl _, H, I, rfl, q⟩
  | cons _ _ => exact SeqAt.RcAt.lists_lengths pl.isList pl2.isList (by simp) hu _ _ _ _ ⟨.bl _, H, I, rfl, q⟩
theorem op_neL0 (hu : X.A.units < cLine) : OpR X (compareOp .NotEq) (rL0 X.K true) := by
  intro pins s σ H x y v u Q I rx ry h
  obtain ⟨a, b, xs, rfl, rfl, ha, hb, q⟩ := h
  cases rx
  cases ry
  obtain ⟨its, r, pl, _⟩ := I.list ha
  obtain ⟨its2, r2, pl2, _⟩ := I.list hb
  cases r2
  cases r with
  | nil => exact SeqAt.RcNeAt.lists (e := fun _ => true) pl.isList pl2.isList rfl hu (fun j h1 _ => absurd h1 (by simp)) _ _ _ _ ⟨.bl _, H, I, rfl, q⟩
  | cons _ _ => exact SeqAt.RcNeAt.lists_lengths pl.isList pl2.isList (by simp) hu _ _ _ _ ⟨.bl _, H, I, rfl, q⟩
end
/-! what stays through draws -/
theorem ex1_of_same {p : Addr} {H H' : Hp} (s : Same H H') : Ex1 p H H' := fun b u _ e => s b u e
theorem ex1_own {p q : Addr} {H H' : Hp} {o : HO} (n : H q = none) (x : Ex1 p H H') : Ex1 p H (upd H' q o) := fun b u nb e => by
  rw [upd_ne (ne_of_none e n)]
  exact x b u nb e
theorem Feed.off {H : Hp} {p q : Addr} {S : Int} {o : HO} (F : Feed H p S) (n : q ≠ p) : Feed (upd H q o) p S := by
  obtain ⟨g, x, s, e, a, b⟩ := F
  exact ⟨g, x, s, by rw [upd_ne n.symm]; exact e, a, b⟩
theorem Feed.kept {H H' : Hp} {p : Addr} {S : Int} (F : Feed H p S) (s : Same H H') : Feed H' p S := by
  obtain ⟨g, x, z, ep, a, b⟩ := F
  exact ⟨g, x, z, s _ _ ep, a, b⟩
theorem Feed.not {H : Hp} {p q : Addr} {S : Int} (F : Feed H p S) (n : H q = none) : q ≠ p := F.ne n
theorem ex1_tup {K : PySem.W.Frag} {H H' : Hp} {p a : Addr} {S : Int} {xs : List V} (F : Feed H p S) (x : Ex1 p H H') (h : SqT K H a xs) : SqT K H' a xs := by
  obtain ⟨ys, ep⟩ := F.lst
  rcases h with (h | ⟨o, h⟩) | h
  · exact .inl (.inl (x _ _ (fun z => by rw [z, ep] at h; cases h) h))
  · exact .inl (.inr ⟨o, x _ _ (fun z => by rw [z, ep] at h; cases h) h⟩)
  · exact .inr h
theorem ex1_seq {K : PySem.W.Frag} {H H' : Hp} {p a : Addr} {xs : List V} (n : a ≠ p) (x : Ex1 p H H') (h : SqL K H a xs) : SqL K H' a xs := by
  rcases h with (h | ⟨o, h⟩) | h
  · exact .inl (.inl (x _ _ n h))
  · exact .inl (.inr ⟨o, x _ _ n h⟩)
  · exact .inr h
theorem SlabsAt.drawn {K : PySem.W.Frag} {H H' : Hp} {p a : Addr} {S : Int} {ss : List (Nat × Int)} (h : SlabsAt K H a ss) (F : Feed H p S) (n : a ≠ p) (x : Ex1 p H H') : SlabsAt K H' a ss := by
  obtain ⟨bs, h1, h2, h3⟩ := h
  exact ⟨bs, ex1_seq n x h1, h2, fun i b t e1 e2 => ex1_tup F x (h3 i b t e1 e2)⟩
/-- a new object is not p, and was not there before the draws -/
theorem ex1_free {p q : Addr} {H H' : Hp} (x : Ex1 p H H') (n : q ≠ p) (h : H' q = none) : H q = none := by
  cases e : H q with
  | none => rfl
  | some o => rw [x q o n e] at h; cases h
theorem at_list {α : Type} {f : α → V} {xs : List α} {r : Int} (h0 : 0 ≤ r) (h1 : r < xs.length) : ∃ x, x ∈ xs ∧ atI (xs.map f) r = some (f x) := by
  have h2 : r.toNat < xs.length := by omega
  refine ⟨xs[r.toNat], List.getElem_mem h2, ?_⟩
  have e : ((r.toNat : Nat) : Int) = r := by omega
  have z : atI (xs.map f) ((r.toNat : Nat) : Int) = some (f xs[r.toNat]) := atI_nat (by rw [List.getElem?_map, List.getElem?_eq_getElem h2] <;> rfl)
  rw [e] at z
  exact z
end Gd
end

section
set_option Elab.async false
set_option linter.all false
set_option maxRecDepth 100000
set_option maxHeartbeats 4000000
namespace K03
open PySem PySem.Spec PyProof.Rows L2 Gd
def topS (i : Nat) : Stmt := PySem.Challenge.pw_plansamid_k03_what_parts_tell.main.body.getD i (.Pass ⟨0, 0, 0, 0⟩)
abbrev sFeed : Stmt := topS 26
abbrev sTake : Stmt := topS 27
theorem scFeed : FnScope ["_law_script", "_law_k", "_law_cell", "_law_great"] ["_law_script", "_law_k"] (defScope sFeed) :=
  ⟨rfl, rfl, rfl, by decide +kernel, rfl, by decide +kernel, by decide +kernel⟩
theorem scTake : FnScope ["_law_feed_here", "_law_many", "_law_digit", "_law_many_so", "_law_mixed"] ["_law_feed_here", "_law_many"] (defScope sTake) :=
  ⟨rfl, rfl, rfl, by decide +kernel, rfl, by decide +kernel, by decide +kernel⟩
section
variable {P : Program} {w : World} {K : PySem.W.Frag} {mg : Str → Option Value} {base : Heap} {f : Addr} {fd : FuncData}
theorem ok_take (F : Fun K "_law_take" "_law_take" sTake f fd) : FnOk P w K mg base CX0 1 f fd ["_law_feed_here", "_law_many"] spTake := by
  refine F.ok scTake (fun vs H Q E h => ?_) (fun cdv A outer s H vs Q E hr h => ?_)
  · obtain ⟨p, m, S, rfl, _⟩ := h
    rfl
  obtain ⟨p, m, S, rfl, ⟨g, x, n, ep, n0, nS⟩, m0, m1, hS, q⟩ := h
  have nd := scTake.nd
  refine ⟨_, pss_cons (ps_if (pt_cmpR op_gt (pe_ix ix_list (pv 0) pe_int (fun _ _ => rfl)) pe_int (nomark _))
      (pss_cons (ps_set (i := 2) nd rfl (.inl rfl) (pe_op op_modN (pe_ix ix_list (pv 0) pe_int (fun _ _ => rfl)) (pv 1)))
      (pss_cons (ps_asg (pe_op op_fdivN (pe_ix ix_list (pv 0) pe_int (fun _ _ => rfl)) (pv 1)) (pg_sub (pv 0) pe_int set_list))
      (pss_one (ps_ret (pv 2))))) pss_nil)
    (pss_cons (ps_set (i := 3) nd rfl (.inl rfl) (pe_op op_add (pe_ix ix_list (pv 0) pe_int (fun _ _ => rfl)) pe_int))
    (pss_cons (ps_asg (pv 3) (pg_sub (pv 0) pe_int set_list))
    (pss_cons (ps_set (i := 4) nd rfl (.inl rfl) (pe_op op_modN (pe_op op_add (pe_op op_add (pe_ix ix_list (pv 0) pe_int (fun _ _ => rfl))
        (pe_op op_mul (pe_op op_mul pe_int (pv 3)) (pv 3))) (pe_op op_mul pe_int (pv 3))) pe_int))
    (pss_cons (ps_set (i := 4) nd rfl (.inl rfl) (pe_op op_modN (pe_op op_add (pe_op op_add (pe_op op_mul (pv 4) (pv 4))
        (pe_op op_mul pe_int (pv 4))) (pv 3)) pe_int))
    (pss_cons (ps_set (i := 4) nd rfl (.inl rfl) (pe_op op_modN (pe_op op_add (pe_op op_mul (pv 4) (pv 4)) (pe_op op_mul pe_int (pv 4))) pe_int))
    (pss_one (ps_ret (pe_op op_modN (pe_op op_fdivN (pv 4) pe_int) (pv 1))))))))), ?_⟩
  have L : SqL K H p [.int g, .int x, .int n] := SqL.of ep
  refine ⟨_, rfl, p, _, 0, .int g, rfl, rfl, L, atI_nat (j := 0) rfl, g, 0, rfl, rfl, _, rfl, ite2 (fun c => ?_) (fun c => ?_)⟩
  · refine ⟨_, rfl, p, _, 0, .int g, rfl, rfl, L, atI_nat (j := 0) rfl, _, rfl, g, m, rfl, rfl, by omega, ?_⟩
    refine ⟨_, rfl, p, _, 0, .int g, rfl, rfl, L, atI_nat (j := 0) rfl, _, rfl, g, m, rfl, rfl, ⟨by omega, by omega⟩, ?_⟩
    refine ⟨_, rfl, p, _, 0, 0, rfl, rfl, ep, rfl, ?_⟩
    refine ⟨_, rfl, ?_⟩
    obtain ⟨r0, r1⟩ := fmod_in g m0
    exact q _ _ r0 r1 (Feed.here (by omega) (by omega)) .at
  · refine ⟨_, rfl, p, _, 2, .int n, rfl, rfl, L, atI_nat (j := 2) rfl, n, 1, rfl, rfl, ?_⟩
    refine ⟨_, rfl, _, rfl, p, _, 2, 2, rfl, rfl, ep, rfl, ?_⟩
    have L2 : SqL K (upd H p (.lst [.int g, .int x, .int (n + 1)])) p [.int g, .int x, .int (n + 1)] := SqL.of upd_same
    refine ⟨_, rfl, p, _, 1, .int x, rfl, rfl, L2, atI_nat (j := 1) rfl, _, rfl, _, _, rfl, rfl, .inl ⟨by omega, by omega⟩, _, rfl, _, _, rfl, rfl, .inr ⟨by omega, by omega⟩, _, _, rfl, rfl,
      _, rfl, _, _, rfl, rfl, .inl ⟨by omega, by omega⟩, _, _, rfl, rfl, _, _, rfl, rfl, by omega, ?_⟩
    obtain ⟨a0, a1⟩ := fmod_in (x + 40692 * (n + 1) * (n + 1) + 69621 * (n + 1)) (b := 2147483647) (by omega)
    dsimp only
    generalize (x + 40692 * (n + 1) * (n + 1) + 69621 * (n + 1)).fmod 2147483647 = m1 at a0 a1 ⊢
    refine ⟨_, rfl, _, rfl, m1, m1, rfl, rfl, .inl ⟨by omega, by omega⟩, _, rfl, _, m1, rfl, rfl, .inl ⟨by omega, by omega⟩, _, _, rfl, rfl, _, rfl, _, _, rfl, rfl, _, _, rfl, rfl, by omega, ?_⟩
    obtain ⟨b0, b1⟩ := fmod_in (m1 * m1 + 39373 * m1 + (n + 1)) (b := 2147483579) (by omega)
    dsimp only
    generalize (m1 * m1 + 39373 * m1 + (n + 1)).fmod 2147483579 = m2 at b0 b1 ⊢
    refine ⟨_, rfl, _, rfl, m2, m2, rfl, rfl, .inl ⟨by omega, by omega⟩, _, rfl, _, m2, rfl, rfl, .inl ⟨by omega, by omega⟩, _, _, rfl, rfl, _, _, rfl, rfl, by omega, ?_⟩
    obtain ⟨c0, c1⟩ := fmod_in (m2 * m2 + 16807 * m2) (b := 2147483549) (by omega)
    dsimp only
    generalize (m2 * m2 + 16807 * m2).fmod 2147483549 = m3 at c0 c1 ⊢
    refine ⟨_, rfl, m3, 64, rfl, rfl, ⟨by omega, by omega⟩, _, rfl, _, m, rfl, rfl, by omega, ?_⟩
    obtain ⟨d0, d1⟩ := fmod_in (m3.fdiv 64) m0
    exact q _ _ d0 d1 (Feed.here (by omega) (by omega)) .at

/-- the seed of turn k -/
def spFeed (K : PySem.W.Frag) : Sp := fun vs H Q _ => ∃ (a : Addr) (ns : List Int) (k : Int), vs = [.ref a, .int k] ∧ SqL K H a (ns.map V.int) ∧
  0 ≤ k ∧ k ≤ 1000 ∧ ∀ (p : Addr) (fs : List V), H p = none → Feed (upd H p (.lst fs)) p 0 → Q (.ref p) (upd H p (.lst fs))
theorem ok_feed (F : Fun K "_law_feed" "_law_feed" sFeed f fd) (ml : mg "len" = none) (ma : mg "abs" = none) :
    FnOk P w K mg base CX0 1 f fd ["_law_script", "_law_k"] (spFeed K) := by
  refine F.ok scFeed (fun vs H Q E h => ?_) (fun cdv A outer s H vs Q E hr h => ?_)
  · obtain ⟨a, ns, k, rfl, _⟩ := h
    rfl
  obtain ⟨a, ns, k, rfl, hS, k0, k1, q⟩ := h
  have nd := scFeed.nd
  refine ⟨_, pss_cons (ps_set (i := 2) nd rfl (.inl rfl) pe_int)
    (C8.pss_cut (ps_if (pt_cmpR op_lt (pv 1) (pe_callB call_len_seq (by rfl) ml PySem.boot_len (pa_cons (pv 0) pa_nil)) (nomark _))
      (pss_one (ps_set (i := 2) nd rfl (.inl rfl) (pe_ix ix_list (pv 0) (pv 1) (fun _ _ => rfl)))) pss_nil)
    (pss_cons (ps_set (i := 3) nd rfl (.inl rfl) (pe_callB call_abs (by rfl) ma (by decide +kernel) (pa_cons (pv 2) pa_nil)))
    (C8.pss_cut (ps_if (pt_cmpR op_lt (pv 3) (pe_op op_pow pe_int pe_int) (nomark _))
      (pss_one (ps_set (i := 3) nd rfl (.inl rfl) pe_int)) pss_nil)
    (pss_one (ps_ret (pe_lst (pa_cons (pv 3) (pa_cons (pe_op op_modN (pe_op op_add (pe_op op_add (pe_op op_mul (pe_op op_modN (pv 2) pe_int) pe_int)
        (pe_op op_mul pe_int (pv 1))) pe_int) pe_int) (pa_cons pe_int pa_nil))))))))), ?_⟩
  refine ⟨fun σ' H' => H' = H ∧ ∃ c : Int, σ' = [some (.ref a), some (.int k), some (.int c), none], ?_, ?_⟩
  · refine ⟨_, rfl, _, rfl, a, _, rfl, .inl hS, _, _, rfl, rfl, _, rfl, ite2 (fun e => ?_) (fun e => ?_)⟩
    · have e' : k < ((ns.map V.int).length : Int) := of_decide_eq_true e
      rw [List.length_map] at e'
      have h2 : k.toNat < ns.length := by omega
      have g : atI (ns.map V.int) ((k.toNat : Nat) : Int) = some (.int ns[k.toNat]) :=
        atI_nat (by rw [List.getElem?_map, List.getElem?_eq_getElem h2] <;> rfl)
      rw [show ((k.toNat : Nat) : Int) = k by omega] at g
      exact ⟨_, rfl, _, rfl, a, _, k, _, rfl, rfl, hS, g, rfl, _, rfl⟩
    · exact ⟨rfl, _, rfl⟩
  rintro σ' H' ⟨rfl, c, rfl⟩
  refine ⟨_, rfl, c, rfl, ?_⟩
  refine ⟨fun σ' H2 => H2 = H' ∧ ∃ b : Int, σ' = [some (.ref a), some (.int k), some (.int c), some (.int b)], ?_, ?_⟩
  · refine ⟨_, rfl, 10, 18, rfl, rfl, ⟨by decide, by decide, by decide⟩, _, _, rfl, rfl, _, rfl, ite2 (fun e => ?_) (fun e => ?_)⟩
    · exact ⟨rfl, _, rfl⟩
    · exact ⟨rfl, _, rfl⟩
  rintro σ' H2 ⟨rfl, b, rfl⟩
  obtain ⟨a0, a1⟩ := fmod_in c (b := 2147483423) (by omega)
  refine ⟨_, rfl, _, rfl, c, _, rfl, rfl, by omega, _, _, rfl, rfl, .inl ⟨by omega, by omega⟩, _, rfl, _, k, rfl, rfl, .inl ⟨by omega, by omega⟩, _, _, rfl, rfl,
    _, _, rfl, rfl, _, _, rfl, rfl, by omega, (by show 3 ≤ sizeLine; decide), fun p hp => ?_⟩
  exact q p _ hp (Feed.here (by omega) (by omega))
end
end K03
end

section
set_option Elab.async false
set_option linter.all false
set_option maxRecDepth 100000
set_option maxHeartbeats 4000000
namespace K03
open PySem PySem.Spec PyProof.Rows L2 Gd

/-! what a part is, by its data -/
def isLab (x : Str) : Bool := decide (1 ≤ x.length) && decide (x.length ≤ 8) && x.cps.toList.all (fun c => decide (c ∈ ("abcdefghijklmnopqrstuvwxyz" : Str).cps.toList))
def isLabD : PyData → Bool
  | .str x => isLab x
  | _ => false
def isNum : PyData → Bool
  | .int i => decide (-(10 ^ 30 : Int) < i) && decide (i < 10 ^ 30)
  | _ => false
def isWor : PyData → Bool
  | .none => true
  | d => isNum d
def signs : List Str := ["plus", "less", "times", "over"]
def cnt : Nat → PyData → Nat
  | 0, _ => 0
  | k + 1, .tuple ds => match ds with
    | [w, n] => if isStr w "number" && isNum n then 1 else 0
    | [w, x, y] =>
      if isStr w "cell" then (if isLabD x && isLabD y then 1 else 0)
      else if signs.any (isStr w) then (if decide (0 < cnt k x) && decide (0 < cnt k y) then 1 + cnt k x + cnt k y else 0) else 0
    | _ => 0
  | _ + 1, _ => 0
def isPart (d : PyData) : Bool := decide (1 ≤ cnt 5 d) && decide (cnt 5 d ≤ 15)

/-! sizes -/
mutual
def okD (k : Nat) : PyData → Bool
  | .none => true
  | .bool _ => true
  | .int i => decide (i.natAbs ≤ 10 ^ 64 + k)
  | .str x => decide (x.length ≤ 100 + k) && x.cps.toList.all (fun c => decide (c < 128))
  | .list ds => decide (ds.length ≤ k) && okAll k ds
  | .tuple ds => decide (ds.length ≤ k) && okAll k ds
  | .dict kvs => okKv k kvs
def okAll (k : Nat) : List PyData → Bool
  | [] => true
  | d :: ds => okD k d && okAll k ds
def okKv (k : Nat) : List (PyData × PyData) → Bool
  | [] => true
  | (a, b) :: r => okD k a && okD k b && okKv k r
end
mutual
theorem okD.mono {k m : Nat} (l : k ≤ m) : ∀ d : PyData, okD k d = true → okD m d = true
  | .none, _ => rfl
  | .bool _, _ => rfl
  | .int i, h => by
    simp only [okD, decide_eq_true_eq] at h ⊢
    exact Nat.le_trans h (Nat.add_le_add_left l _)
  | .str x, h => by
    simp only [okD, Bool.and_eq_true, decide_eq_true_eq] at h ⊢
    exact ⟨by omega, h.2⟩
  | .list ds, h => by
    simp only [okD, Bool.and_eq_true, decide_eq_true_eq] at h ⊢
    exact ⟨by omega, okAll.mono l ds h.2⟩
  | .tuple ds, h => by
    simp only [okD, Bool.and_eq_true, decide_eq_true_eq] at h ⊢
    exact ⟨by omega, okAll.mono l ds h.2⟩
  | .dict kvs, h => by
    simp only [okD] at h ⊢
    exact okKv.mono l kvs h
theorem okAll.mono {k m : Nat} (l : k ≤ m) : ∀ ds : List PyData, okAll k ds = true → okAll m ds = true
  | [], _ => rfl
  | d :: ds, h => by
    simp only [okAll, Bool.and_eq_true] at h ⊢
    exact ⟨okD.mono l d h.1, okAll.mono l ds h.2⟩
theorem okKv.mono {k m : Nat} (l : k ≤ m) : ∀ kvs : List (PyData × PyData), okKv k kvs = true → okKv m kvs = true
  | [], _ => rfl
  | (a, b) :: r, h => by
    simp only [okKv, Bool.and_eq_true] at h ⊢
    exact ⟨⟨okD.mono l a h.1.1, okD.mono l b h.1.2⟩, okKv.mono l r h.2⟩
end
theorem int_short {i : Int} {k : Nat} (hk : k ≤ 50) (h : i.natAbs ≤ 10 ^ 64 + k) : (PyData.int i).shown.length ≤ 100 ∧ i.natAbs.log2 < 1920 := by
  have h1 : i.natAbs < 10 ^ 65 := Nat.lt_of_le_of_lt h (Nat.lt_of_le_of_lt (Nat.add_le_add_left hk _) (by decide))
  have h2 : i.natAbs < 2 ^ 1920 := Nat.lt_of_lt_of_le h1 (by decide +kernel)
  refine ⟨?_, ?_⟩
  · have e := int_text_length_le10 (k := 65) (by decide) h1
    have e2 : (PyData.int i).shown.length = (toString i).length := by
      show (Str.ofString (toString i)).length = _
      rw [PySem.ofString_length]
    omega
  · by_cases z : i.natAbs = 0
    · rw [z]; decide
    · exact (Nat.log2_lt z).mpr h2
mutual
theorem okD.short {k : Nat} (hk : k ≤ 50) : ∀ d : PyData, okD k d = true → d.leavesShort 100 = true ∧ d.showable = true
  | .none, _ => ⟨rfl, rfl⟩
  | .bool _, _ => ⟨rfl, rfl⟩
  | .int i, h => by
    simp only [okD, decide_eq_true_eq] at h
    obtain ⟨a, b⟩ := int_short hk h
    refine ⟨?_, ?_⟩
    · simpa only [PyData.leavesShort, decide_eq_true_eq] using a
    · simpa [PyData.showable] using b
  | .str x, h => by
    simp only [okD, Bool.and_eq_true, List.all_eq_true, decide_eq_true_eq] at h
    refine ⟨?_, ?_⟩
    · simp only [PyData.leavesShort, List.all_eq_true, decide_eq_true_eq]
      intro c hc
      exact Nat.lt_of_lt_of_le (h.2 c hc) (by decide)
    · simp [PyData.showable]
  | .list ds, h => by
    simp only [okD, Bool.and_eq_true] at h
    obtain ⟨a, b⟩ := okAll.short hk ds h.2
    exact ⟨by simpa only [PyData.leavesShort] using a, by simpa only [PyData.showable] using b⟩
  | .tuple ds, h => by
    simp only [okD, Bool.and_eq_true] at h
    obtain ⟨a, b⟩ := okAll.short hk ds h.2
    exact ⟨by simpa only [PyData.leavesShort] using a, by simpa only [PyData.showable] using b⟩
  | .dict kvs, h => by
    simp only [okD] at h
    obtain ⟨a, b⟩ := okKv.short hk kvs h
    exact ⟨by simpa only [PyData.leavesShort] using a, by simpa only [PyData.showable] using b⟩
theorem okAll.short {k : Nat} (hk : k ≤ 50) : ∀ ds : List PyData, okAll k ds = true → PyData.leavesShortAll 100 ds = true ∧ PyData.showableAll ds = true
  | [], _ => ⟨rfl, rfl⟩
  | d :: ds, h => by
    simp only [okAll, Bool.and_eq_true] at h
    obtain ⟨a, b⟩ := okD.short hk d h.1
    obtain ⟨a2, b2⟩ := okAll.short hk ds h.2
    exact ⟨by simp only [PyData.leavesShortAll, a, a2, Bool.and_self], by simp only [PyData.showableAll, b, b2, Bool.and_self]⟩
theorem okKv.short {k : Nat} (hk : k ≤ 50) : ∀ kvs : List (PyData × PyData), okKv k kvs = true → PyData.leavesShortKv 100 kvs = true ∧ PyData.showableKv kvs = true
  | [], _ => ⟨rfl, rfl⟩
  | (x, y) :: r, h => by
    simp only [okKv, Bool.and_eq_true] at h
    obtain ⟨a, b⟩ := okD.short hk x h.1.1
    obtain ⟨a1, b1⟩ := okD.short hk y h.1.2
    obtain ⟨a2, b2⟩ := okKv.short hk r h.2
    exact ⟨by simp only [PyData.leavesShortKv, a, a1, a2, Bool.and_self], by simp only [PyData.showableKv, b, b1, b2, Bool.and_self]⟩
end
/-- data of bounded size: k longest, w heaviest, n deepest -/
structure Fit (k w n : Nat) (d : PyData) : Prop where
  ok : okD k d = true
  wt : d.weight ≤ w
  dp : d.depth ≤ n
theorem Fit.mono {k w n k' w' n' : Nat} {d : PyData} (f : Fit k w n d) (hk : k ≤ k') (hw : w ≤ w') (hn : n ≤ n') : Fit k' w' n' d :=
  ⟨okD.mono hk d f.ok, Nat.le_trans f.wt hw, Nat.le_trans f.dp hn⟩
theorem Fit.shown {k w n : Nat} {d : PyData} (f : Fit k w n d) (hk : k ≤ 50) (hw : w ≤ 100000) : d.shown.length ≤ sizeLine ∧ d.showable = true := by
  obtain ⟨a, b⟩ := okD.short hk d f.ok
  have h := PyData.shown_le 100 (by decide) d a
  have hw2 := f.wt
  have z : sizeLine = 16777216 := rfl
  exact ⟨by omega, b⟩
theorem okAll_at {k : Nat} : ∀ {ds : List PyData} {i : Nat} {d : PyData}, okAll k ds = true → ds[i]? = some d → okD k d = true
  | [], _, _, _, e => by simp at e
  | x :: r, 0, d, o, e => by
    simp only [okAll, Bool.and_eq_true] at o
    cases Option.some.inj e
    exact o.1
  | x :: r, i + 1, d, o, e => by
    simp only [okAll, Bool.and_eq_true] at o
    exact okAll_at (i := i) o.2 e
def isT : PyData → Bool
  | .tuple _ => true
  | _ => false
theorem cnt_two {k : Nat} {w n : PyData} : cnt (k + 1) (.tuple [w, n]) = if isStr w "number" && isNum n then 1 else 0 := rfl
theorem cnt_three {k : Nat} {w x y : PyData} : cnt (k + 1) (.tuple [w, x, y]) = if isStr w "cell" then (if isLabD x && isLabD y then 1 else 0)
      else if signs.any (isStr w) then (if decide (0 < cnt k x) && decide (0 < cnt k y) then 1 + cnt k x + cnt k y else 0) else 0 := rfl
end K03
end

section
set_option Elab.async false
set_option linter.all false
set_option maxRecDepth 100000
set_option maxHeartbeats 4000000
namespace K03
open PySem PySem.Spec PyProof.Rows L2 Gd
abbrev sLabel : Stmt := topS 28
abbrev sNum : Stmt := topS 29
theorem scLabel : FnScope ["_law_feed_here", "_law_letters", "_law_words", "_law_size", "_law_spelt", "_law_k"] ["_law_feed_here"] (defScope sLabel) :=
  ⟨rfl, rfl, rfl, by decide +kernel, rfl, by decide +kernel, by decide +kernel⟩
theorem scNum : FnScope ["_law_feed_here", "_law_far", "_law_some"] ["_law_feed_here"] (defScope sNum) :=
  ⟨rfl, rfl, rfl, by decide +kernel, rfl, by decide +kernel, by decide +kernel⟩
def spNum : Sp := fun vs H Q _ => ∃ (p : Addr) (S : Int), vs = [.ref p] ∧ Feed H p S ∧ S ≤ 100000000 ∧
  ∀ (i : Int) (H' : Hp), Ex1 p H H' → Feed H' p (S + 2) → isNum (.int i) = true → Q (.int i) H'
def spLabel : Sp := fun vs H Q _ => ∃ (p : Addr) (S : Int), vs = [.ref p] ∧ Feed H p S ∧ S ≤ 100000000 ∧
  ∀ (x : Str) (H' : Hp), Ex1 p H H' → Feed H' p (S + 10) → isLab x = true → Q (.str x) H'
theorem join_singles : ∀ cs : List Nat, TL.joinL [] (cs.map fun c => [c]) = cs
  | [] => rfl
  | [c] => rfl
  | c :: d :: r => by
    show [c] ++ ([] ++ TL.joinL [] ((d :: r).map fun c => [c])) = _
    rw [join_singles (d :: r)] <;> rfl
theorem lab_spelt {cs : List Nat} (h : ∀ c ∈ cs, c ∈ ("abcdefghijklmnopqrstuvwxyz" : Str).cps.toList) (h1 : 1 ≤ cs.length) (h8 : cs.length ≤ 8) :
    isLab (Txt.join "" (cs.map fun c => (⟨#[c]⟩ : Str))) = true := by
  have e : (Txt.join "" (cs.map fun c => (⟨#[c]⟩ : Str))).cps.toList = cs := by
    rw [TL.join_eq]
    have z := TL.tl_join "" (cs.map fun c => (⟨#[c]⟩ : Str))
    rw [List.map_map] at z
    exact z.trans (join_singles cs)
  have el : (Txt.join "" (cs.map fun c => (⟨#[c]⟩ : Str))).length = cs.length := by
    show (Txt.join "" (cs.map fun c => (⟨#[c]⟩ : Str))).cps.size = _
    rw [← Array.length_toList, e]
  unfold isLab
  rw [e, el, decide_eq_true h1, decide_eq_true h8, Bool.true_and, Bool.true_and]
  exact List.all_eq_true.mpr fun c hc => decide_eq_true (h c hc)
def labs : List Str := ["a", "b", "cell", "number", "plus", "over", "lacking", "abcdefgh", "zzzzzzzz", "none"]
theorem labs_ok : ∀ x ∈ labs, isLab x = true := by decide +kernel
theorem numOk {i : Int} (h1 : -1000000000000000000000000000000 < i) (h2 : i < 1000000000000000000000000000000) : isNum (.int i) = true := by
  show (decide (-(10 ^ 30 : Int) < i) && decide (i < 10 ^ 30)) = true
  rw [decide_eq_true (show -(10 ^ 30 : Int) < i by omega), decide_eq_true (show i < (10 ^ 30 : Int) by omega)] <;> rfl
def numsOf (r : Int) : List Int := [0, 1, -1, 2, r, 0 - r, 10 ^ 30 - 1 - r, r + 1 - 10 ^ 30, 7 - r.fmod 15, r.fmod 4]
theorem nums_ok {r : Int} (h0 : 0 ≤ r) (h1 : r < 1000000) : ∀ i ∈ numsOf r, isNum (.int i) = true := by
  obtain ⟨a0, a1⟩ := fmod_in r (b := 15) (by omega)
  obtain ⟨b0, b1⟩ := fmod_in r (b := 4) (by omega)
  intro i hi
  simp only [numsOf, List.mem_cons, List.not_mem_nil, or_false] at hi
  rcases hi with rfl | rfl | rfl | rfl | rfl | rfl | rfl | rfl | rfl | rfl
  all_goals exact numOk (by omega) (by omega)
theorem at_map {α : Type} {f : α → V} {xs : List α} {r : Int} (h0 : 0 ≤ r) (h1 : r < xs.length) : ∃ x, x ∈ xs ∧ atI (xs.map f) r = some (f x) := by
  have h2 : r.toNat < xs.length := by omega
  refine ⟨xs[r.toNat], List.getElem_mem h2, ?_⟩
  have e : ((r.toNat : Nat) : Int) = r := by omega
  have z : atI (xs.map f) ((r.toNat : Nat) : Int) = some (f xs[r.toNat]) := atI_nat (by rw [List.getElem?_map, List.getElem?_eq_getElem h2] <;> rfl)
  rw [e] at z
  exact z
section
variable {P : Program} {w : World} {K : PySem.W.Frag} {mg : Str → Option Value} {base : Heap} {f fT : Addr} {fd fdT : FuncData}
theorem ok_num (F : Fun K "_law_number" "_law_number" sNum f fd) (FT : Fun K "_law_take" "_law_take" sTake fT fdT)
    (bT : Binds K fdT ["_law_feed_here", "_law_many"] []) (gT : mg "_law_take" = some (.ref fT)) :
    FnOk P w K mg base CX0 2 f fd ["_law_feed_here"] spNum := by
  have G : FnOk P w K mg base CX0 1 fT fdT ["_law_feed_here", "_law_many"] spTake := ok_take FT
  refine F.ok scNum (fun vs H Q E h => ?_) (fun cdv A outer s H vs Q E hr h => ?_)
  · obtain ⟨p, S, rfl, _⟩ := h
    rfl
  obtain ⟨p, S, rfl, hF, hS, q⟩ := h
  have nd := scNum.nd
  refine ⟨_, pss_cons (ps_set (i := 1) nd rfl (.inl rfl) (pe_call G hr (by rfl) gT FT.kp bT .nil pass0 (pa_cons (pv 0) (pa_cons (pe_op op_pow pe_int pe_int) pa_nil))))
    (pss_cons (ps_set (i := 2) nd rfl (.inl rfl) (pe_lst (pa_cons pe_int (pa_cons pe_int (pa_cons (pe_un un_neg pe_int) (pa_cons pe_int (pa_cons (pv 1) (pa_cons (pe_op op_sub pe_int (pv 1))
        (pa_cons (pe_op op_sub (pe_op op_sub (pe_op op_pow pe_int pe_int) pe_int) (pv 1)) (pa_cons (pe_op op_sub (pe_op op_add (pv 1) pe_int) (pe_op op_pow pe_int pe_int))
        (pa_cons (pe_op op_sub pe_int (pe_op op_modN (pv 1) pe_int)) (pa_cons (pe_op op_modN (pv 1) pe_int) pa_nil))))))))))))
    (pss_one (ps_ret (pe_ix ix_list (pv 2) (pe_call G hr (by rfl) gT FT.kp bT .nil pass0 (pa_cons (pv 0) (pa_cons pe_int pa_nil))) (fun _ _ => rfl))))), ?_⟩
  refine ⟨_, rfl, 10, 6, rfl, rfl, ⟨by decide, by decide, by decide⟩, p, _, S, rfl, hF, by decide, by decide, by omega, fun r H1 r0 r1 hF1 x1 => ?_⟩
  have r1 : r < 1000000 := r1
  refine ⟨_, rfl, _, rfl, _, rfl, _, _, rfl, rfl, ?_⟩
  refine ⟨10, 30, rfl, rfl, ⟨by decide, by decide, by decide⟩, _, _, rfl, rfl, _, rfl, _, _, rfl, rfl, ?_⟩
  refine ⟨_, rfl, _, _, rfl, rfl, 10, 30, rfl, rfl, ⟨by decide, by decide, by decide⟩, _, _, rfl, rfl, ?_⟩
  refine ⟨_, rfl, _, _, rfl, rfl, by show (15 : Int) ≠ 0; decide, _, _, rfl, rfl, ?_⟩
  refine ⟨_, rfl, _, _, rfl, rfl, by show (4 : Int) ≠ 0; decide, ?_⟩
  refine ⟨(by show 10 ≤ sizeLine; decide), fun L hL => ?_⟩
  have hL2 : H1 L = none := hL
  refine ⟨_, rfl, _, rfl, p, 10, S + 1, rfl, hF1.stays hL2, by omega, by omega, by omega, fun r2 H2 a0 a1 hF2 x2 => ?_⟩
  have eL := x2 L _ (hF1.ne hL2) upd_same
  obtain ⟨i, hi, ea⟩ := at_map (f := V.int) (xs := numsOf r) (r := r2) a0 a1
  refine ⟨L, _, r2, .int i, rfl, rfl, SqL.of eL, ea, ?_⟩
  refine q i H2 (x1.trans ((Ex1.new hL2).trans x2)) ?_ (nums_ok r0 r1 i hi)
  exact hF2.le (by omega)
theorem ok_label (F : Fun K "_law_label" "_law_label" sLabel f fd) (FT : Fun K "_law_take" "_law_take" sTake fT fdT)
    (bT : Binds K fdT ["_law_feed_here", "_law_many"] []) (gT : mg "_law_take" = some (.ref fT)) (mr : mg "range" = none) :
    FnOk P w K mg base CX0 2 f fd ["_law_feed_here"] spLabel := by
  have G : FnOk P w K mg base CX0 1 fT fdT ["_law_feed_here", "_law_many"] spTake := ok_take FT
  refine F.ok scLabel (fun vs H Q E h => ?_) (fun cdv A outer s H vs Q E hr h => ?_)
  · obtain ⟨p, S, rfl, _⟩ := h
    rfl
  obtain ⟨p, S, rfl, hF, hS, q⟩ := h
  have nd := scLabel.nd
  refine ⟨_, pss_cons (ps_set (i := 1) nd rfl (.inr rfl) pe_str)
    (pss_cons (ps_set (i := 2) nd rfl (.inl rfl) (pe_lst (pa_cons pe_str (pa_cons pe_str (pa_cons pe_str (pa_cons pe_str (pa_cons pe_str (pa_cons pe_str (pa_cons pe_str (pa_cons pe_str (pa_cons pe_str (pa_cons pe_str pa_nil))))))))))))
    (pss_cons (ps_set (i := 3) nd rfl (.inl rfl) (pe_ix ix_list (pe_lst (pa_cons pe_int (pa_cons pe_int (pa_cons pe_int (pa_cons pe_int pa_nil)))))
        (pe_call G hr (by rfl) gT FT.kp bT .nil pass0 (pa_cons (pv 0) (pa_cons pe_int pa_nil))) (fun _ _ => rfl)))
    (pss_cons (ps_set (i := 4) nd rfl (.inl rfl) (pe_join pe_str (pe_lc (own := [("_law_k", 5)]) (g := gName 5) (tt := tYes) rfl nd (pi_range1 (by rfl) mr (pa_cons (pv 3) pa_nil))
        (blkOk_by (N := ["_law_feed_here", "_law_letters", "_law_words", "_law_size", "_law_spelt", "_law_k"]) (sc := defScope sLabel) (by decide +kernel))
        (fun _ _ _ _ _ => pg_name (i := 5) nd rfl (Or.inl rfl)) (fun _ _ _ _ _ => pts_nil)
        (fun _ _ _ _ _ => pe_ix ix_str (pv 1) (pe_call G hr (by rfl) gT FT.kp bT .nil pass0 (pa_cons (pv 0) (pa_cons pe_int pa_nil))) (fun _ _ => rfl)))))
    (pss_one (ps_ret (pe_ix ix_list (pe_op op_cat (pv 2) (pe_lst (pa_cons (pv 4) (pa_cons (pv 4) pa_nil))))
        (pe_call G hr (by rfl) gT FT.kp bT .nil pass0 (pa_cons (pv 0) (pa_cons pe_int pa_nil))) (fun _ _ => rfl))))))), ?_⟩
  refine ⟨(by show 10 ≤ sizeLine; decide), fun w1 hw1 => ?_⟩
  refine ⟨(by show 4 ≤ sizeLine; decide), fun z1 hz1 => ?_⟩
  have F1 := hF.stays (o := .lst (labs.map V.str)) hw1
  have F2 := F1.stays (o := .lst ([1, 1, 2, 8].map V.int)) hz1
  refine ⟨_, rfl, p, 4, S, rfl, F2, by omega, by omega, by omega, fun r H1 r0 r1 hF1 x1 => ?_⟩
  have nw : w1 ≠ p := hF.ne hw1
  have nz : z1 ≠ p := F1.ne hz1
  have ez := x1 z1 _ nz upd_same
  have ew := x1 w1 _ nw (by rw [upd_ne (ne_of_none upd_same hz1)]; exact upd_same)
  have X1 : Ex1 p H H1 := (Ex1.new hw1).trans ((Ex1.new hz1).trans x1)
  obtain ⟨sz, hs, ea⟩ := at_map (f := V.int) (xs := [1, 1, 2, 8]) (r := r) r0 r1
  refine ⟨z1, _, r, .int sz, rfl, rfl, SqL.of ez, ea, ?_⟩
  have szb : 1 ≤ sz ∧ sz ≤ 8 := by
    simp only [List.mem_cons, List.not_mem_nil, or_false] at hs
    rcases hs with rfl | rfl | rfl | rfl <;> omega
  let al : List Nat := ("abcdefghijklmnopqrstuvwxyz" : Str).cps.toList
  refine ⟨⟨_, rfl⟩, _, rfl, sz, rfl, by omega, by omega, fun D hD => ?_⟩
  refine lc_range (lo := 0) (n := sz.toNat) (fun i H' => Ex1 p H1 H' ∧ Feed H' p (S + 1 + i) ∧ ∃ cs : List Nat, cs.length = i ∧ (∀ c ∈ cs, c ∈ al) ∧
      H' D = some (.lst ((cs.map fun c => (⟨#[c]⟩ : Str)).map V.str))) ?_ ?_ ?_
  · refine ⟨Ex1.new hD, (hF1.stays hD).le (by omega), [], rfl, nofun, upd_same⟩
  · rintro i H' hi ⟨x2, F', cs, lc, hc, eD⟩
    refine ⟨rfl, ?_⟩
    unfold tYes
    dsimp only
    rw [if_pos rfl]
    refine ⟨_, rfl, _, rfl, p, 26, S + 1 + i, rfl, F', by omega, by omega, by omega, fun r2 H3 a0 a1 hF3 x3 => ?_⟩
    have a2 : r2.toNat < al.length := by
      have : al.length = 26 := rfl
      omega
    have e26 : ((r2.toNat : Nat) : Int) = r2 := by omega
    have ec : atI al r2 = some al[r2.toNat] := by
      have z : atI al ((r2.toNat : Nat) : Int) = some al[r2.toNat] := atI_nat (List.getElem?_eq_getElem a2)
      rw [e26] at z
      exact z
    have nD : D ≠ p := hF1.ne hD
    have eD3 := x3 D _ nD eD
    refine ⟨_, r2, _, rfl, rfl, (by show 26 ≤ 16777216; decide), ec, _, eD3, ?_, ?_⟩
    · rw [List.length_map, List.length_map, lc]
      show i < 16777216
      omega
    · refine ⟨fun b u nb e => ?_, ?_, cs ++ [al[r2.toNat]], by rw [List.length_append, lc]; rfl, fun c hc2 => ?_, ?_⟩
      · rw [upd_ne (ne_of_none e hD)]
        exact x3 _ _ nb (x2 _ _ nb e)
      · obtain ⟨g, x, s, ep, s0, s1⟩ := hF3
        refine ⟨g, x, s, ?_, s0, by omega⟩
        rw [upd_ne nD.symm]
        exact ep
      · rcases List.mem_append.mp hc2 with h | h
        · exact hc c h
        · rw [List.mem_singleton.mp h]
          exact List.getElem_mem a2
      · rw [List.map_append, List.map_append]
        exact upd_same
  · rintro H2 ⟨x2, F2', cs, lc, hc, eD⟩
    have lb : isLab (Txt.join "" (cs.map fun c => (⟨#[c]⟩ : Str))) = true := lab_spelt hc (by omega) (by omega)
    refine ⟨_, D, cs.map fun c => (⟨#[c]⟩ : Str), rfl, rfl, .inl (SqL.of eD), ?_, ?_⟩
    · have z : ∀ cs : List Nat, ((cs.map fun c => (⟨#[c]⟩ : Str)).map (·.length)).sum = cs.length := by
        intro cs
        induction cs with
        | nil => rfl
        | cons c r ih =>
          simp only [List.map_cons, List.sum_cons, List.length_cons, ih]
          show 1 + r.length = _
          omega
      rw [z, List.length_map]
      show cs.length + cs.length * 0 ≤ 16777216
      omega
    generalize Txt.join "" (cs.map fun c => (⟨#[c]⟩ : Str)) = sp at *
    have ew2 := x2 w1 _ nw ew
    refine ⟨_, rfl, _, rfl, _, rfl, (by show 2 ≤ sizeLine; decide), fun b1 hb1 => ?_⟩
    have ew3 := new_same (o := .lst [.str sp, .str sp]) hb1 _ _ ew2
    refine ⟨w1, b1, _, _, rfl, rfl, ew3, upd_same, (by show 12 ≤ sizeLine; decide), fun c1 hc1 => ?_⟩
    have F3 := F2'.stays (o := .lst [.str sp, .str sp]) hb1
    have F4 := F3.stays (o := .lst ((labs ++ [sp, sp]).map V.str)) hc1
    refine ⟨_, rfl, p, 12, _, rfl, F4, by omega, by omega, by omega, fun r3 H5 a0 a1 hF5 x5 => ?_⟩
    have e5 := x5 c1 _ (F3.ne hc1) upd_same
    obtain ⟨x, hx, ex⟩ := at_map (f := V.str) (xs := labs ++ [sp, sp]) (r := r3) a0 a1
    refine ⟨c1, _, r3, .str x, rfl, rfl, SqL.of e5, ex, ?_⟩
    refine q x H5 (X1.trans (x2.trans ((Ex1.new hb1).trans ((Ex1.new hc1).trans x5)))) (hF5.le (by omega)) ?_
    rcases List.mem_append.mp hx with h | h
    · exact labs_ok x h
    · simp only [List.mem_cons, List.not_mem_nil, or_false] at h
      rcases h with rfl | rfl <;> exact lb
end
end K03
end

section
set_option Elab.async false
set_option linter.all false
set_option maxRecDepth 100000
set_option maxHeartbeats 4000000
namespace K03
open PySem PySem.Spec PyProof.Rows L2 Gd
abbrev sPiece : Stmt := topS 30
theorem scPiece : FnScope ["_law_feed_here", "_law_deep", "_law_room", "_law_way", "_law_one"] ["_law_feed_here", "_law_deep", "_law_room"] (defScope sPiece) :=
  ⟨rfl, rfl, rfl, by decide +kernel, rfl, by decide +kernel, by decide +kernel⟩
/-- all is as it was, but at p and at q -/
def Ex2 (p q : Addr) (H H' : Hp) : Prop := ∀ a o, a ≠ p → a ≠ q → H a = some o → H' a = some o
theorem Ex2.trans {p q : Addr} {H H1 H2 : Hp} (a : Ex2 p q H H1) (b : Ex2 p q H1 H2) : Ex2 p q H H2 := fun x o n m h => b x o n m (a x o n m h)
theorem Ex1.two {p q : Addr} {H H1 : Hp} (a : Ex1 p H H1) : Ex2 p q H H1 := fun x o n _ h => a x o n h
theorem Ex2.at2 {p q : Addr} {H : Hp} {o : HO} : Ex2 p q H (upd H q o) := fun a u _ n e => by
  rw [upd_ne n]
  exact e
theorem Ex2.tups {K : PySem.W.Frag} {p q : Addr} {H H1 : Hp} {xs ys : List V} (a : Ex2 p q H H1) (hp : H p = some (.lst xs)) (hq : H q = some (.lst ys)) : Tups K H H1 := by
  intro t zs h
  rcases h with (h | ⟨o, h⟩) | h
  · exact .inl (.inl (a _ _ (fun z => by rw [z, hp] at h; cases h) (fun z => by rw [z, hq] at h; cases h) h))
  · exact .inl (.inr ⟨o, a _ _ (fun z => by rw [z, hp] at h; cases h) (fun z => by rw [z, hq] at h; cases h) h⟩)
  · exact .inr h
/-- a part of c parts, n deep -/
structure Pc (n c : Nat) (d : PyData) : Prop where
  tup : tupOnly d = true
  cnt : K03.cnt n d = c
  pos : 1 ≤ c
  ok : okD 9 d = true
  wt : d.weight ≤ 150 * c
  dp : d.depth ≤ n
  isT : isT d = true
def room (n : Nat) : Int := 64 * 2 ^ n - 2
def spPiece (K : PySem.W.Frag) (n : Nat) : Sp := fun vs H Q _ => ∃ (p q : Addr) (dp S r : Int), vs = [.ref p, .int dp, .ref q] ∧ dp = n ∧ 1 ≤ n ∧ n ≤ 9 ∧ q ≠ p ∧ Feed H p S ∧ S + room n ≤ 10000000 ∧
  H q = some (.lst [.int r]) ∧ 1 ≤ r ∧ r ≤ 100 ∧
  ∀ (v : V) (d : PyData) (c : Nat) (H' : Hp), Ex2 p q H H' → Feed H' p (S + room n) → H' q = some (.lst [.int (r - c)]) → Dp K H' v d → Pc n c d → c ≤ r → Q v H'
theorem isLab_ascii {x : Str} (h : isLab x = true) : x.length ≤ 8 ∧ x.cps.toList.all (fun c => decide (c < 128)) = true := by
  unfold isLab at h
  simp only [Bool.and_eq_true, decide_eq_true_eq, List.all_eq_true] at h
  refine ⟨h.1.2, List.all_eq_true.mpr fun c hc => decide_eq_true ?_⟩
  have z := h.2 c hc
  have all : ∀ c ∈ ("abcdefghijklmnopqrstuvwxyz" : Str).cps.toList, c < 128 := by decide +kernel
  exact all c z
theorem okD_str {k : Nat} {x : Str} (h : isLab x = true) : okD k (.str x) = true := by
  obtain ⟨a, b⟩ := isLab_ascii h
  simp only [okD, Bool.and_eq_true, decide_eq_true_eq]
  exact ⟨by omega, b⟩
theorem num_ok {k : Nat} {i : Int} (h : isNum (.int i) = true) : okD k (.int i) = true ∧ (PyData.int i).weight ≤ 100 := by
  have h : (decide (-(10 ^ 30 : Int) < i) && decide (i < 10 ^ 30)) = true := h
  simp only [Bool.and_eq_true, decide_eq_true_eq] at h
  have n : i.natAbs < 10 ^ 30 := by omega
  refine ⟨?_, ?_⟩
  · simp only [okD, decide_eq_true_eq]
    exact Nat.le_trans (Nat.le_of_lt (Nat.lt_of_lt_of_le n (by decide))) (Nat.le_add_right _ _)
  · simp only [PyData.weight]
    split
    · omega
    · rename_i z
      have z : i.natAbs ≠ 0 := by
        intro e
        exact z (by rw [Int.natAbs_eq_zero.mp e] <;> rfl)
      have : i.natAbs.log2 < 100 := (Nat.log2_lt z).mpr (Nat.lt_of_lt_of_le n (by decide +kernel))
      omega
theorem sign_ok {x : Str} (h : x ∈ signs) : isStr (.str x) "cell" = false ∧ signs.any (isStr (.str x)) = true ∧ isLab x = true := by
  have all : ∀ x ∈ signs, isStr (.str x) "cell" = false ∧ signs.any (isStr (.str x)) = true ∧ isLab x = true := by decide +kernel
  exact all x h
theorem wt_str {x : Str} : (PyData.str x).weight = x.length := by
  simp only [PyData.weight]
  rfl
theorem pc_cell {n : Nat} {x y : Str} (hx : isLab x = true) (hy : isLab y = true) : Pc (n + 1) 1 (.tuple [.str "cell", .str x, .str y]) := by
  obtain ⟨ax, _⟩ := isLab_ascii hx
  obtain ⟨ay, _⟩ := isLab_ascii hy
  have hc : isLab "cell" = true := by decide +kernel
  refine ⟨by simp [tupOnly, tupOnlyAll], ?_, by omega, ?_, ?_, ?_, rfl⟩
  · rw [cnt_three, show isStr (.str "cell") "cell" = true by decide +kernel, if_pos rfl]
    show (if (isLab x && isLab y) = true then 1 else 0) = 1
    rw [hx, hy] <;> rfl
  · have e : okAll 9 [.str "cell", .str x, .str y] = true := by
      unfold okAll okAll okAll okAll
      rw [okD_str hc, okD_str hx, okD_str hy] <;> rfl
    unfold okD
    rw [e]
    rfl
  · have e : (PyData.tuple [.str "cell", .str x, .str y]).weight = 4 + 1 + (x.length + 1 + (y.length + 1 + 0)) := by
      simp only [PyData.weight, PyData.weightAll]
      rfl
    omega
  · simp only [PyData.depth, PyData.depthAll]
    omega
theorem pc_num {n : Nat} {i : Int} (h : isNum (.int i) = true) : Pc (n + 1) 1 (.tuple [.str "number", .int i]) := by
  have hc : isLab "number" = true := by decide +kernel
  obtain ⟨o, w⟩ := num_ok (k := 9) h
  refine ⟨by simp [tupOnly, tupOnlyAll], ?_, by omega, ?_, ?_, ?_, rfl⟩
  · rw [cnt_two, show isStr (.str "number") "number" = true by decide +kernel, h]
    rfl
  · have e : okAll 9 [.str "number", .int i] = true := by
      unfold okAll okAll okAll
      rw [okD_str hc, o] <;> rfl
    unfold okD
    rw [e]
    rfl
  · have e : (PyData.tuple [.str "number", .int i]).weight = 6 + 1 + ((PyData.int i).weight + 1 + 0) := by
      simp only [PyData.weight, PyData.weightAll]
      rfl
    omega
  · simp only [PyData.depth, PyData.depthAll]
    omega
theorem pc_node {n c1 c2 : Nat} {x : Str} {d e : PyData} (hx : x ∈ signs) (h1 : Pc n c1 d) (h2 : Pc n c2 e) : Pc (n + 1) (1 + c1 + c2) (.tuple [.str x, d, e]) := by
  obtain ⟨s1, s2, s3⟩ := sign_ok hx
  obtain ⟨sl, _⟩ := isLab_ascii s3
  have p1 := h1.pos
  have p2 := h2.pos
  refine ⟨?_, ?_, by omega, ?_, ?_, ?_, rfl⟩
  · simp [tupOnly, tupOnlyAll, h1.tup, h2.tup]
  · rw [cnt_three, s1, if_neg Bool.false_ne_true, s2, if_pos rfl, h1.cnt, h2.cnt, decide_eq_true (by omega), decide_eq_true (by omega)]
    rfl
  · have e : okAll 9 [.str x, d, e] = true := by
      unfold okAll okAll okAll okAll
      rw [okD_str s3, h1.ok, h2.ok] <;> rfl
    unfold okD
    rw [e]
    rfl
  · have w1 := h1.wt
    have w2 := h2.wt
    have e : (PyData.tuple [.str x, d, e]).weight = x.length + 1 + (d.weight + 1 + (e.weight + 1 + 0)) := by
      simp only [PyData.weight, PyData.weightAll]
      rfl
    omega
  · have d1 := h1.dp
    have d2 := h2.dp
    have e : (PyData.tuple [.str x, d, e]).depth = max 0 (max d.depth (max e.depth 0)) + 1 := by
      simp only [PyData.depth, PyData.depthAll]
    omega
theorem leaf_end {K : PySem.W.Frag} {n : Nat} {p : Addr} {S : Int} {Q : VK} {H1 H2 H3 H4 H6 : Hp} {x2 x3 : Str} {t1 t2 lq : Addr} {i4 r6 S3 S4 : Int}
    (leaf : ∀ (v : V) (d : PyData) (H' : Hp), Ex1 p H1 H' → Feed H' p (S + 40) → Dp K H' v d → Pc (n + 1) 1 d → Q v H')
    (y2 : Ex1 p H1 H2) (y3 : Ex1 p H2 H3) (F3 : Feed H3 p S3) (n1 : H3 t1 = none) (y4 : Ex1 p (upd H3 t1 (.tup [.str "cell", .str x2, .str x3])) H4) (F4 : Feed H4 p S4) (n2 : H4 t2 = none)
    (n3 : upd H4 t2 (.tup [.str "number", .int i4]) lq = none)
    (y6 : Ex1 p (upd (upd H4 t2 (.tup [.str "number", .int i4])) lq (.lst [.ref t1, .ref t2])) H6) (a0 : 0 ≤ r6) (a1 : r6 < 3)
    (l2 : isLab x2 = true) (l3 : isLab x3 = true) (l4 : isNum (.int i4) = true) (F6 : Feed H6 p (S + 40)) :
    rIxL K (.ref lq) (.int (r6.fdiv 2)) H6 Q := by
  have k2 := Ex1.new (p := p) (o := .tup [.str "number", .int i4]) n2
  have k3 := Ex1.new (p := p) (o := .lst [.ref t1, .ref t2]) n3
  have yy := k2.trans (k3.trans y6)
  have X : Ex1 p H1 H6 := y2.trans (y3.trans ((Ex1.new n1).trans (y4.trans yy)))
  have el := y6 lq _ ((F4.stays (o := .tup [.str "number", .int i4]) n2).ne n3) upd_same
  have s1 := yy t1 _ (F3.ne n1) (y4 t1 _ (F3.ne n1) upd_same)
  have s2 := (k3.trans y6) t2 _ (F4.ne n2) upd_same
  have r2 : r6.fdiv 2 = 0 ∨ r6.fdiv 2 = 1 := by
    have : r6 = 0 ∨ r6 = 1 ∨ r6 = 2 := by omega
    rcases this with rfl | rfl | rfl
    · exact .inl rfl
    · exact .inl rfl
    · exact .inr rfl
  rcases r2 with e | e
  · exact ⟨lq, _, _, .ref t1, rfl, rfl, SqL.of el, by rw [e]; exact atI_nat (j := 0) rfl,
      leaf _ _ _ X F6 (.tup (SqT.of s1) (.cons (.str _) (.cons (.str _) (.cons (.str _) .nil)))) (pc_cell l2 l3)⟩
  · exact ⟨lq, _, _, .ref t2, rfl, rfl, SqL.of el, by rw [e]; exact atI_nat (j := 1) rfl,
      leaf _ _ _ X F6 (.tup (SqT.of s2) (.cons (.str _) (.cons (.int _) .nil))) (pc_num l4)⟩
section
variable {P : Program} {w : World} {K : PySem.W.Frag} {mg : Str → Option Value} {base : Heap} {f fT fL fM : Addr} {fd fdT fdL fdM : FuncData}
theorem piece_step {n : Nat} (F : Fun K "_law_piece" "_law_piece" sPiece f fd) (G : FnOk P w K mg base CX0 (n + 2) f fd ["_law_feed_here", "_law_deep", "_law_room"] (spPiece K n))
    (b : Binds K fd ["_law_feed_here", "_law_deep", "_law_room"] []) (gF : mg "_law_piece" = some (.ref f))
    (FT : Fun K "_law_take" "_law_take" sTake fT fdT) (bT : Binds K fdT ["_law_feed_here", "_law_many"] []) (gT : mg "_law_take" = some (.ref fT))
    (GL : FnOk P w K mg base CX0 2 fL fdL ["_law_feed_here"] spLabel) (FL : Fun K "_law_label" "_law_label" sLabel fL fdL) (bL : Binds K fdL ["_law_feed_here"] []) (gL : mg "_law_label" = some (.ref fL))
    (GM : FnOk P w K mg base CX0 2 fM fdM ["_law_feed_here"] spNum) (FM : Fun K "_law_number" "_law_number" sNum fM fdM) (bM : Binds K fdM ["_law_feed_here"] []) (gM : mg "_law_number" = some (.ref fM)) :
    FnOk P w K mg base CX0 (n + 1 + 2) f fd ["_law_feed_here", "_law_deep", "_law_room"] (spPiece K (n + 1)) := by
  have GT : FnOk P w K mg base CX0 1 fT fdT ["_law_feed_here", "_law_many"] spTake := ok_take FT
  refine F.ok scPiece (fun vs H Q E h => ?_) (fun cdv A outer s H vs Q E hr h => ?_)
  · obtain ⟨p, q, dp, S, r, rfl, _⟩ := h
    rfl
  obtain ⟨p, q, dp, S, r, rfl, rfl, hn1, hn9, hqp, hF, hS, eq, r1, r100, k⟩ := h
  have nd := scPiece.nd
  have hrT := hr.mono (show 1 ≤ n + 2 by omega)
  have hr2 := hr.mono (show 2 ≤ n + 2 by omega)
  refine ⟨_, pss_cons (ps_asg (pe_op op_sub (pe_ix ix_list (pv 2) pe_int (fun _ _ => rfl)) pe_int) (pg_sub (pv 2) pe_int set_list))
    (pss_cons (ps_set (i := 3) nd rfl (.inl rfl) (pe_call GT hrT (by rfl) gT FT.kp bT .nil pass0 (pa_cons (pv 0) (pa_cons pe_int pa_nil))))
    (pss_cons (ps_if (PW.pt (pw_or (pt_cmpR op_eq (pv 1) pe_int (nomark _)) (pw_or (pt_cmpR op_lt (pe_ix ix_list (pv 2) pe_int (fun _ _ => rfl)) pe_int (nomark _)) (pw_or1 (pt_cmpR op_lt (pv 3) pe_int (nomark _))))))
      (pss_one (ps_ret (pe_ix ix_list (pe_lst (pa_cons (pe_tup (pa_cons pe_str (pa_cons (pe_call GL hr2 (by rfl) gL FL.kp bL .nil pass0 (pa_cons (pv 0) pa_nil)) (pa_cons (pe_call GL hr2 (by rfl) gL FL.kp bL .nil pass0 (pa_cons (pv 0) pa_nil)) pa_nil))))
          (pa_cons (pe_tup (pa_cons pe_str (pa_cons (pe_call GM hr2 (by rfl) gM FM.kp bM .nil pass0 (pa_cons (pv 0) pa_nil)) pa_nil))) pa_nil)))
        (pe_op op_fdivN (pe_call GT hrT (by rfl) gT FT.kp bT .nil pass0 (pa_cons (pv 0) (pa_cons pe_int pa_nil))) pe_int) (fun _ _ => rfl)))) pss_nil)
    (pss_cons (ps_asg (pe_op op_sub (pe_ix ix_list (pv 2) pe_int (fun _ _ => rfl)) pe_int) (pg_sub (pv 2) pe_int set_list))
    (pss_cons (ps_set (i := 4) nd rfl (.inl rfl) (pe_call G hr (by rfl) gF F.kp b .nil pass0 (pa_cons (pv 0) (pa_cons (pe_op op_sub (pv 1) pe_int) (pa_cons (pv 2) pa_nil)))))
    (pss_cons (ps_asg (pe_op op_add (pe_ix ix_list (pv 2) pe_int (fun _ _ => rfl)) pe_int) (pg_sub (pv 2) pe_int set_list))
    (pss_one (ps_ret (pe_tup (pa_cons (pe_ix ix_list (pe_lst (pa_cons pe_str (pa_cons pe_str (pa_cons pe_str (pa_cons pe_str pa_nil))))) (pe_op op_modN (pv 3) pe_int) (fun _ _ => rfl))
      (pa_cons (pv 4) (pa_cons (pe_call G hr (by rfl) gF F.kp b .nil pass0 (pa_cons (pv 0) (pa_cons (pe_op op_sub (pv 1) pe_int) (pa_cons (pv 2) pa_nil)))) pa_nil))))))))))), ?_⟩
  have Lq : SqL K H q [.int r] := SqL.of eq
  refine ⟨_, rfl, q, _, 0, .int r, rfl, rfl, Lq, atI_nat (j := 0) rfl, r, 1, rfl, rfl, _, rfl, q, _, 0, 0, rfl, rfl, eq, rfl, ?_⟩
  have rn : room (n + 1) = 2 * room n + 2 := by
    unfold room
    rw [Int.pow_succ]
    omega
  have rp : 62 ≤ room n := by
    unfold room
    have : (1 : Int) ≤ 2 ^ n := Int.pow_pos (by decide)
    omega
  rw [rn] at hS k
  have xq0 : Ex2 p q H (upd H q (.lst [.int (r - 1)])) := .at2
  have F0 : Feed (upd H q (.lst [.int (r - 1)])) p S := by
    obtain ⟨g, x, s, ep, s0, s1⟩ := hF
    refine ⟨g, x, s, ?_, s0, s1⟩
    rw [upd_ne hqp.symm]
    exact ep
  refine ⟨_, rfl, p, 9, S, rfl, F0, by omega, by omega, by omega, fun wy H1 w0 w1 hF1 x1 => ?_⟩
  have x1 : Ex1 p (upd H q (.lst [.int (r - 1)])) H1 := x1
  have eq1 : H1 q = some (.lst [.int (r - 1)]) := x1 q _ hqp upd_same
  have Lq1 : SqL K H1 q [.int (r - 1)] := SqL.of eq1
  have X1 : Ex2 p q H H1 := xq0.trans (Ex1.two x1)
  -- what a leaf is
  have leaf : ∀ (v : V) (d : PyData) (H' : Hp), Ex1 p H1 H' → Feed H' p (S + 40) → Dp K H' v d → Pc (n + 1) 1 d → Q v H' := fun v d H' x F' hd pc =>
    k v d 1 H' (X1.trans (Ex1.two x)) (F'.le (by omega)) (x q _ hqp eq1) hd pc (by omega)
  refine ⟨_, rfl, rfl, _, rfl, ite2 (fun c1 => ?_) (fun c1 => ?_)⟩
  · refine ⟨_, rfl, p, _, rfl, hF1, by omega, fun x2 H2 y2 F2 l2 => ?_⟩
    refine ⟨_, rfl, p, _, rfl, F2, by omega, fun x3 H3 y3 F3 l3 => ?_⟩
    refine ⟨(by show 3 ≤ sizeLine; decide), fun t1 n1 => ?_⟩
    refine ⟨_, rfl, p, _, rfl, F3.stays n1, by omega, fun i4 H4 y4 F4 l4 => ?_⟩
    refine ⟨(by show 2 ≤ sizeLine; decide), fun t2 n2 => ?_⟩
    refine ⟨(by show 2 ≤ sizeLine; decide), fun lq n3 => ?_⟩
    have F5 := (F4.stays (o := .tup [.str "number", .int i4]) n2).stays (o := .lst [.ref t1, .ref t2]) n3
    refine ⟨_, rfl, p, 3, _, rfl, F5, by omega, by omega, by omega, fun r6 H6 a0 a1 F6 y6 => ?_⟩
    exact ⟨_, _, rfl, rfl, ⟨by decide, by decide⟩, leaf_end leaf y2 y3 F3 n1 y4 F4 n2 n3 y6 a0 a1 l2 l3 l4 (F6.le (by omega))⟩
  refine ⟨_, rfl, q, _, 0, .int (r - 1), rfl, rfl, Lq1, atI_nat (j := 0) rfl, _, _, rfl, rfl, _, rfl, ite2 (fun c2 => ?_) (fun c2 => ?_)⟩
  · refine ⟨_, rfl, p, _, rfl, hF1, by omega, fun x2 H2 y2 F2 l2 => ?_⟩
    refine ⟨_, rfl, p, _, rfl, F2, by omega, fun x3 H3 y3 F3 l3 => ?_⟩
    refine ⟨(by show 3 ≤ sizeLine; decide), fun t1 n1 => ?_⟩
    refine ⟨_, rfl, p, _, rfl, F3.stays n1, by omega, fun i4 H4 y4 F4 l4 => ?_⟩
    refine ⟨(by show 2 ≤ sizeLine; decide), fun t2 n2 => ?_⟩
    refine ⟨(by show 2 ≤ sizeLine; decide), fun lq n3 => ?_⟩
    have F5 := (F4.stays (o := .tup [.str "number", .int i4]) n2).stays (o := .lst [.ref t1, .ref t2]) n3
    refine ⟨_, rfl, p, 3, _, rfl, F5, by omega, by omega, by omega, fun r6 H6 a0 a1 F6 y6 => ?_⟩
    exact ⟨_, _, rfl, rfl, ⟨by decide, by decide⟩, leaf_end leaf y2 y3 F3 n1 y4 F4 n2 n3 y6 a0 a1 l2 l3 l4 (F6.le (by omega))⟩
  refine ⟨_, rfl, _, _, rfl, rfl, _, rfl, ite2 (fun c3 => ?_) (fun c3 => ?_)⟩
  · refine ⟨_, rfl, p, _, rfl, hF1, by omega, fun x2 H2 y2 F2 l2 => ?_⟩
    refine ⟨_, rfl, p, _, rfl, F2, by omega, fun x3 H3 y3 F3 l3 => ?_⟩
    refine ⟨(by show 3 ≤ sizeLine; decide), fun t1 n1 => ?_⟩
    refine ⟨_, rfl, p, _, rfl, F3.stays n1, by omega, fun i4 H4 y4 F4 l4 => ?_⟩
    refine ⟨(by show 2 ≤ sizeLine; decide), fun t2 n2 => ?_⟩
    refine ⟨(by show 2 ≤ sizeLine; decide), fun lq n3 => ?_⟩
    have F5 := (F4.stays (o := .tup [.str "number", .int i4]) n2).stays (o := .lst [.ref t1, .ref t2]) n3
    refine ⟨_, rfl, p, 3, _, rfl, F5, by omega, by omega, by omega, fun r6 H6 a0 a1 F6 y6 => ?_⟩
    exact ⟨_, _, rfl, rfl, ⟨by decide, by decide⟩, leaf_end leaf y2 y3 F3 n1 y4 F4 n2 n3 y6 a0 a1 l2 l3 l4 (F6.le (by omega))⟩
  have c1 : ¬ n + 1 = 1 := fun z => c1 (decide_eq_true (by rw [z]; rfl))
  have c2 : ¬ r - 1 < 2 := fun z => c2 (decide_eq_true z)
  refine ⟨_, rfl, q, _, 0, .int (r - 1), rfl, rfl, Lq1, atI_nat (j := 0) rfl, _, 1, rfl, rfl, _, rfl, q, _, 0, 0, rfl, rfl, eq1, rfl, ?_⟩
  have F2 : Feed (upd H1 q (.lst [.int (r - 1 - 1)])) p (S + 1) := by
    obtain ⟨g, x, s, ep, s0, s1⟩ := hF1
    refine ⟨g, x, s, ?_, s0, s1⟩
    rw [upd_ne hqp.symm]
    exact ep
  have X2 : Ex2 p q H (upd H1 q (.lst [.int (r - 1 - 1)])) := X1.trans .at2
  refine ⟨_, rfl, _, rfl, _, _, rfl, rfl, _, rfl, p, q, _, S + 1, r - 1 - 1, rfl, by omega, by omega, by omega, hqp, F2, by omega, upd_same, by omega, by omega, fun v1 d1 k1 H3 x3 F3 e3 D1 P1 le1 => ?_⟩
  have x3 : Ex2 p q (upd H1 q (.lst [.int (r - 1 - 1)])) H3 := x3
  have Lq3 : SqL K H3 q [.int (r - 1 - 1 - k1)] := SqL.of e3
  refine ⟨_, rfl, q, _, 0, .int (r - 1 - 1 - k1), rfl, rfl, Lq3, atI_nat (j := 0) rfl, _, 1, rfl, rfl, _, rfl, q, _, 0, 0, rfl, rfl, e3, rfl, ?_⟩
  have X3 : Ex2 p q H (upd H3 q (.lst [.int (r - 1 - 1 - k1 + 1)])) := (X2.trans x3).trans .at2
  have F4 : Feed (upd H3 q (.lst [.int (r - 1 - 1 - k1 + 1)])) p (S + 1 + room n) := by
    obtain ⟨g, x, s, ep, s0, s1⟩ := F3
    refine ⟨g, x, s, ?_, s0, s1⟩
    rw [upd_ne hqp.symm]
    exact ep
  have T3 : Tups K H3 (upd H3 q (.lst [.int (r - 1 - 1 - k1 + 1)])) := Tups.upd_lst e3
  refine ⟨(by show 4 ≤ sizeLine; decide), fun lw nl => ?_⟩
  have nl : upd H3 q (.lst [.int (r - 1 - 1 - k1 + 1)]) lw = none := nl
  have e4 : upd H3 q (.lst [.int (r - 1 - 1 - k1 + 1)]) q = some (.lst [.int (r - 1 - 1 - k1 + 1)]) := upd_same
  obtain ⟨m0, m1⟩ := fmod_in wy (b := 4) (by omega)
  obtain ⟨x, hx, ea⟩ := at_map (f := V.str) (xs := signs) (r := wy.fmod 4) m0 m1
  refine ⟨_, rfl, _, _, rfl, rfl, by show (4 : Int) ≠ 0; decide, lw, _, _, .str x, rfl, rfl, SqL.of upd_same, ea, ?_⟩
  have X4 : Ex2 p q H (upd (upd H3 q (.lst [.int (r - 1 - 1 - k1 + 1)])) lw (.lst (signs.map V.str))) := X3.trans (Ex1.two (Ex1.new nl))
  have F5 := F4.stays (o := .lst (signs.map V.str)) nl
  have T4 := T3.trans (Tups.new (K := K) (o := .lst (signs.map V.str)) nl)
  have e5 := new_same (o := .lst (signs.map V.str)) nl _ _ e4
  refine ⟨_, rfl, _, rfl, _, rfl, _, _, rfl, rfl, _, rfl, p, q, _, S + 1 + room n, r - 1 - 1 - k1 + 1, rfl, by omega, by omega, by omega, hqp, F5, by omega, e5, by omega, by omega, fun v2 d2 k2 H6 x6 F6 e6 D2 P2 le2 => ?_⟩
  have x6 : Ex2 p q (upd (upd H3 q (.lst [.int (r - 1 - 1 - k1 + 1)])) lw (.lst (signs.map V.str))) H6 := x6
  obtain ⟨ys, ep5⟩ := F5.lst
  have T6 := T4.trans (x6.tups ep5 e5)
  refine ⟨(by show 3 ≤ sizeLine; decide), fun tt nt => ?_⟩
  have nt : H6 tt = none := nt
  have D1' := Gd.Dp.tups (T6.trans (Tups.new (K := K) (o := .tup [.str x, v1, v2]) nt)) d1 P1.tup D1
  have D2' := Gd.Dp.tups (Tups.new (K := K) (o := .tup [.str x, v1, v2]) nt) d2 P2.tup D2
  refine k (.ref tt) (.tuple [.str x, d1, d2]) (1 + k1 + k2) _ ((X4.trans x6).trans (Ex1.two (Ex1.new nt))) ((F6.stays nt).le (by omega)) ?_ (.tup (SqT.of upd_same) (.cons (.str x) (.cons D1' (.cons D2' .nil)))) (pc_node hx P1 P2) (by omega)
  rw [upd_ne (ne_of_none e6 nt), e6]
  have z : r - 1 - 1 - (k1 : Int) + 1 - (k2 : Int) = r - ((1 + k1 + k2 : Nat) : Int) := by omega
  rw [z]
end
end K03
end

section
set_option Elab.async false
set_option linter.all false
set_option maxRecDepth 100000
set_option maxHeartbeats 4000000
namespace K03
open PySem PySem.Spec PyProof.Rows L2 Gd
/-! sizes of what is made of data -/
theorem okAll_mem {k : Nat} : ∀ {ds : List PyData}, okAll k ds = true ↔ ∀ d ∈ ds, okD k d = true
  | [] => ⟨fun _ => nofun, fun _ => rfl⟩
  | d :: ds => by
    have ih := okAll_mem (k := k) (ds := ds)
    simp only [okAll, Bool.and_eq_true, ih, List.mem_cons]
    exact ⟨fun h e m => m.elim (fun z => z ▸ h.1) (h.2 e), fun h => ⟨h _ (.inl rfl), fun e m => h e (.inr m)⟩⟩
theorem depth_mem {n : Nat} : ∀ {ds : List PyData}, PyData.depthAll ds ≤ n ↔ ∀ d ∈ ds, d.depth ≤ n
  | [] => ⟨fun _ => nofun, fun _ => Nat.zero_le _⟩
  | d :: ds => by
    have ih := depth_mem (n := n) (ds := ds)
    simp only [PyData.depthAll, Nat.max_le, ih, List.mem_cons]
    exact ⟨fun h e m => m.elim (fun z => z ▸ h.1) (h.2 e), fun h => ⟨h _ (.inl rfl), fun e m => h e (.inr m)⟩⟩
theorem wt_app : ∀ {ds es : List PyData}, PyData.weightAll (ds ++ es) = PyData.weightAll ds + PyData.weightAll es
  | [], es => by simp [PyData.weightAll]
  | d :: ds, es => by
    simp only [List.cons_append, PyData.weightAll, wt_app (ds := ds) (es := es)]
    omega
theorem wt_take : ∀ {ds : List PyData} (i : Nat), PyData.weightAll (ds.take i) ≤ PyData.weightAll ds
  | [], i => by rw [List.take_nil] <;> exact Nat.le_refl _
  | d :: ds, 0 => Nat.zero_le _
  | d :: ds, i + 1 => by
    have ih := wt_take (ds := ds) i
    simp only [List.take_succ_cons, PyData.weightAll]
    omega
theorem wt_drop : ∀ {ds : List PyData} (i : Nat), PyData.weightAll (ds.drop i) ≤ PyData.weightAll ds
  | [], i => by rw [List.drop_nil] <;> exact Nat.le_refl _
  | d :: ds, 0 => Nat.le_refl _
  | d :: ds, i + 1 => by
    have ih := wt_drop (ds := ds) i
    simp only [List.drop_succ_cons, PyData.weightAll]
    omega
theorem wt_rev : ∀ {ds : List PyData}, PyData.weightAll ds.reverse = PyData.weightAll ds
  | [] => rfl
  | d :: ds => by
    rw [List.reverse_cons, wt_app, wt_rev (ds := ds)]
    simp only [PyData.weightAll]
    omega
/-- the items of a sequence -/
structure Fits (k w n : Nat) (ds : List PyData) : Prop where
  len : ds.length ≤ k
  ok : ∀ d ∈ ds, okD k d = true
  wt : PyData.weightAll ds ≤ w
  dp : ∀ d ∈ ds, d.depth ≤ n
section
variable {k w n : Nat} {ds es : List PyData}
theorem Fits.of (f : Fit k w (n + 1) (.tuple ds)) : Fits k w n ds := by
  obtain ⟨a, b, c⟩ := f
  simp only [okD, Bool.and_eq_true, decide_eq_true_eq] at a
  simp only [PyData.weight] at b
  simp only [PyData.depth] at c
  exact ⟨a.1, okAll_mem.mp a.2, b, depth_mem.mp (by omega)⟩
theorem Fits.tup (f : Fits k w n ds) : Fit k w (n + 1) (.tuple ds) := by
  refine ⟨?_, ?_, ?_⟩
  · simp only [okD, Bool.and_eq_true, decide_eq_true_eq]
    exact ⟨f.len, okAll_mem.mpr f.ok⟩
  · simp only [PyData.weight]
    exact f.wt
  · simp only [PyData.depth]
    have := depth_mem.mpr f.dp
    omega
theorem Fits.lst (f : Fits k w n ds) : Fit k w (n + 1) (.list ds) := by
  refine ⟨?_, ?_, ?_⟩
  · simp only [okD, Bool.and_eq_true, decide_eq_true_eq]
    exact ⟨f.len, okAll_mem.mpr f.ok⟩
  · simp only [PyData.weight]
    exact f.wt
  · simp only [PyData.depth]
    have := depth_mem.mpr f.dp
    omega
theorem Fits.take (f : Fits k w n ds) (i : Nat) : Fits k w n (ds.take i) :=
  ⟨by rw [List.length_take]; exact Nat.le_trans (Nat.min_le_right _ _) f.len, fun d m => f.ok d (List.mem_of_mem_take m), Nat.le_trans (wt_take i) f.wt, fun d m => f.dp d (List.mem_of_mem_take m)⟩
theorem Fits.drop (f : Fits k w n ds) (i : Nat) : Fits k w n (ds.drop i) :=
  ⟨by rw [List.length_drop]; exact Nat.le_trans (Nat.sub_le _ _) f.len, fun d m => f.ok d (List.mem_of_mem_drop m), Nat.le_trans (wt_drop i) f.wt, fun d m => f.dp d (List.mem_of_mem_drop m)⟩
theorem Fits.rev (f : Fits k w n ds) : Fits k w n ds.reverse :=
  ⟨by rw [List.length_reverse]; exact f.len, fun d m => f.ok d (List.mem_reverse.mp m), by rw [wt_rev]; exact f.wt, fun d m => f.dp d (List.mem_reverse.mp m)⟩
theorem Fits.mono {k' w' n' : Nat} (f : Fits k w n ds) (hk : k ≤ k') (hw : w ≤ w') (hn : n ≤ n') : Fits k' w' n' ds :=
  ⟨Nat.le_trans f.len hk, fun d m => okD.mono hk d (f.ok d m), Nat.le_trans f.wt hw, fun d m => Nat.le_trans (f.dp d m) hn⟩
theorem Fits.app {l1 l2 w1 w2 : Nat} (f : Fits k w1 n ds) (g : Fits k w2 n es) (h : ds.length + es.length ≤ k) : Fits k (w1 + w2) n (ds ++ es) :=
  ⟨by rw [List.length_append]; exact h, fun d m => (List.mem_append.mp m).elim (f.ok d) (g.ok d), by rw [wt_app]; exact Nat.add_le_add f.wt g.wt, fun d m => (List.mem_append.mp m).elim (f.dp d) (g.dp d)⟩
theorem Fits.one {d : PyData} (f : Fit k w n d) (h : 1 ≤ k) : Fits k (w + 1) n [d] :=
  ⟨h, fun e m => by rw [List.mem_singleton.mp m]; exact f.ok, by simp only [PyData.weightAll]; have := f.wt; omega, fun e m => by rw [List.mem_singleton.mp m]; exact f.dp⟩
theorem Fits.at {i : Nat} {d : PyData} (f : Fits k w n ds) (h : ds[i]? = some d) : Fit k w n d := by
  have m := List.mem_of_getElem? h
  refine ⟨f.ok d m, Nat.le_trans ?_ f.wt, f.dp d m⟩
  clear f
  induction ds generalizing i with
  | nil => cases m
  | cons e r ih =>
    simp only [PyData.weightAll]
    rcases List.mem_cons.mp m with rfl | m2
    · omega
    · obtain ⟨j, hj⟩ := List.getElem?_of_mem m2
      have := ih hj m2
      omega
end
/-- a text of plain signs -/
def Asc (l : Nat) (x : Str) : Prop := x.length ≤ l ∧ ∀ c ∈ x.cps.toList, c < 128
theorem Asc.fit {k l : Nat} {x : Str} (h : Asc l x) (hl : l ≤ 100 + k) : Fit k l 0 (.str x) := by
  refine ⟨?_, by rw [wt_str]; exact h.1, Nat.le_refl _⟩
  simp only [okD, Bool.and_eq_true, decide_eq_true_eq, List.all_eq_true]
  exact ⟨Nat.le_trans h.1 hl, h.2⟩
theorem Asc.of {k w n : Nat} {x : Str} (f : Fit k w n (.str x)) : Asc (100 + k) x := by
  have a := f.ok
  simp only [okD, Bool.and_eq_true, decide_eq_true_eq, List.all_eq_true] at a
  exact a
theorem Asc.app {l m : Nat} {x y : Str} (h : Asc l x) (g : Asc m y) : Asc (l + m) (x ++ y) := by
  refine ⟨by rw [PySem.strLen_append]; exact Nat.add_le_add h.1 g.1, fun c hc => ?_⟩
  have e : (x ++ y).cps.toList = x.cps.toList ++ y.cps.toList := TL.tl_append x y
  rw [e] at hc
  exact (List.mem_append.mp hc).elim (h.2 c) (g.2 c)
theorem Asc.cut {l : Nat} {x : Str} (h : Asc l x) (lo hi : Option Int) : Asc l (cutS x lo hi) := by
  refine ⟨?_, fun c hc => ?_⟩
  · show (((x.cps.toList.drop _).take _).toArray).size ≤ l
    rw [List.size_toArray, List.length_take, List.length_drop, Array.length_toList]
    have := h.1
    have e : x.length = x.cps.size := rfl
    omega
  · have hc : c ∈ ((x.cps.toList.drop (HT.sIx x.length 0 lo)).take (HT.sIx x.length x.length hi - HT.sIx x.length 0 lo)) := hc
    exact h.2 c (List.mem_of_mem_drop (List.mem_of_mem_take hc))
theorem upper_all : ∀ c, c < 128 → (Unicode.upperOf c).length = 1 ∧ ∀ d ∈ Unicode.upperOf c, d < 128 := by decide +kernel
theorem flat_ones {cs : List Nat} (g : Nat → List Nat) (h : ∀ c ∈ cs, (g c).length = 1 ∧ ∀ d ∈ g c, d < 128) :
    (cs.flatMap g).length = cs.length ∧ ∀ d ∈ cs.flatMap g, d < 128 := by
  induction cs with
  | nil => exact ⟨rfl, nofun⟩
  | cons c r ih =>
    obtain ⟨a, b⟩ := ih fun c m => h c (List.mem_cons_of_mem _ m)
    obtain ⟨a1, b1⟩ := h c (List.mem_cons_self ..)
    rw [List.flatMap_cons]
    refine ⟨by rw [List.length_append, a, a1, List.length_cons]; omega, fun d m => ?_⟩
    exact (List.mem_append.mp m).elim (b1 d) (b d)
theorem zip_map (g : Nat → List Nat) : ∀ (l : List Nat) (k : Nat), (l.zipIdx k).map (fun p => g p.1) = l.map g
  | [], _ => rfl
  | c :: l, k => by rw [List.zipIdx_cons, List.map_cons, List.map_cons, zip_map g l (k + 1)]
theorem upper_flat (x : Str) : (Txt.upper x).cps.toList = x.cps.toList.flatMap Unicode.upperOf := by
  show ((x.cps.mapIdx fun _ c => (Unicode.upperOf c).toArray).flatten).toList = _
  rw [Array.toList_flatten, Array.toList_mapIdx, List.mapIdx_eq_zipIdx_map]
  rw [List.flatMap_def]
  simp
  have e : (Array.toList ∘ fun x : Nat × Nat => (Unicode.upperOf x.1).toArray) = fun p => Unicode.upperOf p.1 := funext fun p => by simp
  rw [e, zip_map]
theorem Asc.upper {l : Nat} {x : Str} (h : Asc l x) : Asc l (Txt.upper x) := by
  obtain ⟨a, b⟩ := flat_ones (cs := x.cps.toList) Unicode.upperOf fun c m => upper_all c (h.2 c m)
  refine ⟨?_, fun d m => b d (by rw [← upper_flat]; exact m)⟩
  have e : (Txt.upper x).length = (Txt.upper x).cps.toList.length := by
    show (Txt.upper x).cps.size = _
    rw [Array.length_toList]
  rw [e, upper_flat, a]
  exact h.1
theorem digits_asc (m : Nat) : ∀ c ∈ (Nat.repr m).toList, c.toNat < 128 := by
  intro c hc
  have e : (Nat.repr m).toList = Nat.toDigits 10 m := by
    unfold Nat.repr
    simp
  rw [e] at hc
  have d := Nat.isDigit_of_mem_toDigits (by decide) (by decide) hc
  have d2 : (c.val ≥ '0'.val && c.val ≤ '9'.val) = true := d
  simp only [Bool.and_eq_true, decide_eq_true_eq] at d2
  have z : c.val.toNat ≤ 57 := UInt32.le_iff_toNat_le.mp d2.2
  show c.val.toNat < 128
  omega
theorem int_asc {i : Int} {k : Nat} (hk : k ≤ 50) (h : i.natAbs ≤ 10 ^ 64 + k) : Asc 66 (toString i) := by
  have h1 : i.natAbs < 10 ^ 65 := Nat.lt_of_le_of_lt h (Nat.lt_of_le_of_lt (Nat.add_le_add_left hk _) (by decide))
  have e := int_text_length_le10 (k := 65) (by decide) h1
  refine ⟨by show (Str.ofString (toString i)).length ≤ 66; rw [PySem.ofString_length]; exact e, fun c hc => ?_⟩
  have e2 : (Str.ofString (toString i)).cps.toList = (toString i).toList.map Char.toNat := by
    rw [Str.ofString_eq_toList]
  have hc : c ∈ (Str.ofString (toString i)).cps.toList := hc
  rw [e2] at hc
  obtain ⟨ch, hm, rfl⟩ := List.mem_map.mp hc
  cases i with
  | ofNat m => exact digits_asc m ch hm
  | negSucc m =>
    have e3 : (toString (Int.negSucc m)).toList = '-' :: (Nat.repr (m + 1)).toList := by
      show ("-" ++ Nat.repr (m + 1)).toList = _
      rw [String.toList_append] <;> rfl
    rw [e3] at hm
    rcases List.mem_cons.mp hm with rfl | hm
    · decide
    · exact digits_asc (m + 1) ch hm
theorem int_fit {i : Int} {k : Nat} (hk : k ≤ 50) (h : i.natAbs ≤ 10 ^ 64 + k) : Fit k 300 0 (.int i) := by
  refine ⟨by simp only [okD, decide_eq_true_eq]; exact h, ?_, Nat.le_refl _⟩
  simp only [PyData.weight]
  split
  · omega
  · rename_i z
    have z : i.natAbs ≠ 0 := by
      intro e
      exact z (by rw [Int.natAbs_eq_zero.mp e] <;> rfl)
    have h1 : i.natAbs < 2 ^ 250 := Nat.lt_of_le_of_lt h (Nat.lt_of_le_of_lt (Nat.add_le_add_left hk _) (by decide +kernel))
    have : i.natAbs.log2 < 250 := (Nat.log2_lt z).mpr h1
    omega
end K03
end

section
set_option Elab.async false
set_option linter.all false
set_option maxRecDepth 100000
set_option maxHeartbeats 4000000
namespace K03
open PySem PySem.Spec PyProof.Rows L2 Gd
/-- a piece -/
inductive Pz
  | cell (x y : Str)
  | num (i : Int)
  | op (w : Str) (a b : Pz)
def pzD : Pz → PyData
  | .cell x y => .tuple [.str "cell", .str x, .str y]
  | .num i => .tuple [.str "number", .int i]
  | .op w a b => .tuple [.str w, pzD a, pzD b]
def pzOk : Pz → Prop
  | .cell x y => isLab x = true ∧ isLab y = true
  | .num i => -(10 ^ 30 : Int) < i ∧ i < 10 ^ 30
  | .op w a b => w ∈ signs ∧ pzOk a ∧ pzOk b
def pzDeep : Pz → Nat
  | .cell _ _ => 1
  | .num _ => 1
  | .op _ a b => max (pzDeep a) (pzDeep b) + 1
def pzMany : Pz → Nat
  | .cell _ _ => 1
  | .num _ => 1
  | .op _ a b => 1 + pzMany a + pzMany b
theorem str_of {d : PyData} {x : Str} (h : isStr d x = true) : d = .str x := by
  cases d with
  | str y =>
    have : decide (y = x) = true := h
    rw [of_decide_eq_true this]
  | _ => cases h
theorem pz_of : ∀ (n : Nat) (d : PyData), 1 ≤ cnt n d → ∃ z, d = pzD z ∧ pzOk z ∧ pzDeep z ≤ n ∧ pzMany z = cnt n d
  | 0, _, h => by simp [cnt] at h
  | n + 1, d, h => by
    match d, h with
    | .tuple [w, e], h =>
      rw [cnt_two] at h ⊢
      split at h
      · rename_i c
        rw [if_pos c]
        rw [Bool.and_eq_true] at c
        rw [str_of c.1]
        cases e with
        | int i =>
          have c2 := c.2
          simp only [isNum, Bool.and_eq_true, decide_eq_true_eq] at c2
          exact ⟨.num i, rfl, c2, by show 1 ≤ n + 1; omega, rfl⟩
        | _ => exact absurd c.2 (by simp [isNum])
      · omega
    | .tuple [w, x, y], h =>
      rw [cnt_three] at h ⊢
      split at h
      · rename_i c
        rw [if_pos c]
        split at h
        · rename_i c2
          rw [if_pos c2]
          rw [Bool.and_eq_true] at c2
          rw [str_of c]
          cases x with
          | str x =>
            cases y with
            | str y => exact ⟨.cell x y, rfl, c2, by show 1 ≤ n + 1; omega, rfl⟩
            | _ => exact absurd c2.2 (by simp [isLabD])
          | _ => exact absurd c2.1 (by simp [isLabD])
        · omega
      · rename_i c
        rw [if_neg c]
        split at h
        · rename_i c2
          rw [if_pos c2]
          split at h
          · rename_i c3
            rw [if_pos c3]
            rw [Bool.and_eq_true, decide_eq_true_eq, decide_eq_true_eq] at c3
            obtain ⟨s, hs, hw⟩ := List.any_eq_true.mp c2
            rw [str_of hw]
            obtain ⟨a, rfl, oa, da, ma⟩ := pz_of n x c3.1
            obtain ⟨b, rfl, ob, db, mb⟩ := pz_of n y c3.2
            refine ⟨.op s a b, rfl, ⟨hs, oa, ob⟩, ?_, ?_⟩
            · show max (pzDeep a) (pzDeep b) + 1 ≤ n + 1
              omega
            · show 1 + pzMany a + pzMany b = _
              rw [ma, mb]
          · omega
        · omega
    | .none, h => simp [cnt] at h
    | .bool _, h => simp [cnt] at h
    | .int _, h => simp [cnt] at h
    | .str _, h => simp [cnt] at h
    | .list _, h => simp [cnt] at h
    | .dict _, h => simp [cnt] at h
    | .tuple [], h => simp [cnt] at h
    | .tuple [_], h => simp [cnt] at h
    | .tuple (_ :: _ :: _ :: _ :: _), h => simp [cnt] at h
/-- its cells from the left -/
def cells : Pz → List (Str × Str)
  | .cell x y => [(x, y)]
  | .num _ => []
  | .op _ a b => cells a ++ cells b
/-- all its pieces -/
def allP : Pz → List Pz
  | .cell x y => [.cell x y]
  | .num i => [.num i]
  | .op w a b => [.op w a b] ++ allP a ++ allP b
def faults : Pz → Bool
  | .op w a b => decide (w = "over") || faults a || faults b
  | _ => false
def cellD (x : Str × Str) : PyData := .tuple [.str x.1, .str x.2]
theorem cells_len : ∀ z, (cells z).length ≤ pzMany z
  | .cell _ _ => Nat.le_refl _
  | .num _ => Nat.zero_le _
  | .op _ a b => by
    have := cells_len a
    have := cells_len b
    show (cells a ++ cells b).length ≤ 1 + pzMany a + pzMany b
    rw [List.length_append]
    omega
theorem all_len : ∀ z, (allP z).length = pzMany z
  | .cell _ _ => rfl
  | .num _ => rfl
  | .op w a b => by
    show ([Pz.op w a b] ++ allP a ++ allP b).length = 1 + pzMany a + pzMany b
    rw [List.length_append, List.length_append, all_len a, all_len b]
    rfl
theorem cells_all : ∀ z, cells z = (allP z).filterMap fun p => match p with
    | .cell x y => some (x, y)
    | _ => none
  | .cell _ _ => rfl
  | .num _ => rfl
  | .op w a b => by
    show cells a ++ cells b = ([Pz.op w a b] ++ allP a ++ allP b).filterMap _
    rw [List.filterMap_append, List.filterMap_append, ← cells_all a, ← cells_all b]
    rfl
theorem faults_all : ∀ z, faults z = (allP z).any fun p => match p with
    | .op w _ _ => decide (w = "over")
    | _ => false
  | .cell _ _ => rfl
  | .num _ => rfl
  | .op w a b => by
    show (decide (w = "over") || faults a || faults b) = ([Pz.op w a b] ++ allP a ++ allP b).any _
    rw [List.any_append, List.any_append, ← faults_all a, ← faults_all b]
    simp
theorem pz_only : ∀ z, tupOnly (pzD z) = true
  | .cell _ _ => rfl
  | .num _ => rfl
  | .op _ a b => by
    simp only [pzD, tupOnly, tupOnlyAll, pz_only a, pz_only b, Bool.and_true]
    exact decide_eq_true (show 3 ≤ 1000 by decide)
end K03
end

section
set_option Elab.async false
set_option linter.all false
set_option maxRecDepth 100000
set_option maxHeartbeats 4000000
namespace K03
open PySem PySem.Spec PyProof.Rows L2 Gd
section
variable {P : Program} {w : World} {K : PySem.W.Frag} {mg : Str → Option Value} {base : Heap} {f fT fL fM : Addr} {fd fdT fdL fdM : FuncData}
theorem piece_none : FnOk P w K mg base CX0 2 f fd ["_law_feed_here", "_law_deep", "_law_room"] (spPiece K 0) := by
  have bad : ∀ vs H Q E, ¬ spPiece K 0 vs H Q E := by
    rintro vs H Q E ⟨p, q, dp, S, r, _, _, h, _⟩
    omega
  exact ⟨fun vs H Q E h => absurd h (bad vs H Q E), fun A outer s H args us vs Q E _ _ _ _ h => absurd h (bad vs H Q E)⟩
theorem ok_piece (F : Fun K "_law_piece" "_law_piece" sPiece f fd)
    (b : Binds K fd ["_law_feed_here", "_law_deep", "_law_room"] []) (gF : mg "_law_piece" = some (.ref f))
    (FT : Fun K "_law_take" "_law_take" sTake fT fdT) (bT : Binds K fdT ["_law_feed_here", "_law_many"] []) (gT : mg "_law_take" = some (.ref fT))
    (GL : FnOk P w K mg base CX0 2 fL fdL ["_law_feed_here"] spLabel) (FL : Fun K "_law_label" "_law_label" sLabel fL fdL) (bL : Binds K fdL ["_law_feed_here"] []) (gL : mg "_law_label" = some (.ref fL))
    (GM : FnOk P w K mg base CX0 2 fM fdM ["_law_feed_here"] spNum) (FM : Fun K "_law_number" "_law_number" sNum fM fdM) (bM : Binds K fdM ["_law_feed_here"] []) (gM : mg "_law_number" = some (.ref fM)) :
    ∀ n : Nat, FnOk P w K mg base CX0 (n + 2) f fd ["_law_feed_here", "_law_deep", "_law_room"] (spPiece K n)
  | 0 => piece_none
  | n + 1 => piece_step F (ok_piece F b gF FT bT gT GL FL bL gL GM FM bM gM n) b gF FT bT gT GL FL bL gL GM FM bM gM
end
end K03
end

section
set_option Elab.async false
set_option linter.all false
set_option maxRecDepth 100000
set_option maxHeartbeats 4000000
/-! {(k1, k2): v, ..}: a dict display whose keys are tuples of ints and texts. -/
namespace Gd
open PySem PySem.Spec PyProof.Rows L2
def mergeT (kvs more : List (List Key × V)) : List (List Key × V) := more.foldl (fun acc kv => putK acc kv.1 kv.2) kvs
theorem mergeT_len : ∀ (more kvs : List (List Key × V)), (mergeT kvs more).length ≤ kvs.length + more.length
  | [], kvs => by show kvs.length ≤ kvs.length + 0; omega
  | p :: r, kvs => by
    have h1 := mergeT_len r (putK kvs p.1 p.2)
    have h2 := length_putK kvs p.1 p.2
    show (mergeT (putK kvs p.1 p.2) r).length ≤ _
    rw [List.length_cons]; omega
theorem KT.merge {H : Hp} : ∀ {more : List (List Key × V)} {ps : List (List Key × Addr × Value)} {kvs : List (List Key × V)} {xs : List (List Key × Addr × Value)}, KT H more ps → KT H kvs xs → KT H (mergeT kvs more) (storedAllH xs ps)
  | _, _, _, _, .nil, r0 => r0
  | _, _, _, _, .cons h t, r0 => by
    obtain ⟨e, hb, rv⟩ := h
    have z := KT.put r0 _ hb rv
    rw [e] at z
    have := KT.merge t z
    unfold mergeT storedAllH at this ⊢
    rw [List.foldl_cons, List.foldl_cons, e]
    exact this
/-- the pairs made, as what the dict is to hold -/
def PTs (H : Hp) : List (List Key × V) → List (V × V) → Prop := Paired fun kv p => (∃ b, p.1 = .ref b ∧ H b = some (.tup (kv.1.map kV))) ∧ p.2 = kv.2
theorem carriesT {P : Program} {w : World} {H : Hp} {h : Heap} (ok : HOk P w H h) : ∀ {kvs : List (List Key × V)} {ps : List (V × V)} {ws : List (Value × Value)}, PTs H kvs ps → VV ps ws → ∃ rs, CarriesH (tupleKind (mixKind P w)) h ws rs ∧ KT H kvs rs
  | _, _, _, .nil, r => by cases r; exact ⟨[], trivial, .nil⟩
  | p :: _, _, w0 :: _, .cons hd t, .cons hw tw => by
    obtain ⟨rs, c, k⟩ := carriesT ok t tw
    obtain ⟨⟨b, e1, hb⟩, e2⟩ := hd
    obtain ⟨r1, r2⟩ := hw
    rw [e1] at r1
    have z : w0.1 = .ref b := r1
    exact ⟨(p.1, b, w0.2) :: rs, ⟨z, rfl, key_of ok hb, c⟩, .cons ⟨rfl, hb, by rw [← e2]; exact r2⟩ k⟩
def tDispT (trs : List (TE × TE)) : TE := fun σ H Q => ∀ p, H p = none → tPairs trs σ (upd H p (.dT [])) fun ps H2 => H2 p = some (.dT []) ∧ ∃ kvs : List (List Key × V), PTs H2 kvs ps ∧ kvs.length ≤ 15 ∧ Q (.ref p) (upd H2 p (.dT (mergeT [] kvs)))
theorem pe_dispT {X : Cx} {pos : Pos} {keys : List (Option Expr)} {values : List Expr} {trs : List (TE × TE)} (hu : X.A.units + 1 < cLine) (h : PPs X pos keys values trs) (hall : keys.all (·.isSome) = true) (hl : keys.length = values.length) (h0 : keys ≠ [])
    (h15 : keys.length ≤ 15) : PE X (.Dict keys values pos) (tDispT trs) := by
  refine ⟨fun pins s σ H Q I q => ?_⟩
  have hn := I.hok.fresh (Nat.le_refl s.heap.objs.size)
  have I1 := I.laid (a := s.heap.objs.size) (o := .dT []) (h' := s.heap.push { cls := .type "dict", data := .dict #[] }) (t' := s.toks) (fun _ _ q => Heap.get?_push_of_some _ q) (Nat.le_refl _) (dt_empty s.heap I.big)
  have hpl := pairTrees_length keys values X.env pos hall hl
  have hne : pairTrees keys values X.env pos ≠ [] := fun he => by
    rw [he] at hpl
    exact h0 (List.length_eq_zero_iff.mp hpl.symm)
  have hp15 : (pairTrees keys values X.env pos).length ≤ 15 := by rw [hpl]; exact h15
  rw [arm_eval_Dict, zip_pairTrees keys values X.env pos hall hl, dictDisplay_pairs _ hne (by omega)]
  refine wpAny_bind (wpAny_standAt (wpAny_bind ?_))
  refine wpAny_subDictH (knd := tupleKind (mixKind X.prog X.w)) (show X.A.units < cLine by omega) hp15 ?_
  refine thn (h.run pins _ σ _ _ I1 (q _ hn)) fun ws s2 ⟨ps, H2, I2, rel, e, kvs, ep, lk, q2⟩ => ?_
  obtain ⟨rs, c, rk⟩ := carriesT I2.hok ep rel
  obtain ⟨z, hd, xs, r0, dd⟩ := dt_of I2.hok e
  cases r0
  refine ⟨rs, c, dd, fun h' tk dd' hs => wpAny_pure ⟨.ref s.heap.objs.size, _, ?_, rfl, q2⟩⟩
  have hz : (mergeT [] kvs).length ≤ sizeLine := by
    have h1 := mergeT_len kvs []
    rw [List.length_nil] at h1
    rw [sizeLine_eq]; omega
  obtain ⟨o, es, ep', hq, h2, h3, h4, _, h5⟩ := dd'
  refine d_write I2 (by rw [e]; exact True.intro) hs ⟨o, hq⟩ ⟨hz, hd, _, KT.keeps (Gd.KT.merge rk .nil) fun c ys ec => ?_, o, es, ep', hq, h2, h3, h4, h5⟩
  rw [upd_ne (ne_of ec e (fun z => nomatch z))]
  exact ec
end Gd
end

section
set_option Elab.async false
set_option linter.all false
set_option maxRecDepth 100000
set_option maxHeartbeats 4000000
namespace Gd
open PySem PySem.Spec PyProof.Rows L2
def onlyK {α : Type} : List α → List α → List α
  | [], ws => ws
  | _ :: _, _ => []
section
variable {X : Cx} {cx : CXT} {n : Nat} {f : Addr} {fd : FuncData} {ps ks : List Str} {sp : Sp} {E : XK} {x : Str} {p pos : Pos} {kws : List Keyword} {tk : TA}
def tKw (sp : Sp) (E : XK) (tk : TA) : TE := fun σ H Q => tk σ H fun zs H2 => sp zs H2 Q E
/-- f(k=e): by its names alone -/
theorem pe_kw (F : FnOk X.prog X.w X.K X.mg X.base cx n f fd ps sp) (hr : Room n X.A) (hg : Gl X x) (hm : X.mg x = some (.ref f)) (hk : PySem.W.keepIn X.K (.ref f) = true)
    (hb : KBinds X.K fd ps ks onlyK onlyK) (hx : Passes cx X E) (hkw : PK X kws tk)
    (hall : (backToKw pos (keywordEach kws X.env)).all (·.1.isSome) = true := by rfl) (hks : (backToKw pos (keywordEach kws X.env)).filterMap (·.1) = ks := by rfl)
    (hdb : (x == ("__debug__" : Str)) = false := by decide)
    (hpl : ((backTo pos (starEach [] X.env)).any (·.1) || (backToKw pos (keywordEach kws X.env)).any (·.1.isNone)) = false := by rfl) :
    PE X (.Call (.Name x p) [] kws pos) (tKw sp E tk) := by
  constructor
  intro pins s σ H Q I h
  refine wpAny_Call_Name_kw (ld_glob I hg hm ?_ hdb)
  refine PySem.W.callWith_KW0 (h₀ := X.base) I.ok.mod.kin hk hall (thn (hkw.run pos pins s σ H _ I h) ?_) hpl
  rintro ws s2 ⟨zs, H2, J, rz, q⟩
  refine ⟨J.kIn, ?_⟩
  rw [hks]
  exact run_fnk (us := []) (vs := []) F hr hb hx J .nil rz q
end
theorem onlyK_rel {vs : List V} {us : List Value} {zs : List V} {ws : List Value} (a : Vals vs us) (b : Vals zs ws) : Vals (onlyK vs zs) (onlyK us ws) := by
  cases a with
  | nil => exact b
  | cons _ _ => exact .nil
theorem kw_of {K : PySem.W.Frag} {x qual k : Str} {st : Stmt} {f : Addr} {fd : FuncData} (F : Fun K x qual st f fd)
    (h : ∀ (kV doc pm : Value) (an : Option Addr) (cdv ct w : Value), bindArgs (PySem.W.fnOf x qual (defArgs st) (defBody st) (defScope st) .none kV doc pm an cdv ct) ⟨[], [(k, w)]⟩ = pure [(k, w)]) :
    KBinds K fd [k] [k] onlyK onlyK := by
  obtain ⟨oc, od, kV, doc, pm, an, cdv, ct, osl, rfl, lk, hcd⟩ := F.ex
  refine ⟨fun s us ws _ hl => ?_, fun a b => onlyK_rel a b⟩
  cases us with
  | cons _ _ => cases hl
  | nil =>
    match ws, hl with
    | [w], _ => exact .of_eq (h kV doc pm an cdv ct w)
end Gd
end

section
set_option Elab.async false
set_option linter.all false
set_option maxRecDepth 100000
set_option maxHeartbeats 4000000
/-! Data with lists and with dicts of text and number keys, any depth; what is not in it: the addresses of N. -/
namespace Gd
open PySem PySem.Spec PyProof.Rows L2

mutual
inductive Dg (K : PySem.W.Frag) (H : Hp) (N : Addr → Prop) : V → PyData → Prop
  | non : Dg K H N .non .none
  | bl (b : Bool) : Dg K H N (.bl b) (.bool b)
  | int (i : Int) : Dg K H N (.int i) (.int i)
  | str (x : Str) : Dg K H N (.str x) (.str x)
  | lst {a : Addr} {xs : List V} {ds : List PyData} : H a = some (.lst xs) → ¬ N a → a ≠ sysModules → DgAll K H N xs ds → Dg K H N (.ref a) (.list ds)
  | tup {a : Addr} {xs : List V} {ds : List PyData} : SqT K H a xs → DgAll K H N xs ds → Dg K H N (.ref a) (.tuple ds)
  | dct {a : Addr} {kvs : List (Key × V)} {ps : List (PyData × PyData)} : H a = some (.dK kvs) → ¬ N a → DgKv K H N kvs ps → Dg K H N (.ref a) (.dict ps)
inductive DgAll (K : PySem.W.Frag) (H : Hp) (N : Addr → Prop) : List V → List PyData → Prop
  | nil : DgAll K H N [] []
  | cons {v : V} {vs : List V} {d : PyData} {ds : List PyData} : Dg K H N v d → DgAll K H N vs ds → DgAll K H N (v :: vs) (d :: ds)
inductive DgKv (K : PySem.W.Frag) (H : Hp) (N : Addr → Prop) : List (Key × V) → List (PyData × PyData) → Prop
  | nil : DgKv K H N [] []
  | consS {x : Str} {v : V} {kvs : List (Key × V)} {d : PyData} {ps : List (PyData × PyData)} : Dg K H N v d → DgKv K H N kvs ps → DgKv K H N ((Sum.inr x, v) :: kvs) ((.str x, d) :: ps)
  | consI {i : Int} {v : V} {kvs : List (Key × V)} {d : PyData} {ps : List (PyData × PyData)} : Dg K H N v d → DgKv K H N kvs ps → DgKv K H N ((Sum.inl i, v) :: kvs) ((.int i, d) :: ps)
end

section
variable {K : PySem.W.Frag} {H H' : Hp} {N N' : Addr → Prop}
mutual
theorem Dg.stay (t : Tups K H H') (x : ∀ a o, ¬ N a → H a = some o → H' a = some o) (m : ∀ a, N' a → N a) : ∀ (d : PyData) {v : V}, Dg K H N v d → Dg K H' N' v d
  | .none, _, h => by cases h; exact .non
  | .bool _, _, h => by cases h; exact .bl _
  | .int _, _, h => by cases h; exact .int _
  | .str _, _, h => by cases h; exact .str _
  | .tuple ds, _, h => by
    cases h with
    | tup a b => exact .tup (t _ _ a) (DgAll.stay t x m ds b)
  | .list ds, _, h => by
    cases h with
    | lst a n g b => exact .lst (x _ _ n a) (fun z => n (m _ z)) g (DgAll.stay t x m ds b)
  | .dict ps, _, h => by
    cases h with
    | dct a n b => exact .dct (x _ _ n a) (fun z => n (m _ z)) (DgKv.stay t x m ps b)
theorem DgAll.stay (t : Tups K H H') (x : ∀ a o, ¬ N a → H a = some o → H' a = some o) (m : ∀ a, N' a → N a) : ∀ (ds : List PyData) {vs : List V}, DgAll K H N vs ds → DgAll K H' N' vs ds
  | [], _, h => by cases h; exact .nil
  | d :: ds, _, h => by
    cases h with
    | cons a b => exact .cons (Dg.stay t x m d a) (DgAll.stay t x m ds b)
theorem DgKv.stay (t : Tups K H H') (x : ∀ a o, ¬ N a → H a = some o → H' a = some o) (m : ∀ a, N' a → N a) : ∀ (ps : List (PyData × PyData)) {kvs : List (Key × V)}, DgKv K H N kvs ps → DgKv K H' N' kvs ps
  | [], _, h => by cases h; exact .nil
  | (_, d) :: ps, _, h => by
    cases h with
    | consS a b => exact .consS (Dg.stay t x m d a) (DgKv.stay t x m ps b)
    | consI a b => exact .consI (Dg.stay t x m d a) (DgKv.stay t x m ps b)
end
theorem Dg.same {v : V} {d : PyData} (s : Same H H') (h : Dg K H N v d) : Dg K H' N v d := Dg.stay (Tups.of_same s) (fun a o _ e => s a o e) (fun _ z => z) d h
theorem DgAll.same {vs : List V} {ds : List PyData} (s : Same H H') (h : DgAll K H N vs ds) : DgAll K H' N vs ds := DgAll.stay (Tups.of_same s) (fun a o _ e => s a o e) (fun _ z => z) ds h
theorem Dg.free {v : V} {d : PyData} (h : Dg K H N v d) : Dg K H (fun _ => False) v d := Dg.stay .refl (fun a o _ e => e) (fun _ z => z.elim) d h
theorem DgAll.free {vs : List V} {ds : List PyData} (h : DgAll K H N vs ds) : DgAll K H (fun _ => False) vs ds := DgAll.stay .refl (fun a o _ e => e) (fun _ z => z.elim) ds h
/-- behind a draw -/
theorem Dg.drawn {p : Addr} {ys : List V} {v : V} {d : PyData} (e : H p = some (.lst ys)) (x : Ex1 p H H') (h : Dg K H (· = p) v d) : Dg K H' (· = p) v d :=
  Dg.stay (x.tups e) (fun a o n q => x a o n q) (fun _ z => z) d h
theorem DgAll.drawn {p : Addr} {ys : List V} {vs : List V} {ds : List PyData} (e : H p = some (.lst ys)) (x : Ex1 p H H') (h : DgAll K H (· = p) vs ds) : DgAll K H' (· = p) vs ds :=
  DgAll.stay (x.tups e) (fun a o n q => x a o n q) (fun _ z => z) ds h
mutual
/-- what is new is not in it -/
theorem Dg.shun {q : Addr} (n : H q = none) : ∀ (d : PyData) {v : V}, Dg K H N v d → Dg K H (fun a => N a ∨ a = q) v d
  | .none, _, h => by cases h; exact .non
  | .bool _, _, h => by cases h; exact .bl _
  | .int _, _, h => by cases h; exact .int _
  | .str _, _, h => by cases h; exact .str _
  | .tuple ds, _, h => by
    cases h with
    | tup a b => exact .tup a (DgAll.shun n ds b)
  | .list ds, _, h => by
    cases h with
    | lst a m g b => exact .lst a (fun z => z.elim m (fun z => by rw [z, n] at a; cases a)) g (DgAll.shun n ds b)
  | .dict ps, _, h => by
    cases h with
    | dct a m b => exact .dct a (fun z => z.elim m (fun z => by rw [z, n] at a; cases a)) (DgKv.shun n ps b)
theorem DgAll.shun {q : Addr} (n : H q = none) : ∀ (ds : List PyData) {vs : List V}, DgAll K H N vs ds → DgAll K H (fun a => N a ∨ a = q) vs ds
  | [], _, h => by cases h; exact .nil
  | d :: ds, _, h => by
    cases h with
    | cons a b => exact .cons (Dg.shun n d a) (DgAll.shun n ds b)
theorem DgKv.shun {q : Addr} (n : H q = none) : ∀ (ps : List (PyData × PyData)) {kvs : List (Key × V)}, DgKv K H N kvs ps → DgKv K H (fun a => N a ∨ a = q) kvs ps
  | [], _, h => by cases h; exact .nil
  | (_, d) :: ps, _, h => by
    cases h with
    | consS a b => exact .consS (Dg.shun n d a) (DgKv.shun n ps b)
    | consI a b => exact .consI (Dg.shun n d a) (DgKv.shun n ps b)
end
theorem DgAll.len : ∀ {vs : List V} {ds : List PyData}, DgAll K H N vs ds → vs.length = ds.length
  | _, _, .nil => rfl
  | _, _, .cons _ b => congrArg (· + 1) (DgAll.len b)
theorem DgAll.at_ : ∀ {vs : List V} {ds : List PyData} {i : Nat} {v : V}, DgAll K H N vs ds → vs[i]? = some v → ∃ d, ds[i]? = some d ∧ Dg K H N v d
  | _, _, _, _, .nil, e => by simp at e
  | _, _, 0, _, .cons a _, e => by
    cases Option.some.inj e
    exact ⟨_, rfl, a⟩
  | _, _, i + 1, _, .cons _ b, e => DgAll.at_ (i := i) b e
theorem DgAll.app : ∀ {vs us : List V} {ds es : List PyData}, DgAll K H N vs ds → DgAll K H N us es → DgAll K H N (vs ++ us) (ds ++ es)
  | _, _, _, _, .nil, h => h
  | _, _, _, _, .cons a b, h => .cons a (DgAll.app b h)
theorem DgAll.take : ∀ {vs : List V} {ds : List PyData}, DgAll K H N vs ds → ∀ i : Nat, DgAll K H N (vs.take i) (ds.take i)
  | _, _, .nil, i => by rw [List.take_nil, List.take_nil]; exact .nil
  | _, _, .cons _ _, 0 => .nil
  | _, _, .cons a b, i + 1 => .cons a (DgAll.take b i)
theorem DgAll.drop : ∀ {vs : List V} {ds : List PyData}, DgAll K H N vs ds → ∀ i : Nat, DgAll K H N (vs.drop i) (ds.drop i)
  | _, _, .nil, i => by rw [List.drop_nil, List.drop_nil]; exact .nil
  | _, _, .cons a b, 0 => .cons a b
  | _, _, .cons a b, i + 1 => DgAll.drop b i
theorem DgAll.rev : ∀ {vs : List V} {ds : List PyData}, DgAll K H N vs ds → DgAll K H N vs.reverse ds.reverse
  | _, _, .nil => .nil
  | _, _, .cons a b => by
    rw [List.reverse_cons, List.reverse_cons]
    exact DgAll.app (DgAll.rev b) (.cons a .nil)
mutual
theorem Dg.ofDp : ∀ (d : PyData) {v : V}, tupOnly d = true → Dp K H v d → Dg K H N v d
  | .none, _, _, h => by cases h; exact .non
  | .bool _, _, _, h => by cases h; exact .bl _
  | .int _, _, _, h => by cases h; exact .int _
  | .str _, _, _, h => by cases h; exact .str _
  | .tuple ds, _, o, h => by
    cases h with
    | tup a b =>
      simp only [tupOnly, Bool.and_eq_true] at o
      exact .tup a (DgAll.ofDp ds o.2 b)
  | .list _, _, o, _ => by simp [tupOnly] at o
  | .dict _, _, o, _ => by simp [tupOnly] at o
theorem DgAll.ofDp : ∀ (ds : List PyData) {vs : List V}, tupOnlyAll ds = true → DpAll K H vs ds → DgAll K H N vs ds
  | [], _, _, h => by cases h; exact .nil
  | d :: ds, _, o, h => by
    simp only [tupOnlyAll, Bool.and_eq_true] at o
    cases h with
    | cons a b => exact .cons (Dg.ofDp d o.1 a) (DgAll.ofDp ds o.2 b)
end
theorem Dg.kind {v : V} {d : PyData} (h : Dg K H N v d) : TyX K H v (.type (kindN d)) := by
  cases h with
  | non => exact .base .non
  | bl b => exact .base (.bl b)
  | int i => exact .base (.int i)
  | str x => exact .base (.str x)
  | lst e _ _ _ => exact .base (.lst e)
  | dct e _ _ => exact .base (.dK e)
  | tup a _ =>
    rcases a with (a | ⟨z, a⟩) | ⟨z, its, n, a, c, _⟩
    · exact .base (.tup a)
    · exact .fTuple a
    · exact .kTuple a c
end
section
variable {X : Cx} {pins : List (Addr × Obj)} {σ : L2.St} {H : Hp} {s : Shared} {N : Addr → Prop}
mutual
theorem Dg.reads (I : Inv X pins σ H s) : ∀ (d : PyData) (v : V) (u : Value), Dg X.K H N v d → RelV v u → ∃ as, Reads s.heap u d as ∧ sysModules ∉ as
  | .none, _, _, h, r => by
    cases h
    cases r
    exact ⟨[], .none, nofun⟩
  | .bool b, _, _, h, r => by
    cases h
    cases r
    exact ⟨[], .bool b, nofun⟩
  | .int i, _, _, h, r => by
    cases h
    obtain ⟨t, rfl⟩ := r
    exact ⟨[], .int i t, nofun⟩
  | .str x, _, _, h, r => by
    cases h
    obtain ⟨t, rfl⟩ := r
    exact ⟨[], .str x t, nofun⟩
  | .list ds, _, _, h, r => by
    cases h with
    | lst hs _ g ha =>
      cases r
      obtain ⟨its, rv, pl, _⟩ := I.list (SqL.of hs)
      obtain ⟨o, n, ho, hc, _, hd⟩ := pl
      obtain ⟨as, hr, hn⟩ := Dg.readsAll I ds _ its ha rv
      refine ⟨_, .list ho hc hd hr, fun m => ?_⟩
      rcases List.mem_cons.mp m with m | m
      · exact g m.symm
      · exact hn m
  | .tuple ds, _, _, h, r => by
    cases h with
    | tup hs ha =>
      cases r
      obtain ⟨its, rv, pl, _⟩ := I.tuple hs
      obtain ⟨o, ho, hc, n, hd⟩ := pl
      obtain ⟨as, hr, hn⟩ := Dg.readsAll I ds _ its ha rv
      exact ⟨as, .tuple ho hc hd hr, hn⟩
  | .dict qs, _, _, h, r => by
    cases h with
    | dct e _ hk =>
      cases r
      obtain ⟨g, vs, kv, o, es, ep, ho, ex, hd, ks, ps, _⟩ := dk_reads I e
      obtain ⟨as, bs, ra, rb, na, nb⟩ := Dg.readsKv I qs _ vs es.toList hk kv ps
      refine ⟨_, .dict ho ex.1 hd ra rb, fun m => ?_⟩
      rw [List.cons_append] at m
      rcases List.mem_cons.mp m with m | m
      · rw [← m] at g
        simp at g
      · rcases List.mem_append.mp m with m | m
        · exact na m
        · exact nb m
theorem Dg.readsAll (I : Inv X pins σ H s) : ∀ (ds : List PyData) (vs : List V) (us : List Value), DgAll X.K H N vs ds → Vals vs us → ∃ as, ReadsAll s.heap us ds as ∧ sysModules ∉ as
  | [], _, _, h, r => by
    cases h
    cases r
    exact ⟨[], .nil, nofun⟩
  | d :: ds, _, _, h, r => by
    cases h with
    | cons h1 h2 =>
      cases r with
      | cons r1 r2 =>
        obtain ⟨as, q1, n1⟩ := Dg.reads I d _ _ h1 r1
        obtain ⟨bs, q2, n2⟩ := Dg.readsAll I ds _ _ h2 r2
        exact ⟨as ++ bs, .cons q1 q2, fun m => (List.mem_append.mp m).elim n1 n2⟩
theorem Dg.readsKv (I : Inv X pins σ H s) : ∀ (qs : List (PyData × PyData)) (kvs : List (Key × V)) (vs : List (Key × Value)) (es : List DictEntry), DgKv X.K H N kvs qs → KV kvs vs → Pairs (mixKind X.prog X.w) es vs →
    ∃ as bs, ReadsAll s.heap (es.map (·.key)) (qs.map (·.1)) as ∧ ReadsAll s.heap (es.map (·.val)) (qs.map (·.2)) bs ∧ sysModules ∉ as ∧ sysModules ∉ bs
  | [], _, _, _, h, r, p => by
    cases h
    cases r
    cases p
    exact ⟨[], [], .nil, .nil, nofun, nofun⟩
  | (_, d) :: qs, _, _, _, h, r, p => by
    cases h with
    | @consS x v kvs _ _ h1 h2 =>
      cases r with
      | @cons _ q _ _ r1 r2 =>
      obtain ⟨qk, qv⟩ := q
      obtain ⟨rk, rv⟩ := r1
      dsimp only at rk rv
      subst rk
      cases p with
      | @cons z _ _ _ p1 p2 p3 =>
      obtain ⟨tk, ek⟩ : ∃ tk, z.key = .str x tk := by
        have p1 : keyIs (Sum.inr x) z.key = true := p1
        rcases keyIs_shape p1 with ⟨i, t, h1, h2⟩ | ⟨y, t, h1, h2⟩
        · cases h1
        · cases h1
          exact ⟨t, h2⟩
      obtain ⟨as0, q1, n1⟩ := Dg.reads I d _ _ h1 rv
      obtain ⟨as, bs, q2, q3, n2, n3⟩ := Dg.readsKv I qs _ _ _ h2 r2 p3
      refine ⟨[] ++ as, as0 ++ bs, ?_, ?_, n2, fun m => (List.mem_append.mp m).elim n1 n3⟩
      · show ReadsAll s.heap (z.key :: _) (.str x :: _) _
        rw [ek]
        exact .cons (.str x tk) q2
      · show ReadsAll s.heap (z.val :: _) (d :: _) _
        rw [p2]
        exact .cons q1 q3
    | @consI x v kvs _ _ h1 h2 =>
      cases r with
      | @cons _ q _ _ r1 r2 =>
      obtain ⟨qk, qv⟩ := q
      obtain ⟨rk, rv⟩ := r1
      dsimp only at rk rv
      subst rk
      cases p with
      | @cons z _ _ _ p1 p2 p3 =>
      obtain ⟨tk, ek⟩ : ∃ tk, z.key = .int x tk := by
        have p1 : keyIs (Sum.inl x) z.key = true := p1
        rcases keyIs_shape p1 with ⟨i, t, h1, h2⟩ | ⟨y, t, h1, h2⟩
        · cases h1
          exact ⟨t, h2⟩
        · cases h1
      obtain ⟨as0, q1, n1⟩ := Dg.reads I d _ _ h1 rv
      obtain ⟨as, bs, q2, q3, n2, n3⟩ := Dg.readsKv I qs _ _ _ h2 r2 p3
      refine ⟨[] ++ as, as0 ++ bs, ?_, ?_, n2, fun m => (List.mem_append.mp m).elim n1 n3⟩
      · show ReadsAll s.heap (z.key :: _) (.int x :: _) _
        rw [ek]
        exact .cons (.int x tk) q2
      · show ReadsAll s.heap (z.val :: _) (d :: _) _
        rw [p2]
        exact .cons q1 q3
end
/-- repr(x), x such data -/
def rReprG (K : PySem.W.Frag) : List V → Hp → VK → Prop := fun xs H Q =>
  ∃ (x : V) (d : PyData) (N : Addr → Prop), xs = [x] ∧ Dg K H N x d ∧ d.showable = true ∧ d.shown.length ≤ sizeLine ∧ d.depth ≤ 60 ∧ Q (.str d.shown) H
theorem call_reprG (g : Free X.A) (hu : X.A.units + 64 < cLine) : CallR X (.builtin "repr") (rReprG X.K) := by
  intro pins s σ H xs us Q I r h
  obtain ⟨x, d, N, rfl, hd, hs, hz, hdp, q⟩ := h
  obtain ⟨u, rfl, ru⟩ := r.one
  obtain ⟨as, rd, hn⟩ := Dg.reads I d x u hd ru
  have fin : ∀ (h' : Heap) (tk tk' : Nat), (∀ b o, s.heap.get? b = some o → h'.get? b = some o) →
      EP X pins σ Q (.str d.shown tk) { s with heap := h', toks := tk' } :=
    fun h' tk tk' k => ⟨.str d.shown, H, I.kept k, ⟨tk, rfl⟩, q⟩
  have fin0 : ∀ (tk tk' : Nat), EP X pins σ Q (.str d.shown tk) { s with toks := tk' } :=
    fun tk tk' => ⟨.str d.shown, H, I.tok tk', ⟨tk, rfl⟩, q⟩
  cases rd with
  | none => exact P.repr_of_none (fin0 _ _)
  | bool b => exact P.repr_of_bool (fin0 _ _)
  | int i t => exact P.repr_of_int (by simpa [PyData.showable] using hs) (fin0 _ _)
  | str z t => exact P.repr_of_str (fin0 _ _) hz
  | list h1 h2 h3 h4 =>
    exact repr_of_reads' (.list h1 h2 h3 h4) hs (fun _ => hn) g (by omega) (fun _ _ e => e) (fun h' u tk k => fin h' u tk k) hz
  | tuple h1 h2 h3 h4 =>
    exact repr_of_reads' (.tuple h1 h2 h3 h4) hs (fun _ => hn) g (by omega) (fun _ _ e => e) (fun h' u tk k => fin h' u tk k) hz
  | dict h1 h2 h3 h4 h5 =>
    exact repr_of_reads' (.dict h1 h2 h3 h4 h5) hs (fun _ => hn) g (by omega) (fun _ _ e => e) (fun h' u tk k => fin h' u tk k) hz
theorem Dg.dictAt (I : Inv X pins σ H s) {v : V} {u : Value} {ks : List (PyData × PyData)} (h : Dg X.K H N v (.dict ks)) (r : RelV v u) :
    ∃ d es ep, u = .ref d ∧ s.heap.get? d = some { cls := .type "dict", dict := none, data := .dict es ep, slots := #[] } := by
  have key : ∀ {a : Addr} {kvs : List (Key × V)}, H a = some (.dK kvs) → ∃ es ep, s.heap.get? a = some { cls := .type "dict", dict := none, data := .dict es ep, slots := #[] } := by
    intro a kvs e
    obtain ⟨_, vs, _, o, es, ep, ho, ⟨e1, e2, e3⟩, hd, _⟩ := dk_reads I e
    obtain ⟨oc, od, dt, sl⟩ := o
    dsimp only at e1 e2 e3 hd
    subst e1 e2 e3 hd
    exact ⟨es, ep, ho⟩
  cases h with
  | dct e _ _ =>
    cases r
    obtain ⟨es, ep, ho⟩ := key e
    exact ⟨_, es, ep, rfl, ho⟩
theorem Dg.strEq {A : Around} (I : Inv X pins σ H s) (hu : A.units < cLine) {d : PyData} {v : V} {u : Value} (h : Dg X.K H N v d) (r : RelV v u) (b : Str) (t : Tok) :
    SeqAt.EqAt A s (.str b t) u (isStr d b) := by
  cases d with
  | none =>
    cases h
    cases r
    exact .str_none b t
  | bool k =>
    cases h
    cases r
    exact .str_bool b t k
  | int i =>
    cases h
    obtain ⟨t2, rfl⟩ := r
    exact .str_int b t i t2
  | str x =>
    cases h
    obtain ⟨t2, rfl⟩ := r
    have e := SeqAt.EqAt.str_str (A := A) (s := s) b t x t2
    have e2 : isStr (.str x) b = (b == x) := by
      show (x == b) = (b == x)
      exact Bool.eq_iff_iff.mpr ⟨fun z => by rw [eq_of_beq z] <;> exact beq_self_eq_true _, fun z => by rw [eq_of_beq z] <;> exact beq_self_eq_true _⟩
    rw [e2]
    exact e
  | list ds =>
    cases h with
    | lst e n g k =>
    cases r
    obtain ⟨its, _, pl, _⟩ := I.list (SqL.of e)
    exact .str_list b t pl.isList hu
  | tuple ds =>
    cases h with
    | tup e k =>
    cases r
    obtain ⟨its, _, pl, _⟩ := I.tuple e
    exact .str_tuple b t pl hu
  | dict ks =>
    obtain ⟨a, es, ep, rfl, ho⟩ := Dg.dictAt I h r
    exact eq_str_dict b t ho hu
end
section
variable {X : Cx}
theorem rc_str (hu : X.A.units < cLine) {pins : List (Addr × Obj)} {σ : L2.St} {H : Hp} {s : Shared} {N : Addr → Prop} {v : V} {u : Value} {d : PyData} {b : Str} {t : Tok}
    (I : Inv X pins σ H s) (h : Dg X.K H N v d) (rx : RelV v u) : SeqAt.RcAt X.A s u (.str b t) (isStr d b) := by
  cases d with
  | none =>
    cases h
    cases rx
    exact SeqAt.RcAt.none_str b t
  | bool k =>
    cases h
    cases rx
    exact SeqAt.RcAt.bool_str k b t
  | int i =>
    cases h
    obtain ⟨t2, rfl⟩ := rx
    exact SeqAt.RcAt.int_str i t2 b t
  | str z =>
    cases h
    obtain ⟨t2, rfl⟩ := rx
    exact SeqAt.RcAt.str_str z t2 b t
  | list ds =>
    cases h with
    | lst e n g k =>
    cases rx
    obtain ⟨its, _, pl, _⟩ := I.list (SqL.of e)
    exact SeqAt.RcAt.list_str b t pl.isList hu
  | tuple ds =>
    cases h with
    | tup e k =>
    cases rx
    obtain ⟨its, _, pl, _⟩ := I.tuple e
    exact SeqAt.RcAt.tuple_str b t pl hu
  | dict ks =>
    obtain ⟨a, es, ep, rfl, ho⟩ := Dg.dictAt I h rx
    exact rc_dict_str b t ho hu
/-- data == a text -/
def rEqG (K : PySem.W.Frag) : R2 := fun x y H Q => ∃ (N : Addr → Prop) (d : PyData) (b : Str), Dg K H N x d ∧ y = .str b ∧ Q (.bl (isStr d b)) H
theorem op_eqG (hu : X.A.units < cLine) : OpR X (compareOp .Eq) (rEqG X.K) := by
  intro pins s σ H x y v u Q I rx ry h
  obtain ⟨N, d, b, h, rfl, q⟩ := h
  obtain ⟨t, rfl⟩ := ry
  have fin : EP X pins σ Q (.bool (isStr d b)) s := ⟨.bl _, H, I, rfl, q⟩
  exact rc_str hu I h rx _ _ _ _ fin
/-- data not in a tuple of texts -/
def rNiG (K : PySem.W.Frag) : R2 := fun x y H Q => ∃ (N : Addr → Prop) (d : PyData) (p : Addr) (bs : List Str), Dg K H N x d ∧ y = .ref p ∧ SqT K H p (bs.map V.str) ∧ Q (.bl (!bs.any (isStr d))) H
theorem op_notInG (hu : X.A.units + 1 < cLine) : OpR X (compareOp .NotIn) (rNiG X.K) := by
  intro pins s σ H x y v u Q I rx ry h
  obtain ⟨N, d, p, bs, hd, rfl, hp, q⟩ := h
  cases ry
  obtain ⟨its, r, pl, _⟩ := I.tuple hp
  obtain ⟨e, f⟩ := hits (d := d) r
  refine SeqAt.notIn_tupleAt (hitS d) pl (fun w hw => ?_) ⟨.bl _, H, I, rfl, ?_⟩
  · obtain ⟨b, t, rfl⟩ := f w (by simpa using hw)
    exact Dg.strEq I (by show X.A.units + 1 < cLine; exact hu) hd rx b t
  · rw [show its.toArray.any (hitS d) = its.any (hitS d) by simp, e]
    exact q
end
end Gd
end

section
set_option Elab.async false
set_option linter.all false
set_option maxRecDepth 100000
set_option maxHeartbeats 4000000
/-! Exceptions of own classes over ValueError, made as values. -/
namespace Gd
open PySem PySem.Spec PyProof.Rows L2

/-- C(..), C without an __init__ of its own -/
def tExB (C : Addr) (ta : TA) : TE := fun σ H Q => ta σ H fun vs H1 =>
  vs.length ≤ 1000 ∧ ∀ a, H1 a = none → Q (.ref a) (upd H1 a (exo a C none))
/-- C(..) with its own __init__, which keeps sp -/
def tExI (C : Addr) (sp : Sp) (ta : TA) : TE := fun σ H Q => ta σ H fun vs H1 =>
  vs.length ≤ 1000 ∧ ∀ a, H1 a = none →
    sp (.ref a :: vs) (upd H1 a (exo a C none)) (fun v H2 => v = .non ∧ Q (.ref a) H2) (fun _ _ _ => False)

section
variable {X : Cx} {pins : List (Addr × Obj)} {σ : L2.St} {H : Hp} {s : Shared} {C : Addr} {Q : VK}
theorem exB_run {us : List Value} {vs : List V} (T : OexC X.K C)
    (iB : PySem.W.findIn X.K (.ref C) "__init__" = some (some (.builtin "ValueError.__init__")))
    (I : Inv X pins σ H s) (r : Vals vs us) (hz : vs.length ≤ 1000)
    (q : ∀ a, H a = none → Q (.ref a) (upd H a (exo a C none))) :
    wpAny (model X.prog X.w) X.A (call (.ref C) us) (EP X pins σ Q) X.xe s := by
  obtain ⟨nm, qn, N, bs, bm, sn, sub, ab, col, dd, k0, k1, k2, k3, k5, hC, hbm⟩ := T.cls
  obtain ⟨hp, g, d, t, os⟩ := s
  have hu : us.length ≤ sizeLine := by
    rw [← Paired.length r, sizeLine_eq]
    omega
  have tails := fun Y : String => PySem.HandSPX.refsVE_contains Y bm hbm
  refine PySem.W.call_B F.excBase_ValueError tails (I.kIn _ _ hC) (PySem.W.looks_findIn I.kIn iB) hu ?_
  intro h' k e1 e2
  have up : hp.objs.size ≤ hp.objs.size + 1 := Nat.le_succ _
  have J := I.laid (t' := t) (a := hp.objs.size + 1) (o := exo (hp.objs.size + 1) C none) k up (exo_ok e1)
  exact ⟨.ref (hp.objs.size + 1), _, J, rfl, q _ (I.hok.fresh up)⟩
end

section
variable {X : Cx} {C : Addr} {x : Str} {p pos : Pos} {e : Expr} {es : List Expr} {ta : TA}
theorem pe_exB0 (T : OexC X.K C)
    (iB : PySem.W.findIn X.K (.ref C) "__init__" = some (some (.builtin "ValueError.__init__")))
    (hg : Gl X x) (hm : X.mg x = some (.ref C)) (hdb : (x == ("__debug__" : Str)) = false := by decide) :
    PE X (.Call (.Name x p) [] [] pos) (tExB C tNil) := by
  constructor
  intro pins s σ H Q I h
  refine wpAny_Call_Name_kw (ld_glob I hg hm ?_ hdb)
  exact PySem.W.callWith_K0 I.kIn T.kC (exB_run (us := []) T iB I .nil h.1 h.2)
theorem pe_exB (T : OexC X.K C)
    (iB : PySem.W.findIn X.K (.ref C) "__init__" = some (some (.builtin "ValueError.__init__")))
    (hg : Gl X x) (hm : X.mg x = some (.ref C)) (ha : PA X (e :: es) ta)
    (hdb : (x == ("__debug__" : Str)) = false := by decide)
    (he : starEach (e :: es) X.env = (false, eval e X.env) :: starEach es X.env := by rfl)
    (hpl : (backTo pos (starEach es X.env)).any (·.1) = false := by rfl) :
    PE X (.Call (.Name x p) (e :: es) [] pos) (tExB C ta) := by
  constructor
  intro pins s σ H Q I h
  refine wpAny_Call_Name_kw (ld_glob I hg hm ?_ hdb)
  refine PySem.W.callWith_K (h₀ := X.base) I.ok.mod.kin T.kC (thn (ha.run pos pins s σ H _ I h) ?_) he hpl
  rintro us s1 ⟨vs, H1, J, r, hz, q⟩
  exact ⟨J.kIn, exB_run T iB J r hz q⟩
end

section
variable {X : Cx} {pins : List (Addr × Obj)} {σ : L2.St} {H : Hp} {s : Shared} {C fI : Addr} {Q : VK}
  {cx : CXT} {n : Nat} {fd : FuncData} {ps : List Str} {sp : Sp}
/-- what is left where the object is laid and its __init__ is called -/
theorem exI_end {us : List Value} {vs : List V} {hp : Heap} {g : Array GenState} {d : Drawn} {t : Nat} {os : OsState} {A : Around}
    (F1 : FnOk X.prog X.w X.K X.mg X.base cx n fI fd ps sp) (hr : Room (n + 1) X.A)
    (eA : A = X.A.under (.builtin "type.__call__" ⟨.ref C :: us, []⟩))
    (hb : Binds X.K fd ps []) (hx : Passes cx X (fun _ _ _ => False)) (I : Inv X pins σ H ⟨hp, g, d, t, os⟩) (r : Vals vs us)
    (q : ∀ a, H a = none → sp (.ref a :: vs) (upd H a (exo a C none)) (fun v H2 => v = .non ∧ Q (.ref a) H2) (fun _ _ _ => False)) :
    codeAny (model X.prog X.w) A (.call (.ref fI) ⟨.ref (hp.objs.size + 1) :: us, []⟩)
      (PySem.W.InitBack (hp.objs.size + 1) fun o s' => match o with | .ok (.ret u) => EP X pins σ Q u s' | .ok _ => False | .error er => X.xe er s')
      ⟨(hp.push (PySem.W.kdv_tup us)).push (PySem.HandSPX.excO C hp.objs.size), g, d, t, os⟩ := by
  subst eA
  have up : hp.objs.size ≤ hp.objs.size + 1 := Nat.le_succ _
  have new := I.hok.fresh up
  have hq := q _ new
  have kk : ∀ b o, hp.get? b = some o →
      ((hp.push (PySem.W.kdv_tup us)).push (PySem.HandSPX.excO C hp.objs.size)).get? b = some o :=
    fun b o z => Heap.get?_push_of_some _ (Heap.get?_push_of_some _ z)
  have here : ((hp.push (PySem.W.kdv_tup us)).push (PySem.HandSPX.excO C hp.objs.size)).get? (hp.objs.size + 1)
      = some (PySem.HandSPX.excO C hp.objs.size) := by heap_get
  have J := I.laid (t' := t) (a := hp.objs.size + 1) (o := exo (hp.objs.size + 1) C none) kk up (exo_ok here)
  have r2 : Vals (V.ref (hp.objs.size + 1) :: vs) (Value.ref (hp.objs.size + 1) :: us) := .cons rfl r
  have hl : ((Value.ref (hp.objs.size + 1) :: us) ++ []).length = ps.length := by
    rw [List.append_nil, ← F1.len _ _ _ _ hq]
    exact (Paired.length r2).symm
  have bd := hb _ (Value.ref (hp.objs.size + 1) :: us) J.kIn hl
  rw [List.append_nil] at bd
  have all := F1.run _ X.stack _ _ ⟨Value.ref (hp.objs.size + 1) :: us, []⟩ _ _ _ _ (hr.make C us []) (J.env0.make C us []) bd r2 hq
  refine codeAny_mono all ?_
  intro o s' z
  cases o with
  | error er => exact hx pins σ _ _ er s' J z
  | ok fl =>
    cases fl with
    | ret u =>
      obtain ⟨v, H2, J2, rv, ev, q2⟩ := J.after z
      subst ev
      exact ⟨rv, .ref (hp.objs.size + 1), H2, J2, rfl, q2⟩
    | _ => exact False.elim z
/-- how the class at C is called, its __init__ being the def at fI -/
def Makes (P : Program) (w : World) (K : PySem.W.Frag) (C fI : Addr) : Prop :=
  ∀ (A : Around) (R : Result → Shared → Prop) (hp : Heap) (g : Array GenState) (d : Drawn) (t : Nat) (os : OsState) (us : List Value),
    K.In hp → us.length ≤ sizeLine →
    codeAny (model P w) (A.under (.builtin "type.__call__" ⟨.ref C :: us, []⟩)) (.call (.ref fI) ⟨.ref (hp.objs.size + 1) :: us, []⟩)
      (PySem.W.InitBack (hp.objs.size + 1) R) ⟨(hp.push (PySem.W.kdv_tup us)).push (PySem.HandSPX.excO C hp.objs.size), g, d, t, os⟩ →
    codeAny (model P w) A (.call (.ref C) ⟨us, []⟩) R ⟨hp, g, d, t, os⟩
theorem makesVE {P : Program} {w : World} {K : PySem.W.Frag} (T : OexC K C)
    (iC : PySem.W.findIn K (.ref C) "__init__" = some (some (.ref fI))) (tI : PySem.W.typeIn K (.ref fI) = some (.type "function")) :
    Makes P w K C fI := by
  obtain ⟨nm, qn, N, bs, bm, sn, sub, ab, col, dd, k0, k1, k2, k3, k5, hC, hbm⟩ := T.cls
  intro A R hp g d t os us X hu hq
  have tails := fun Y : String => PySem.HandSPX.refsVE_contains Y bm hbm
  have init := PySem.W.looks_findIn (M := model P w) X iC
  have bound := fun self => PySem.W.bind_fn (M := model P w) X self tI
  exact PySem.HandSPX.call_own F.excBase_ValueError tails (X _ _ hC) init bound hu hq
theorem exI_run {us : List Value} {vs : List V} (mk : Makes X.prog X.w X.K C fI)
    (F1 : FnOk X.prog X.w X.K X.mg X.base cx n fI fd ps sp) (hr : Room (n + 1) X.A)
    (hb : Binds X.K fd ps []) (hx : Passes cx X (fun _ _ _ => False)) (I : Inv X pins σ H s) (r : Vals vs us) (hz : vs.length ≤ 1000)
    (q : ∀ a, H a = none → sp (.ref a :: vs) (upd H a (exo a C none)) (fun v H2 => v = .non ∧ Q (.ref a) H2) (fun _ _ _ => False)) :
    wpAny (model X.prog X.w) X.A (call (.ref C) us) (EP X pins σ Q) X.xe s := by
  obtain ⟨hp, g, d, t, os⟩ := s
  have hu : us.length ≤ sizeLine := by
    rw [← Paired.length r, sizeLine_eq]
    omega
  have all := mk X.A _ hp g d t os us I.kIn hu
    (exI_end (A := X.A.under (.builtin "type.__call__" ⟨.ref C :: us, []⟩)) F1 hr rfl hb hx I r q)
  refine wpAny_call (codeAny_mono all ?_)
  intro o s' z
  exact z
end
section
variable {X : Cx} {C fI : Addr} {x : Str} {p pos : Pos} {e : Expr} {es : List Expr} {ta : TA}
  {cx : CXT} {n : Nat} {fd : FuncData} {ps : List Str} {sp : Sp}
theorem pe_exI (mk : Makes X.prog X.w X.K C fI) (kC : PySem.W.keepIn X.K (.ref C) = true)
    (F1 : FnOk X.prog X.w X.K X.mg X.base cx n fI fd ps sp) (hr : Room (n + 1) X.A)
    (hb : Binds X.K fd ps []) (hx : Passes cx X (fun _ _ _ => False))
    (hg : Gl X x) (hm : X.mg x = some (.ref C)) (ha : PA X (e :: es) ta)
    (hdb : (x == ("__debug__" : Str)) = false := by decide)
    (he : starEach (e :: es) X.env = (false, eval e X.env) :: starEach es X.env := by rfl)
    (hpl : (backTo pos (starEach es X.env)).any (·.1) = false := by rfl) :
    PE X (.Call (.Name x p) (e :: es) [] pos) (tExI C sp ta) := by
  constructor
  intro pins s σ H Q I h
  refine wpAny_Call_Name_kw (ld_glob I hg hm ?_ hdb)
  refine PySem.W.callWith_K (h₀ := X.base) I.ok.mod.kin kC (thn (ha.run pos pins s σ H _ I h) ?_) he hpl
  rintro us s1 ⟨vs, H1, J, r, hz, q⟩
  exact ⟨J.kIn, exI_run mk F1 hr hb hx J r hz q⟩
end
end Gd
end

section
set_option Elab.async false
set_option linter.all false
set_option maxRecDepth 100000
set_option maxHeartbeats 4000000
/-! raise C(): C of the program, over ValueError, made with nothing. -/
namespace Gd
open PySem PySem.Spec PyProof.Rows L2
section
variable {X : Cx} {C : Addr} {x : Str} {p pos : Pos}
theorem pmk_exB0 (T : OexC X.K C)
    (iB : PySem.W.findIn X.K (.ref C) "__init__" = some (some (.builtin "ValueError.__init__")))
    (hg : Gl X x) (hm : X.mg x = some (.ref C)) (rs : Raises X (.ref C)) (hdb : (x == ("__debug__" : Str)) = false := by decide) :
    PMk X (.Call (.Name x p) [] [] pos) (fun σ H Q => Q (.ref C) none H) := by
  intro pins s σ H Q I q
  refine wpAny_Call_Name_kw (ld_glob I hg hm ?_ hdb)
  refine PySem.W.callWith_K0 I.kIn T.kC ?_
  obtain ⟨nm, qn, N, bs, bm, sn, sub, ab, col, dd, k0, k1, k2, k3, k5, hC, hbm⟩ := T.cls
  obtain ⟨hp, g, d, t, os⟩ := s
  have tails := fun Y : String => PySem.HandSPX.refsVE_contains Y bm hbm
  refine PySem.W.call_B F.excBase_ValueError tails (I.kIn _ _ hC) (PySem.W.looks_findIn I.kIn iB) (Nat.zero_le _) ?_
  intro h' k e1 e2
  have up : hp.objs.size ≤ hp.objs.size + 1 := Nat.le_succ _
  have nn : hp.get? (hp.objs.size + 1) = none := by
    cases e : hp.get? (hp.objs.size + 1) with
    | none => rfl
    | some o => exact absurd (Heap.lt_size e) (Nat.not_lt.mpr up)
  exact ⟨_, _, _, ⟨hp, g, d, t, os⟩, H, .ref C, none, rfl, I, k, nn, e1, ⟨rfl, rfl⟩, rfl, rfl, I.hok.fresh up, rfl, I.bare, rs, q⟩
end
end Gd
end

section
set_option Elab.async false
set_option linter.all false
set_option maxRecDepth 100000
set_option maxHeartbeats 4000000
/-! What a part comes to by a look. -/
namespace K03
open PySem PySem.Spec PyProof.Rows L2 Gd
abbrev Lk := List ((Str × Str) × Option Int)
def keyOf (x : Str × Str) : List Key := [.inr x.1, .inr x.2]
theorem key_inj {x y : Str × Str} (h : keyOf x = keyOf y) : x = y := by
  injection h with h1 h2
  injection h2 with h2 _
  exact Prod.ext (Sum.inr.inj h1) (Sum.inr.inj h2)
def wV : Option Int → V
  | none => .non
  | some i => .int i
def wD : Option Int → PyData
  | none => .none
  | some i => .int i
def getL (L : Lk) (x : Str × Str) : Option (Option Int) := (L.find? fun p => decide (p.1 = x)).map (·.2)
def putL (L : Lk) (x : Str × Str) (w : Option Int) : Lk := if (L.any fun p => decide (p.1 = x)) = true then L.map (fun p => if p.1 = x then (p.1, w) else p) else L ++ [(x, w)]
def encL (L : Lk) : List (List Key × V) := L.map fun p => (keyOf p.1, wV p.2)
theorem enc_get (L : Lk) (x : Str × Str) : valV (encL L) (keyOf x) = (getL L x).map wV := by
  induction L with
  | nil => rfl
  | cons p L ih =>
    by_cases e : p.1 = x
    · have h1 : valV (encL (p :: L)) (keyOf x) = some (wV p.2) := valV_pos (by show keyOf p.1 = keyOf x; rw [e])
      rw [h1]
      unfold getL
      simp [e]
    · have h1 : valV (encL (p :: L)) (keyOf x) = valV (encL L) (keyOf x) := valV_neg (fun z => e (key_inj z))
      rw [h1, ih]
      unfold getL
      simp [e]
theorem enc_put (L : Lk) (x : Str × Str) (w : Option Int) : putK (encL L) (keyOf x) (wV w) = encL (putL L x w) := by
  have any_ : ((encL L).any fun kv => decide (kv.1 = keyOf x)) = L.any fun p => decide (p.1 = x) := by
    unfold encL
    rw [List.any_map]
    congr 1
    funext p
    show decide (keyOf p.1 = keyOf x) = decide (p.1 = x)
    exact decide_eq_decide.mpr ⟨fun z => key_inj z, fun z => by rw [z]⟩
  unfold putK putL
  rw [any_]
  by_cases h : (L.any fun p => decide (p.1 = x)) = true
  · rw [if_pos h, if_pos h]
    unfold encL
    rw [List.map_map, List.map_map]
    exact List.map_congr_left fun p _ => by
      show (if keyOf p.1 = keyOf x then (keyOf p.1, wV w) else (keyOf p.1, wV p.2)) = (keyOf (if p.1 = x then (p.1, w) else p).1, wV (if p.1 = x then (p.1, w) else p).2)
      by_cases e : p.1 = x
      · rw [if_pos e, if_pos (by rw [e])]
      · rw [if_neg e, if_neg (fun z => e (key_inj z))]
  · rw [if_neg h, if_neg h]
    unfold encL
    rw [List.map_append]
    rfl
theorem put_len (L : Lk) (x : Str × Str) (w : Option Int) : (putL L x w).length ≤ L.length + 1 := by
  unfold putL
  split
  · rw [List.length_map]
    omega
  · rw [List.length_append]
    exact Nat.le_refl _
theorem put_mem {L : Lk} {x : Str × Str} {w : Option Int} {p : (Str × Str) × Option Int} (h : p ∈ putL L x w) : p ∈ L ∨ p = (x, w) := by
  unfold putL at h
  split at h
  · obtain ⟨q, hq, e⟩ := List.mem_map.mp h
    by_cases z : q.1 = x
    · rw [if_pos z] at e
      rw [← e, z]
      exact .inr rfl
    · rw [if_neg z] at e
      rw [← e]
      exact .inl hq
  · rcases List.mem_append.mp h with h | h
    · exact .inl h
    · exact .inr (List.mem_singleton.mp h)
/-- which cells a look has -/
def hasL (L : Lk) (x : Str × Str) : Prop := ∃ w, getL L x = some w
theorem has_of {L : Lk} {x : Str × Str} : hasL L x ↔ ∃ p ∈ L, p.1 = x := by
  unfold hasL getL
  constructor
  · rintro ⟨w, h⟩
    obtain ⟨p, hp, _⟩ := Option.map_eq_some_iff.mp h
    exact ⟨p, List.mem_of_find?_eq_some hp, by have := List.find?_some hp; simpa using this⟩
  · rintro ⟨p, hp, e⟩
    cases h : L.find? (fun p => decide (p.1 = x)) with
    | none =>
      have := List.find?_eq_none.mp h p hp
      exact absurd e (by simpa using this)
    | some q => exact ⟨q.2, by simp⟩
theorem has_put {L : Lk} {x y : Str × Str} {w : Option Int} (h : hasL L y ∨ y = x) : hasL (putL L x w) y := by
  rw [has_of]
  unfold putL
  split
  · rename_i c
    have : ∃ p ∈ L, p.1 = y := by
      rcases h with h | h
      · exact has_of.mp h
      · obtain ⟨p, hp, e⟩ := List.any_eq_true.mp c
        exact ⟨p, hp, by rw [h]; simpa using e⟩
    obtain ⟨p, hp, e⟩ := this
    refine ⟨_, List.mem_map.mpr ⟨p, hp, rfl⟩, ?_⟩
    by_cases z : p.1 = x
    · rw [if_pos z]
      exact e
    · rw [if_neg z]
      exact e
  · rcases h with h | h
    · obtain ⟨p, hp, e⟩ := has_of.mp h
      exact ⟨p, List.mem_append_left _ hp, e⟩
    · exact ⟨(x, w), List.mem_append_right _ (by simp), h.symm⟩
theorem get_mem {L : Lk} {x : Str × Str} {w : Option Int} (h : getL L x = some w) : ∃ p ∈ L, p.2 = w := by
  unfold getL at h
  obtain ⟨p, hp, e⟩ := Option.map_eq_some_iff.mp h
  exact ⟨p, List.mem_of_find?_eq_some hp, e⟩
/-- two numbers joined: none where it is refused -/
def opP (w : Str) (i j : Int) : Option (Option Int) :=
  if w = "plus" then some (some (i + j)) else if w = "less" then some (some (i - j)) else if w = "times" then some (some (i * j)) else if j = 0 then none else some (some (i.fdiv j))
def both (w : Str) : Option Int → Option Int → Option (Option Int)
  | some i, some j => opP w i j
  | _, _ => some none
def tellP (L : Lk) : Pz → Option (Option Int)
  | .cell x y => some ((getL L (x, y)).getD none)
  | .num i => some (some i)
  | .op w p q => match tellP L p, tellP L q with
    | some a, some b => both w a b
    | _, _ => none
/-- how many leaves -/
def lv : Pz → Nat
  | .cell _ _ => 1
  | .num _ => 1
  | .op _ p q => lv p + lv q
theorem lv_pos : ∀ z, 1 ≤ lv z
  | .cell _ _ => Nat.le_refl _
  | .num _ => Nat.le_refl _
  | .op _ p q => by
    have := lv_pos p
    show 1 ≤ lv p + lv q
    omega
theorem lv_many : ∀ z, 2 * lv z ≤ pzMany z + 1
  | .cell _ _ => Nat.le_refl _
  | .num _ => Nat.le_refl _
  | .op _ p q => by
    have := lv_many p
    have := lv_many q
    show 2 * (lv p + lv q) ≤ 1 + pzMany p + pzMany q + 1
    omega
def numsL (L : Lk) : Prop := ∀ p ∈ L, ∀ i, p.2 = some i → i.natAbs ≤ 10 ^ 30
theorem fdiv_abs (i j : Int) (h : j ≠ 0) : (i.fdiv j).natAbs ≤ i.natAbs := by
  rcases Int.lt_or_gt_of_ne h with n | n
  · have e2 : i.fdiv j = (-i).fdiv (-j) := by rw [Int.neg_fdiv_neg]
    rw [e2, Int.fdiv_eq_ediv_of_nonneg _ (by omega)]
    have := Int.natAbs_ediv_le_natAbs (-i) (-j)
    rw [Int.natAbs_neg] at this
    exact this
  · rw [Int.fdiv_eq_ediv_of_nonneg _ (by omega)]
    exact Int.natAbs_ediv_le_natAbs i j
theorem pow_mono {a b : Nat} (h : a ≤ b) : 10 ^ (31 * a) ≤ (10 ^ (31 * b) : Nat) := Nat.pow_le_pow_right (by decide) (by omega)
theorem op_big {w : Str} {i j k : Int} {a b : Nat} (ha : 1 ≤ a) (hb : 1 ≤ b) (hi : i.natAbs ≤ 10 ^ (31 * a)) (hj : j.natAbs ≤ 10 ^ (31 * b)) (h : opP w i j = some (some k)) : k.natAbs ≤ 10 ^ (31 * (a + b)) := by
  have e : (10 ^ (31 * (a + b)) : Nat) = 10 ^ (31 * a) * 10 ^ (31 * b) := by rw [Nat.mul_add, Nat.pow_add]
  have pa : (2 : Nat) ≤ 10 ^ (31 * a) := Nat.le_trans (by decide : (2 : Nat) ≤ 10 ^ 31) (Nat.pow_le_pow_right (by decide) (by omega))
  have pb : (2 : Nat) ≤ 10 ^ (31 * b) := Nat.le_trans (by decide : (2 : Nat) ≤ 10 ^ 31) (Nat.pow_le_pow_right (by decide) (by omega))
  have sum : 10 ^ (31 * a) + 10 ^ (31 * b) ≤ (10 ^ (31 * a) * 10 ^ (31 * b) : Nat) := by
    generalize (10 ^ (31 * a) : Nat) = x at pa ⊢
    generalize (10 ^ (31 * b) : Nat) = y at pb ⊢
    obtain ⟨u, rfl⟩ : ∃ u, x = u + 2 := ⟨x - 2, by omega⟩
    obtain ⟨v, rfl⟩ : ∃ v, y = v + 2 := ⟨y - 2, by omega⟩
    rw [Nat.add_mul, Nat.mul_add, Nat.mul_add]
    have := Nat.zero_le (u * v)
    omega
  rw [e]
  unfold opP at h
  split at h
  · obtain rfl := Option.some.inj (Option.some.inj h)
    exact Nat.le_trans (by omega) sum
  split at h
  · obtain rfl := Option.some.inj (Option.some.inj h)
    exact Nat.le_trans (by omega) sum
  split at h
  · obtain rfl := Option.some.inj (Option.some.inj h)
    rw [Int.natAbs_mul]
    exact Nat.mul_le_mul hi hj
  split at h
  · cases h
  · rename_i nz
    obtain rfl := Option.some.inj (Option.some.inj h)
    have := fdiv_abs i j nz
    omega
theorem tell_big {L : Lk} (hL : numsL L) : ∀ {z : Pz} {k : Int}, pzOk z → tellP L z = some (some k) → k.natAbs ≤ 10 ^ (31 * lv z)
  | .cell x y, k, _, h => by
    have h : (getL L (x, y)).getD none = some k := Option.some.inj h
    cases g : getL L (x, y) with
    | none => rw [g] at h; cases h
    | some w =>
      rw [g] at h
      obtain ⟨p, hp, e⟩ := get_mem g
      have := hL p hp k (by rw [e]; exact h)
      exact Nat.le_trans this (by show 10 ^ 30 ≤ 10 ^ (31 * 1); decide)
  | .num i, k, ok, h => by
    obtain rfl : i = k := Option.some.inj (Option.some.inj h)
    have h1 := ok.1
    have h2 := ok.2
    show i.natAbs ≤ 10 ^ (31 * 1)
    omega
  | .op w p q, k, ok, h => by
    have h : (match tellP L p, tellP L q with
      | some a, some b => both w a b
      | _, _ => none) = some (some k) := h
    cases ep : tellP L p with
    | none => rw [ep] at h; cases h
    | some a =>
      cases eq : tellP L q with
      | none => rw [ep, eq] at h; cases h
      | some b =>
        rw [ep, eq] at h
        have h : both w a b = some (some k) := h
        cases a with
        | none => cases h
        | some i =>
          cases b with
          | none => cases h
          | some j => exact op_big (lv_pos p) (lv_pos q) (tell_big hL ok.2.1 ep) (tell_big hL ok.2.2 eq) h
theorem big_log {i : Int} {n : Nat} (h : i.natAbs ≤ 10 ^ (31 * n)) (hn : n ≤ 16) : i.natAbs.log2 < 1700 := by
  by_cases z : i.natAbs = 0
  · rw [z]; decide
  · refine (Nat.log2_lt z).mpr (Nat.lt_of_le_of_lt (Nat.le_trans h (pow_mono hn)) (by decide +kernel))
/-- the quotient by what is left over -/
theorem quot_same {a b : Int} (hb : b ≠ 0) (h : decide (a < 0) = decide (b < 0)) : ((a.natAbs / b.natAbs : Nat) : Int) = a.fdiv b := by
  by_cases hn : b < 0
  · have ha : a < 0 := by simpa [hn] using h
    have e2 : a.fdiv b = (-a).fdiv (-b) := by rw [Int.neg_fdiv_neg]
    rw [e2, Int.fdiv_eq_ediv_of_nonneg _ (by omega)]
    have e3 : (-a) = ((a.natAbs : Nat) : Int) := by omega
    have e4 : (-b) = ((b.natAbs : Nat) : Int) := by omega
    rw [e3, e4]
    rfl
  · have ha : ¬ a < 0 := by simpa [hn] using h
    rw [Int.fdiv_eq_ediv_of_nonneg _ (by omega)]
    have e3 : a = ((a.natAbs : Nat) : Int) := by omega
    have e4 : b = ((b.natAbs : Nat) : Int) := by omega
    rw [e3, e4]
    rfl
theorem neg_div {x d : Nat} (hd : 0 < d) : (-((x : Nat) : Int)) / ((d : Nat) : Int) = 0 - ((x / d : Nat) : Int) - (if x / d * d ≠ x then 1 else 0) := by
  have dm := Nat.div_add_mod x d
  have lt := Nat.mod_lt x hd
  generalize hq : x / d = q at dm ⊢
  generalize hr : x % d = r at dm lt
  by_cases z : r = 0
  · subst z
    have ex : x = d * q := by omega
    rw [if_neg (by rw [ex, Nat.mul_comm]; simp)]
    have : (-((x : Nat) : Int)) = ((d : Nat) : Int) * (-((q : Nat) : Int)) := by rw [ex, Int.natCast_mul, Int.mul_neg]
    rw [this, Int.mul_ediv_cancel_left _ (by omega)]
    omega
  · rw [if_pos (by rw [Nat.mul_comm]; omega)]
    have : (-((x : Nat) : Int)) = (((d - r : Nat) : Nat) : Int) + ((d : Nat) : Int) * (-((q : Nat) : Int) - 1) := by
      have e : ((x : Nat) : Int) = ((d : Nat) : Int) * ((q : Nat) : Int) + ((r : Nat) : Int) := by rw [← dm]; push_cast; rfl
      rw [e, Int.mul_sub, Int.mul_neg, Int.mul_one]
      omega
    rw [this, Int.add_mul_ediv_left _ _ (by omega), Int.ediv_eq_zero_of_lt (by omega) (by omega)]
    omega
theorem quot_other {a b : Int} (hb : b ≠ 0) (h : decide (a < 0) ≠ decide (b < 0)) : 0 - ((a.natAbs / b.natAbs : Nat) : Int) - (if a.natAbs / b.natAbs * b.natAbs ≠ a.natAbs then 1 else 0) = a.fdiv b := by
  rw [← neg_div (by omega)]
  by_cases hn : b < 0
  · have ha : ¬ a < 0 := by simpa [hn] using h
    have e2 : a.fdiv b = (-a).fdiv (-b) := by rw [Int.neg_fdiv_neg]
    rw [e2, Int.fdiv_eq_ediv_of_nonneg _ (by omega)]
    have e3 : a = ((a.natAbs : Nat) : Int) := by omega
    have e4 : (-b) = ((b.natAbs : Nat) : Int) := by omega
    rw [e4, ← e3]
  · have ha : a < 0 := by simpa [hn] using h
    rw [Int.fdiv_eq_ediv_of_nonneg _ (by omega)]
    have e3 : a = -((a.natAbs : Nat) : Int) := by omega
    have e4 : b = ((b.natAbs : Nat) : Int) := by omega
    rw [← e3, ← e4]
end K03
end

section
set_option Elab.async false
set_option linter.all false
set_option maxRecDepth 100000
set_option maxHeartbeats 4000000
/-! Exceptions of the program's own classes as values: made, looked at, asked for their class. -/
namespace Gd
open PySem PySem.Spec PyProof.Rows L2

/-- what the written part must say of a class of exceptions so that its objects are looked at -/
structure EvC (K : PySem.W.Frag) (C : Addr) : Prop where
  ga : PySem.W.findIn K (.ref C) "__getattribute__" = some (some (.builtin "BaseException.__getattribute__"))
  gt : PySem.W.findIn K (.ref C) "__getattr__" = some none
  sub : PySem.W.subIn K (.ref C) (.type "BaseException") = some true
  hd : PySem.W.hasDictIn K C = true
  cl : PySem.W.findIn K (.ref C) "__class__" = some (some (.builtin "object.__class__"))
  mo : PySem.W.mroIn K C (.type "object") = some true
/-- of the built-in that tells an object's class -/
structure EvB (K : PySem.W.Frag) : Prop where
  gt : PySem.W.specialIn K (.builtin "object.__class__") "__get__" = some (some (.builtin "getset_descriptor.__get__"))
  tk : PySem.W.takesIn K (.builtin "object.__class__") = some true

section
variable {X : Cx} {pins : List (Addr × Obj)} {σ : L2.St} {H : Hp} {s : Shared} {a C dx : Addr} {fs : List (Str × V)}
/-- how such an object lies: without a dict, with one -/
theorem lies0 (I : Inv X pins σ H s) (e : H a = some (exo a C none)) : ∃ ox, PySem.W.InstAt s.heap a ox C none := by
  obtain ⟨t, g⟩ := exo_at I.hok e
  exact ⟨_, g, rfl, rfl, trivial⟩
theorem lies1 (I : Inv X pins σ H s) (e : H a = some (exo a C (some dx))) (ed : H dx = some (exd dx fs)) :
    ∃ ox od, PySem.W.InstAt s.heap a ox C (some od) ∧ ∀ f v, fs.lookup f = some v → ∃ u, RelV v u ∧ PySem.W.lookIn f od = some (some u) := by
  obtain ⟨t, g⟩ := exo_at I.hok e
  obtain ⟨m, n, r⟩ := exd_at I.hok ed
  obtain ⟨od, ho, hl⟩ := lookIn_ns n
  refine ⟨_, od, ⟨g, rfl, rfl, ho⟩, ?_⟩
  intro f v hv
  obtain ⟨u, hu, ru⟩ := RelO.some_of (v := v) (o := m f) (by rw [← hv]; exact r f)
  exact ⟨u, ru, by rw [hl, hu]⟩
end

/-- isinstance(e, c), e an exception of an own class -/
def rIsE (K : PySem.W.Frag) : List V → Hp → VK → Prop := fun xs H Q =>
  ∃ (a C : Addr) (c : V) (u : Value) (b : Bool), xs = [.ref a, c] ∧ ClsV c u ∧ EvC K C ∧ EvB K ∧
    (H a = some (exo a C none) ∨ ∃ dx fs, H a = some (exo a C (some dx)) ∧ H dx = some (exd dx fs)) ∧
    PySem.W.kitOne K (.ref C) u = some b ∧ Q (.bl b) H
theorem call_isE {X : Cx} : CallR X (.builtin "isinstance") (rIsE X.K) := by
  intro pins s σ H xs us Q I r h
  obtain ⟨a, C, c, u, b, rfl, k, T, B, at_, e, q⟩ := h
  obtain ⟨u1, u2, rfl, r1, r2⟩ := vals2 r
  cases k.eq r2
  obtain rfl : u1 = Value.ref a := r1
  have hcl := (PySem.W.any_some T.hd)
  have hcl' : (PySem.W.clsIn X.K C).isSome = true := by
    obtain ⟨cd, hc, _⟩ := hcl
    rw [hc]
    rfl
  have fin : ∀ tk, EP X pins σ Q (.bool b) { s with toks := tk } := fun tk => ⟨.bl b, H, I.tok tk, rfl, q⟩
  rcases at_ with ea | ⟨dx, fs, ea, ed⟩
  · obtain ⟨ox, J⟩ := lies0 I ea
    exact PySem.W.kia_one (PySem.W.kitx_exc hcl' T.ga T.gt T.sub T.cl B.gt B.tk T.mo) I.kIn J e (fun z => nomatch z) fin
  · obtain ⟨ox, od, J, _⟩ := lies1 I ea ed
    exact PySem.W.kia_one (PySem.W.kitx_exc hcl' T.ga T.gt T.sub T.cl B.gt B.tk T.mo) I.kIn J e (fun z => nomatch z) fin

/-- e.f, e an exception with a dict -/
def tEf (K : PySem.W.Frag) (f : Str) (te : TE) : TE := fun σ H Q => te σ H fun x H1 =>
  ∃ (a C dx : Addr) (fs : List (Str × V)) (v : V), x = .ref a ∧ H1 a = some (exo a C (some dx)) ∧ H1 dx = some (exd dx fs) ∧ EvC K C ∧
    PySem.W.findIn K (.ref C) f = some none ∧ fs.lookup f = some v ∧ Q v H1
theorem pe_ef {X : Cx} {e : Expr} {f : Str} {te : TE} {pos : Pos} (he : PE X e te)
    (hb : attributeBase e f X.env (eval e X.env) = eval e X.env := by rfl) : PE X (.Attribute e f pos) (tEf X.K f te) := by
  constructor
  intro pins s σ H Q I h
  refine attr_of hb (thn (he.run pins s σ H _ I h) ?_)
  rintro u s1 ⟨x, H1, J, rx, a, C, dx, fs, v, rfl, ea, ed, T, hno, l, q⟩
  obtain rfl : u = Value.ref a := rx
  obtain ⟨ox, od, at_, look⟩ := lies1 J ea ed
  obtain ⟨u, ru, hu⟩ := look f v l
  exact HandSPX.exc_get J.kIn at_ T.ga T.gt T.sub (PySem.W.findObj_own T.hd hno rfl hu) (handed_of ru) ⟨v, H1, J.tok _, ru, q⟩
end Gd
end

section
set_option Elab.async false
set_option linter.all false
set_option maxRecDepth 100000
set_option maxHeartbeats 4000000
/-! try: body / except x as n: suite, where the body raises on every way and the suite keeps the exception: what follows knows of the object (it is pinned there). -/
namespace Gd
open PySem PySem.Spec PyProof.Rows L2
section
variable {X : Cx} {pins : List (Addr × Obj)} {σ : L2.St} {H : Hp} {s : Shared}
/-- the suite is left, its exception stays pinned -/
theorem leftBy {a : Addr} {q : Addr × Obj} (I : Inv (X.suite a (q :: (X.pn ++ pins))) [] σ H s) (ok : X.Ok) : Inv X (q :: pins) σ H s :=
  ⟨ok, I.os, I.bare, I.base, I.loc, I.cell, I.free, I.freeC, fun p hp => I.pin p (by
    rcases List.mem_append.mp hp with h | h
    · exact List.mem_append_left _ (List.mem_cons_of_mem _ (List.mem_append_left _ h))
    · rcases List.mem_cons.mp h with h | h
      · rw [h]; exact List.mem_append_left _ List.mem_cons_self
      · exact List.mem_append_left _ (List.mem_cons_of_mem _ (List.mem_append_right _ h))), I.hok, I.len⟩
theorem pinIn {q : Addr × Obj} (I : Inv X (q :: pins) σ H s) : Inv (X.tr (q :: (X.pn ++ pins)) X.xe) [] σ H s :=
  ⟨I.ok.toTry _ _, I.os, I.bare, I.base, I.loc, I.cell, I.free, I.freeC, fun p hp => I.pin p (by
    have hp : p ∈ q :: (X.pn ++ pins) := by rw [List.append_nil] at hp; exact hp
    rcases List.mem_cons.mp hp with h | h
    · rw [h]; exact List.mem_append_right _ List.mem_cons_self
    · rcases List.mem_append.mp h with h | h
      · exact List.mem_append_left _ h
      · exact List.mem_append_right _ (List.mem_cons_of_mem _ h)), I.hok, I.len⟩
theorem pinOut {q : Addr × Obj} {xe : Value → Shared → Prop} (I : Inv (X.tr (q :: (X.pn ++ pins)) xe) [] σ H s) (ok : X.Ok) : Inv X pins σ H s :=
  ⟨ok, I.os, I.bare, I.base, I.loc, I.cell, I.free, I.freeC, fun p hp => I.pin p (List.mem_append_left _ (List.mem_cons_of_mem _ hp)), I.hok, I.len⟩
end
/-- what is wished of the body's exception -/
def wKeep (K : PySem.W.Frag) (c : Value) (l i : Nat) (ts tr : Addr → Value → Option Addr → TS) (D : Ends) : WX := fun cls d σ H =>
  PySem.W.exmOne K cls c = some true ∧ (σ.length = l → ∀ a, H a = none → ts a cls d { nx := fun σ' H' => tr a cls d D (σ'.set i none) H', rt := fun _ _ => False } (σ.set i (some (.ref a))) H)
def tKeep (K : PySem.W.Frag) (c : Value) (l i : Nat) (tb : WX → TS) (ts tr : Addr → Value → Option Addr → TS) : TS := fun D σ H =>
  tb (wKeep K c l i ts tr D) { nx := fun _ _ => False, rt := fun _ _ => False } σ H
section
variable {X : Cx} {x n : Str} {c : Value} {i : Nat} {body suite rest : List Stmt} {b₀ : Stmt} {np pos pos' : Pos} {tb : WX → TS} {ts tr : Addr → Value → Option Addr → TS}
theorem pss_keep (hs : X.stack = X.env :: X.outer) (hf : X.env.frame = some X.env.locals) (hN : X.N.Nodup) (hi : X.N[i]? = some n) (hln : X.env.kindOf n = some .local) (hc : Names X x c)
    (hb : ∀ (W : WX) (pn : List (Addr × Obj)) (xe : Value → Shared → Prop), Takes (X.tr pn xe) W → PassesOwn (model X.prog X.w) X.A X.env xe → PSs (X.tr pn xe) body (tb W))
    (hsu : ∀ (a : Addr) (oe : Obj) (cls : Value) (d : Option Addr) (pn : List (Addr × Obj)), Zc cls d oe → (∃ vs, oe.data = .fields vs) → PSs (X.suite a ((a, oe) :: pn)) (b₀ :: suite) (ts a cls d))
    (hre : ∀ (a : Addr) (oe : Obj) (cls : Value) (d : Option Addr) (pn : List (Addr × Obj)), Zc cls d oe → (∃ vs, oe.data = .fields vs) → PSs (X.tr ((a, oe) :: pn) X.xe) rest (tr a cls d)) :
    PSs X (.Try body [.ExceptHandler (some (.Name x np)) (some n) (b₀ :: suite) pos'] [] [] pos :: rest) (tKeep X.K c X.N.length i tb ts tr) := by
  constructor
  intro pins s σ H D I h
  have ok := I.ok
  have frames : X.A.frames = some (X.env :: X.outer) := ok.frames.trans (congrArg some hs)
  have local_ : Loc X.env.scope n := .inl hln
  refine wpAny_execs_cons (wpAny_Try_except ?_)
  -- what runs behind the statement
  let Nxt : Flow → Shared → Prop := fun f s1 => match f with
    | .next => wpAny (model X.prog X.w) X.A (execs rest X.env) (SP X pins D) X.xe s1
    | f => SP X pins D f s1
  have none_ : ∀ f s1, SP (X.tr (X.pn ++ pins) (fun e s₁ => wpAny (model X.prog X.w) X.A (noteFrame e X.env) (fun _ s₂ => wpAny (model X.prog X.w) X.A (setFlight e none) (fun _ s₃ =>
      wpAny (model X.prog X.w) X.A (handleBy e X.env [.ExceptHandler (some (.Name x np)) (some n) (b₀ :: suite) pos']) Nxt X.xe s₃) X.xe s₂) X.xe s₁)) [] { nx := fun _ _ => False, rt := fun _ _ => False } f s1 → False := by
    intro f s1 z
    cases f with
    | next => obtain ⟨_, _, _, q⟩ := z; exact q
    | brk => obtain ⟨_, _, _, q⟩ := z; exact q
    | cont => obtain ⟨_, _, _, q⟩ := z; exact q
    | ret u => obtain ⟨_, _, _, _, _, q⟩ := z; exact q
  refine wpAny_mono ((hb (wKeep X.K c X.N.length i ts tr D) (X.pn ++ pins) _ (fun u s' caught => ?_) PassesOwn.looking).run [] s σ H _ (I.toTry _) h) (fun f s1 z => (none_ f s1 z).elim) (fun e s1 z => z)
  obtain ⟨a, B, sI, pins', σ1, H1, cls, d, rfl, J', nb, up, sky, na, os, ag, hexm, go⟩ := caught
  have J : Inv X pins σ1 H1 sI := J'.ofTry ok
  rw [hs] at sky
  show wpAny _ X.A (noteFrame (.ref a) X.env) _ _ _
  refine Sky.land Zc.steady frames hf sky fun hA flA upA => ?_
  have JA : Inv X pins σ1 H1 { s' with heap := hA } := J.landed nb flA.1 (up.trans upA) os ag
  obtain ⟨oA, vsA, eA, zA, dA⟩ := flA.there
  have apart : a ∉ frs (X.env :: X.outer) := by
    intro m
    obtain ⟨_, o', e', no⟩ := flA.2.2.1.mem m
    rw [eA] at e'
    cases e'
    exact no _ dA
  have nL : a ≠ X.env.locals := fun z => apart (List.mem_filterMap.mpr ⟨X.env, by simp, by rw [hf, z]⟩)
  have nF : a ∉ X.fs := by
    intro m
    obtain ⟨e, he, q⟩ := List.mem_filterMap.mp m
    exact apart (List.mem_filterMap.mpr ⟨e, by simp [he], q⟩)
  have SA := JA.suite eA dA na nL nF
  refine wpAny_handleBy_cons (codeAny_handlers_test ?_) (by intro q; cases q)
  have type_ : PySem.W.Looks (model X.prog X.w) hA (typeOf (.ref a)) cls := fun A Q E s k q => wpAny_typeOf_ref (k _ _ eA) (by rw [zA.1]; exact q)
  have meets := PySem.W.exm_one (M := model X.prog X.w) JA.kIn type_ hexm
  have clause : ∀ {Q : Value → Shared → Prop} {E : Value → Shared → Prop}, Q c { s' with heap := hA } → wpAny (model X.prog X.w) (X.A.mark (some (.ref a))) (eval (.Name x np) X.env) Q E { s' with heap := hA } := by
    intro Q E q
    obtain ⟨hg, hdbg, hm | ⟨hm, hv, hnn⟩⟩ := hc
    · exact ld_glob (X := X.suite a ((a, oA) :: (X.pn ++ pins))) SA hg hm q hdbg
    · exact ld_blt (X := X.suite a ((a, oA) :: (X.pn ++ pins))) SA hg hm hv q hnn hdbg
  refine clause (meets.here (codeAny_handlers_suite_as (HandSPX.lands_againZ flA fun hB flB upB => ?_)))
  obtain ⟨oB, vsB, eB, zB, dB⟩ := flB.there
  have SB := (J.landed nb flB.1 ((up.trans upA).trans upB) os ag : Inv X pins σ1 H1 { s' with heap := hB }).suite eB dB na nL nF
  refine store_ok (X := X.suite a ((a, oB) :: (X.pn ++ pins))) (v := .ref a) SB hN hi local_ rfl (fun s5 S5 => ?_) (.inr hln)
  refine wpAny_mono ((hsu a oB cls d (X.pn ++ pins) zB ⟨_, dB⟩).run [] s5 _ H1 _ S5 (go J.len a na)) (fun f s6 z => ?_) (fun _ _ z => False.elim z)
  cases f with
  | next =>
    obtain ⟨σ6, H6, S6, q6⟩ := z
    refine gone_ok (leftBy S6 ok) hN hi hln fun s7 J7 => ?_
    refine wpAny_mono ((hre a oB cls d (X.pn ++ pins) zB ⟨_, dB⟩).run [] s7 _ _ D (pinIn J7) q6) (fun f s8 z => ?_) (fun _ _ z => z)
    cases f with
    | next => obtain ⟨σ8, H8, S8, q⟩ := z; exact ⟨σ8, H8, pinOut S8 ok, q⟩
    | brk => obtain ⟨σ8, H8, S8, q⟩ := z; exact ⟨σ8, H8, pinOut S8 ok, q⟩
    | cont => obtain ⟨σ8, H8, S8, q⟩ := z; exact ⟨σ8, H8, pinOut S8 ok, q⟩
    | ret u => obtain ⟨v8, σ8, H8, S8, r8, q⟩ := z; exact ⟨v8, σ8, H8, pinOut S8 ok, r8, q⟩
  | brk => obtain ⟨_, _, _, q⟩ := z; exact q.elim
  | cont => obtain ⟨_, _, _, q⟩ := z; exact q.elim
  | ret u => obtain ⟨_, _, _, _, _, q⟩ := z; exact q.elim
end
end Gd
end

section
set_option Elab.async false
set_option linter.all false
set_option maxRecDepth 100000
set_option maxHeartbeats 4000000
/-! try: body / except (x1, x2) as n: suite, the exception kept (as Ky); and where the body does not raise. -/
namespace Gd
open PySem PySem.Spec PyProof.Rows L2
theorem Flying.push {B : Heap} {l : List Env} {a : Addr} {Z : Obj → Prop} {h : Heap} (f : HandSPX.FlyingZ B l a Z h) (o : Obj) : HandSPX.FlyingZ B l a Z (h.push o) := by
  obtain ⟨f1, f2, f3, oe, vs, T, oT, ts, e1, e2, e3, e4, e5, e6, e7, e8, e9⟩ := f
  exact ⟨fun b u e => Heap.get?_push_of_some _ (f1 b u e), f2, Heap.FunFrames.of_keeps (fun b u e _ => ⟨u, Heap.get?_push_of_some _ e, rfl⟩) f3, oe, vs, T, oT, ts, Heap.get?_push_of_some _ e1, e2, e3, e4, e5, e6, Heap.get?_push_of_some _ e7, e8, e9⟩
theorem upToSlots_push (h : Heap) (o : Obj) : h.UpToSlots (h.push o) := fun b u e _ => ⟨u.slots, Heap.get?_push_of_some _ e⟩
/-- what is wished of the body's exception -/
def wKeep2 (K : PySem.W.Frag) (c1 c2 : Value) (l i : Nat) (ts tr : Addr → Value → Option Addr → TS) (D : Ends) : WX := fun cls d σ H =>
  PySem.W.exmAny K cls [c1, c2] = some true ∧ (σ.length = l → ∀ a, H a = none → ts a cls d { nx := fun σ' H' => tr a cls d D (σ'.set i none) H', rt := fun _ _ => False } (σ.set i (some (.ref a))) H)
def tKeep2 (K : PySem.W.Frag) (c1 c2 : Value) (l i : Nat) (tb : WX → TS) (ts tr : Addr → Value → Option Addr → TS) : TS := fun D σ H =>
  tb (wKeep2 K c1 c2 l i ts tr D) { nx := fun _ _ => False, rt := fun _ _ => False } σ H
section
variable {X : Cx} {x1 x2 n : Str} {c1 c2 : Value} {i kk : Nat} {body suite rest : List Stmt} {b₀ : Stmt} {np1 np2 tpos pos pos' : Pos} {tb : WX → TS} {ts tr : Addr → Value → Option Addr → TS}
theorem pss_keep2 (hs : X.stack = X.env :: X.outer) (hf : X.env.frame = some X.env.locals) (hN : X.N.Nodup) (hi : X.N[i]? = some n) (hln : X.env.kindOf n = some .local) (hc1 : Names X x1 c1) (hc2 : Names X x2 c2)
    (hb : ∀ (W : WX) (pn : List (Addr × Obj)) (xe : Value → Shared → Prop), Takes (X.tr pn xe) W → PassesOwn (model X.prog X.w) X.A X.env xe → PSs (X.tr pn xe) body (tb W))
    (hsu : ∀ (a : Addr) (oe : Obj) (cls : Value) (d : Option Addr) (pn : List (Addr × Obj)), Zc cls d oe → (∃ vs, oe.data = .fields vs) → PSs (X.suite a ((a, oe) :: pn)) (b₀ :: suite) (ts a cls d))
    (hre : ∀ (a : Addr) (oe : Obj) (cls : Value) (d : Option Addr) (pn : List (Addr × Obj)), Zc cls d oe → (∃ vs, oe.data = .fields vs) → PSs (X.tr ((a, oe) :: pn) X.xe) rest (tr a cls d)) :
    PSs X (.Try body [.ExceptHandler (some (.Tuple [.Name x1 np1, .Name x2 np2] kk tpos)) (some n) (b₀ :: suite) pos'] [] [] pos :: rest) (tKeep2 X.K c1 c2 X.N.length i tb ts tr) := by
  constructor
  intro pins s σ H D I h
  have ok := I.ok
  have frames : X.A.frames = some (X.env :: X.outer) := ok.frames.trans (congrArg some hs)
  have local_ : Loc X.env.scope n := .inl hln
  refine wpAny_execs_cons (wpAny_Try_except ?_)
  -- what runs behind the statement
  let Nxt : Flow → Shared → Prop := fun f s1 => match f with
    | .next => wpAny (model X.prog X.w) X.A (execs rest X.env) (SP X pins D) X.xe s1
    | f => SP X pins D f s1
  have none_ : ∀ f s1, SP (X.tr (X.pn ++ pins) (fun e s₁ => wpAny (model X.prog X.w) X.A (noteFrame e X.env) (fun _ s₂ => wpAny (model X.prog X.w) X.A (setFlight e none) (fun _ s₃ =>
      wpAny (model X.prog X.w) X.A (handleBy e X.env [.ExceptHandler (some (.Tuple [.Name x1 np1, .Name x2 np2] kk tpos)) (some n) (b₀ :: suite) pos']) Nxt X.xe s₃) X.xe s₂) X.xe s₁)) [] { nx := fun _ _ => False, rt := fun _ _ => False } f s1 → False := by
    intro f s1 z
    cases f with
    | next => obtain ⟨_, _, _, q⟩ := z; exact q
    | brk => obtain ⟨_, _, _, q⟩ := z; exact q
    | cont => obtain ⟨_, _, _, q⟩ := z; exact q
    | ret u => obtain ⟨_, _, _, _, _, q⟩ := z; exact q
  refine wpAny_mono ((hb (wKeep2 X.K c1 c2 X.N.length i ts tr D) (X.pn ++ pins) _ (fun u s' caught => ?_) PassesOwn.looking).run [] s σ H _ (I.toTry _) h) (fun f s1 z => (none_ f s1 z).elim) (fun e s1 z => z)
  obtain ⟨a, B, sI, pins', σ1, H1, cls, d, rfl, J', nb, up, sky, na, os, ag, hexm, go⟩ := caught
  have J : Inv X pins σ1 H1 sI := J'.ofTry ok
  rw [hs] at sky
  show wpAny _ X.A (noteFrame (.ref a) X.env) _ _ _
  refine Sky.land Zc.steady frames hf sky fun hA flA upA => ?_
  have JA : Inv X pins σ1 H1 { s' with heap := hA } := J.landed nb flA.1 (up.trans upA) os ag
  obtain ⟨oA, vsA, eA, zA, dA⟩ := flA.there
  have apart : a ∉ frs (X.env :: X.outer) := by
    intro m
    obtain ⟨_, o', e', no⟩ := flA.2.2.1.mem m
    rw [eA] at e'
    cases e'
    exact no _ dA
  have nL : a ≠ X.env.locals := fun z => apart (List.mem_filterMap.mpr ⟨X.env, by simp, by rw [hf, z]⟩)
  have nF : a ∉ X.fs := by
    intro m
    obtain ⟨e, he, q⟩ := List.mem_filterMap.mp m
    exact apart (List.mem_filterMap.mpr ⟨e, by simp [he], q⟩)
  have SA := JA.suite eA dA na nL nF
  refine wpAny_handleBy_cons (codeAny_handlers_test ?_) (by intro q; cases q)
  have clause : ∀ {x : Str} {c : Value} {p : Pos} (hc : Names X x c) {Q : Value → Shared → Prop} {E : Value → Shared → Prop}, Q c { s' with heap := hA } → wpAny (model X.prog X.w) (X.A.mark (some (.ref a))) (eval (.Name x p) X.env) Q E { s' with heap := hA } := by
    intro x c p hc Q E q
    obtain ⟨hg, hdbg, hm | ⟨hm, hv, hnn⟩⟩ := hc
    · exact ld_glob (X := X.suite a ((a, oA) :: (X.pn ++ pins))) SA hg hm q hdbg
    · exact ld_blt (X := X.suite a ((a, oA) :: (X.pn ++ pins))) SA hg hm hv q hnn hdbg
  refine Tuple_ (spliced_more (clause hc1 (spliced_more (clause hc2 (spliced_none ?_)))))
  refine wpAny_newObj_type ?_
  have flP := Flying.push flA { cls := .type "tuple", dict := none, data := .seq [c1, c2].toArray }
  have upP := upToSlots_push hA { cls := .type "tuple", dict := none, data := .seq [c1, c2].toArray }
  have hp : (hA.push { cls := .type "tuple", dict := none, data := .seq [c1, c2].toArray }).get? hA.objs.size = some { cls := .type "tuple", dict := none, data := .seq [c1, c2].toArray } := Heap.get?_push_size _ rfl
  have eP := Heap.get?_push_of_some { cls := .type "tuple", dict := none, data := .seq [c1, c2].toArray } eA
  show wpAny (model X.prog X.w) (X.A.mark (some (.ref a))) (excMatches (.ref a) (.ref hA.objs.size)) _ _ { s' with heap := hA.push { cls := .type "tuple", dict := none, data := .seq [c1, c2].toArray } }
  have kIn : X.K.In (hA.push { cls := .type "tuple", dict := none, data := .seq [c1, c2].toArray }) := (J.landed nb flP.1 ((up.trans upA).trans upP) os ag : Inv X pins σ1 H1 { s' with heap := hA.push { cls := .type "tuple", dict := none, data := .seq [c1, c2].toArray } }).kIn
  generalize hA.push { cls := .type "tuple", dict := none, data := .seq [c1, c2].toArray } = hQ at flP upP hp eP kIn ⊢
  have type_ : PySem.W.Looks (model X.prog X.w) hQ (typeOf (.ref a)) cls := fun A Q E s k q => wpAny_typeOf_ref (k _ _ eP) (by rw [zA.1]; exact q)
  have meets := PySem.W.exm_tup2 (M := model X.prog X.w) kIn type_ hp hexm
  refine meets.here (codeAny_handlers_suite_as (HandSPX.lands_againZ flP fun hB flB upB => ?_))
  obtain ⟨oB, vsB, eB, zB, dB⟩ := flB.there
  have SB := (J.landed nb flB.1 (((up.trans upA).trans upP).trans upB) os ag : Inv X pins σ1 H1 { s' with heap := hB }).suite eB dB na nL nF
  refine store_ok (X := X.suite a ((a, oB) :: (X.pn ++ pins))) (v := .ref a) SB hN hi local_ rfl (fun s5 S5 => ?_) (.inr hln)
  refine wpAny_mono ((hsu a oB cls d (X.pn ++ pins) zB ⟨_, dB⟩).run [] s5 _ H1 _ S5 (go J.len a na)) (fun f s6 z => ?_) (fun _ _ z => False.elim z)
  cases f with
  | next =>
    obtain ⟨σ6, H6, S6, q6⟩ := z
    refine gone_ok (leftBy S6 ok) hN hi hln fun s7 J7 => ?_
    refine wpAny_mono ((hre a oB cls d (X.pn ++ pins) zB ⟨_, dB⟩).run [] s7 _ _ D (pinIn J7) q6) (fun f s8 z => ?_) (fun _ _ z => z)
    cases f with
    | next => obtain ⟨σ8, H8, S8, q⟩ := z; exact ⟨σ8, H8, pinOut S8 ok, q⟩
    | brk => obtain ⟨σ8, H8, S8, q⟩ := z; exact ⟨σ8, H8, pinOut S8 ok, q⟩
    | cont => obtain ⟨σ8, H8, S8, q⟩ := z; exact ⟨σ8, H8, pinOut S8 ok, q⟩
    | ret u => obtain ⟨v8, σ8, H8, S8, r8, q⟩ := z; exact ⟨v8, σ8, H8, pinOut S8 ok, r8, q⟩
  | brk => obtain ⟨_, _, _, q⟩ := z; exact q.elim
  | cont => obtain ⟨_, _, _, q⟩ := z; exact q.elim
  | ret u => obtain ⟨_, _, _, _, _, q⟩ := z; exact q.elim
/-- the body does not raise: whatever the clauses are -/
theorem ps_try_calm {hds : List ExceptHandler} {h₀ : ExceptHandler} (hs : X.stack = X.env :: X.outer)
    (hb : ∀ (W : WX) (pn : List (Addr × Obj)) (xe : Value → Shared → Prop), Takes (X.tr pn xe) W → PassesOwn (model X.prog X.w) X.A X.env xe → PSs (X.tr pn xe) body (tb W)) :
    PS X (.Try body (h₀ :: hds) [] [] pos) (tb fun _ _ _ _ => False) := by
  refine ⟨fun pins s σ H D I h => ?_⟩
  have ok := I.ok
  refine wpAny_Try_except ?_
  refine wpAny_mono ((hb (fun _ _ _ _ => False) (X.pn ++ pins) (fun e s₁ => wpAny (model X.prog X.w) X.A (noteFrame e X.env) (fun _ s₂ => wpAny (model X.prog X.w) X.A (setFlight e none) (fun _ s₃ =>
    wpAny (model X.prog X.w) X.A (handleBy e X.env (h₀ :: hds)) (SP X pins D) X.xe s₃) X.xe s₂) X.xe s₁) (fun u s' xx => ?_) PassesOwn.looking).run [] s σ H D (I.toTry _) h) (fun f s1 hsp => ?_) (fun e s1 he => he)
  · obtain ⟨a, B, sI, pins', σ', H', cls, d, rfl, J', nb, up, sky, na, os, ag, z⟩ := xx
    exact z.elim
  · cases f with
    | next => obtain ⟨σ8, H8, S8, q⟩ := hsp; exact wpAny_execs_nil ⟨σ8, H8, S8.ofTry ok, q⟩
    | brk => obtain ⟨σ8, H8, S8, q⟩ := hsp; exact ⟨σ8, H8, S8.ofTry ok, q⟩
    | cont => obtain ⟨σ8, H8, S8, q⟩ := hsp; exact ⟨σ8, H8, S8.ofTry ok, q⟩
    | ret u => obtain ⟨v8, σ8, H8, S8, r8, q⟩ := hsp; exact ⟨v8, σ8, H8, S8.ofTry ok, r8, q⟩
end
end Gd
end

section
set_option Elab.async false
set_option linter.all false
set_option maxRecDepth 100000
set_option maxHeartbeats 4000000
/-! isinstance of an exception that is pinned: of one class, of a tuple of classes that was just laid. -/
namespace Gd
open PySem PySem.Spec PyProof.Rows L2
def rIsP (K : PySem.W.Frag) (a : Addr) (cls : Value) (d : Option Addr) : List V → Hp → VK → Prop := fun xs H Q => ∃ (C : Addr) (b : Bool), cls = .ref C ∧ d = none ∧ EvC K C ∧ EvB K ∧
  ((∃ (c : V) (u : Value), xs = [.ref a, c] ∧ ClsV c u ∧ PySem.W.kitOne K (.ref C) u = some b) ∨
    ∃ (tp : Addr) (cs : List V) (us : List Value), xs = [.ref a, .ref tp] ∧ H tp = some (.tup cs) ∧ Paired ClsV cs us ∧ PySem.W.kitAny K (.ref C) us = some b) ∧ Q (.bl b) H
theorem call_isP {X : Cx} {a : Addr} {oe : Obj} {cls : Value} {d : Option Addr} (mem : (a, oe) ∈ X.pn) (hz : Zc cls d oe) (hd : ∃ vs, oe.data = .fields vs) : CallR X (.builtin "isinstance") (rIsP X.K a cls d) := by
  intro pins s σ H xs us Q I r h
  obtain ⟨C, b, rfl, rfl, T, B, way, q⟩ := h
  have at_ := (I.pin (a, oe) (List.mem_append_left _ mem)).1
  have J : PySem.W.InstAt s.heap a oe C none := ⟨at_, hz.1, by obtain ⟨vs, e⟩ := hd; unfold PySem.W.notCls; rw [e], by rw [hz.2]; trivial⟩
  obtain ⟨cd, hc, _⟩ := PySem.W.any_some T.hd
  have hcl : (PySem.W.clsIn X.K C).isSome = true := by
    rw [hc]
    rfl
  have Z := PySem.W.kitx_exc (x := a) (ox := oe) (od := none) hcl T.ga T.gt T.sub T.cl B.gt B.tk T.mo
  have fin : ∀ tk, EP X pins σ Q (.bool b) { s with toks := tk } := fun tk => ⟨.bl b, H, I.tok tk, rfl, q⟩
  rcases way with ⟨c, u, rfl, k, e⟩ | ⟨tp, cs, ws, rfl, hT, k, e⟩
  · obtain ⟨u1, u2, rfl, r1, r2⟩ := vals2 r
    cases k.eq r2
    obtain rfl : u1 = Value.ref a := r1
    exact PySem.W.kia_one Z I.kIn J e (fun z => nomatch z) fin
  · obtain ⟨u1, u2, rfl, r1, r2⟩ := vals2 r
    obtain rfl : u1 = Value.ref a := r1
    obtain rfl : u2 = Value.ref tp := r2
    obtain ⟨_, its, rv, o, h1, h2, n, h3⟩ := (show ObjOk X.prog X.w H s.heap tp (.tup cs) from I.hok tp _ hT)
    cases ClsV.all k rv
    obtain ⟨oc, od, dt, sl⟩ := o
    simp only at h2 h3
    subst h2 h3
    exact PySem.W.kia_tup Z I.kIn J h1 e (fun z => nomatch z) fin
end Gd
end

section
set_option Elab.async false
set_option linter.all false
set_option maxRecDepth 100000
set_option maxHeartbeats 4000000
namespace K03
open PySem PySem.Spec PyProof.Rows L2 Gd
theorem flat_strs : ∀ ss : List Str, (ss.map V.str).all flatV = true
  | [] => rfl
  | x :: l => flat_strs l
theorem signs_in {w : Str} (h : w ∈ signs) : inV (.str w) (signs.map V.str) = true := by
  simp only [signs, List.mem_cons, List.not_mem_nil, or_false] at h
  rcases h with rfl | rfl | rfl | rfl <;> decide
theorem sign_not {w : Str} (h : w ∈ signs) : w ≠ "cell" ∧ w ≠ "number" := by
  simp only [signs, List.mem_cons, List.not_mem_nil, or_false] at h
  rcases h with rfl | rfl | rfl | rfl <;> decide
theorem deep_pos : ∀ z, 1 ≤ pzDeep z
  | .cell _ _ => Nat.le_refl _
  | .num _ => Nat.le_refl _
  | .op _ _ _ => Nat.le_add_left _ _
/-- what stands in a piece -/
theorem pz_at {K : PySem.W.Frag} {H : Hp} {v : V} : ∀ {z : Pz}, Dp K H v (pzD z) → ∃ a, v = .ref a ∧ match z with
    | .cell x y => SqT K H a [.str "cell", .str x, .str y]
    | .num i => SqT K H a [.str "number", .int i]
    | .op w p q => ∃ v1 v2, SqT K H a [.str w, v1, v2] ∧ Dp K H v1 (pzD p) ∧ Dp K H v2 (pzD q)
  | .cell x y, h => by
    cases h with
    | tup hS hA =>
      cases hA with
      | cons h1 hA =>
      cases hA with
      | cons h2 hA =>
      cases hA with
      | cons h3 hA =>
      cases hA
      cases h1
      cases h2
      cases h3
      exact ⟨_, rfl, hS⟩
  | .num i, h => by
    cases h with
    | tup hS hA =>
      cases hA with
      | cons h1 hA =>
      cases hA with
      | cons h2 hA =>
      cases hA
      cases h1
      cases h2
      exact ⟨_, rfl, hS⟩
  | .op w p q, h => by
    cases h with
    | tup hS hA =>
      cases hA with
      | cons h1 hA =>
      cases hA with
      | cons h2 hA =>
      cases hA with
      | cons h3 hA =>
      cases hA
      cases h1
      exact ⟨_, rfl, _, _, hS, h2, h3⟩
abbrev sAl : Stmt := topS 31
abbrev nAl : List Str := ["_law_piece_here", "_law_found"]
theorem scAl : FnScope nAl ["_law_piece_here"] (defScope sAl) := ⟨rfl, rfl, rfl, by decide +kernel, rfl, by decide +kernel, by decide +kernel⟩
def spAl (K : PySem.W.Frag) (n : Nat) : Sp := fun vs H Q _ => ∃ (v : V) (z : Pz), vs = [v] ∧ Dp K H v (pzD z) ∧ pzOk z ∧ pzDeep z ≤ n ∧ pzMany z ≤ 1000 ∧
  ∀ (us : List V) (p : Addr) (H' : Hp), Same H H' → H p = none → H' p = some (.lst us) → DpAll K H' us ((allP z).map pzD) → Q (.ref p) H'
theorem cells_only : ∀ xs : List (Str × Str), tupOnlyAll (xs.map cellD) = true
  | [] => rfl
  | x :: xs => by
    simp only [List.map_cons, tupOnlyAll, cells_only xs, Bool.and_true, cellD, tupOnly]
    exact decide_eq_true (show 2 ≤ 1000 by decide)
theorem alls_only : ∀ zs : List Pz, tupOnlyAll (zs.map pzD) = true
  | [] => rfl
  | z :: zs => by
    simp only [List.map_cons, tupOnlyAll, pz_only z, alls_only zs]
    rfl
theorem dp_append {K : PySem.W.Frag} {H : Hp} : ∀ {xs ys : List V} {ds es : List PyData}, DpAll K H xs ds → DpAll K H ys es → DpAll K H (xs ++ ys) (ds ++ es)
  | _, _, _, _, .nil, h => h
  | _, _, _, _, .cons a b, h => .cons a (dp_append b h)
section
variable {P : Program} {w : World} {K : PySem.W.Frag} {mg : Str → Option Value} {base : Heap} {f : Addr} {fd : FuncData} {pS : Addr}
theorem al_none : FnOk P w K mg base CX0 1 f fd ["_law_piece_here"] (spAl K 0) := by
  have bad : ∀ vs H Q E, ¬ spAl K 0 vs H Q E := by
    rintro vs H Q E ⟨v, z, _, _, _, h, _⟩
    have := deep_pos z
    omega
  exact ⟨fun vs H Q E h => absurd h (bad vs H Q E), fun A outer s H args us vs Q E _ _ _ _ h => absurd h (bad vs H Q E)⟩
theorem al_step (F : Fun K "_law_all" "_law_all" sAl f fd) {n : Nat} (G : FnOk P w K mg base CX0 (n + 1) f fd ["_law_piece_here"] (spAl K n)) (b : Binds K fd ["_law_piece_here"] []) (gF : mg "_law_all" = some (.ref f)) :
    FnOk P w K mg base CX0 (n + 2) f fd ["_law_piece_here"] (spAl K (n + 1)) := by
  refine F.ok scAl (fun vs H Q E h => ?_) (fun cdv A outer s H vs Q E hr h => ?_)
  · obtain ⟨v, z, rfl, _⟩ := h
    rfl
  obtain ⟨v, z, rfl, hd, ok, hn, hm, q⟩ := h
  have nd := scAl.nd
  have zl : sizeLine = 16777216 := rfl
  refine ⟨_, pss_cons (ps_set (i := 1) nd rfl (.inl rfl) (pe_lst (pa_cons (pv 0) pa_nil)))
    (C8.pss_cut (ps_if (pt_cmpR op_in_seq (pe_ix ix_tup (pv 0) pe_int (fun _ _ => rfl)) (pe_tup (pa_cons pe_str (pa_cons pe_str (pa_cons pe_str (pa_cons pe_str pa_nil))))) (by with_unfolding_all rfl))
      (pss_one (ps_set (i := 1) nd rfl (.inl rfl) (pe_op op_cat (pe_op op_cat (pv 1) (pe_call G hr (by rfl) gF F.kp b .nil pass0 (pa_cons (pe_ix ix_tup (pv 0) pe_int (fun _ _ => rfl)) pa_nil))) (pe_call G hr (by rfl) gF F.kp b .nil pass0 (pa_cons (pe_ix ix_tup (pv 0) pe_int (fun _ _ => rfl)) pa_nil))))) pss_nil)
    (pss_one (ps_ret (pv 1)))), ?_⟩
  obtain ⟨a, rfl, hz⟩ := pz_at hd
  refine ⟨_, rfl, (by show 1 ≤ sizeLine; decide), fun L nL => ?_⟩
  have j1 := new_same (o := .lst [.ref a]) nL
  have eL : upd H L (.lst [.ref a]) L = some (.lst [.ref a]) := upd_same
  generalize upd H L (.lst [.ref a]) = H1 at j1 eL ⊢
  refine ⟨fun σ' H' => Same H H' ∧ ∃ S us, H' S = some (.lst us) ∧ H S = none ∧ DpAll K H' us ((allP z).map pzD) ∧ σ' = [some (V.ref a), some (V.ref S)], ?_, ?_⟩
  · have hd1 := Dp.same j1 _ hd
    have lone : ∀ {H' : Hp}, Same H1 H' → (allP z).map pzD = [pzD z] → Same H H' ∧ ∃ S us, H' S = some (.lst us) ∧ H S = none ∧ DpAll K H' us ((allP z).map pzD) ∧ [some (V.ref a), some (V.ref L)] = [some (V.ref a), some (V.ref S)] := fun s e =>
      ⟨j1.trans s, L, [.ref a], s _ _ eL, nL, by rw [e]; exact .cons (Dp.same s _ hd1) .nil, rfl⟩
    cases z with
    | cell x y =>
      have hS : SqT K H a [.str "cell", .str x, .str y] := hz
      refine ⟨_, rfl, a, _, 0, _, rfl, rfl, same_tup j1 hS, atI_nat (j := 0) rfl, (by show 4 ≤ sizeLine; decide), fun T nT => ?_⟩
      have j2 := new_same (o := .tup [.str "plus", .str "less", .str "times", .str "over"]) nT
      refine ⟨T, _, rfl, .inr (SqT.of upd_same), rfl, rfl, _, rfl, ?_⟩
      rw [show inV (.str "cell") [.str "plus", .str "less", .str "times", .str "over"] = false by decide]
      exact iteF (lone j2 rfl)
    | num i =>
      have hS : SqT K H a [.str "number", .int i] := hz
      refine ⟨_, rfl, a, _, 0, _, rfl, rfl, same_tup j1 hS, atI_nat (j := 0) rfl, (by show 4 ≤ sizeLine; decide), fun T nT => ?_⟩
      have j2 := new_same (o := .tup [.str "plus", .str "less", .str "times", .str "over"]) nT
      refine ⟨T, _, rfl, .inr (SqT.of upd_same), rfl, rfl, _, rfl, ?_⟩
      rw [show inV (.str "number") [.str "plus", .str "less", .str "times", .str "over"] = false by decide]
      exact iteF (lone j2 rfl)
    | op o z1 z2 =>
      obtain ⟨v1, v2, hS, d1, d2⟩ : ∃ v1 v2, SqT K H a [.str o, v1, v2] ∧ Dp K H v1 (pzD z1) ∧ Dp K H v2 (pzD z2) := hz
      obtain ⟨ow, ok1, ok2⟩ : o ∈ signs ∧ pzOk z1 ∧ pzOk z2 := ok
      have hm : 1 + pzMany z1 + pzMany z2 ≤ 1000 := hm
      have hn : max (pzDeep z1) (pzDeep z2) + 1 ≤ n + 1 := hn
      refine ⟨_, rfl, a, _, 0, _, rfl, rfl, same_tup j1 hS, atI_nat (j := 0) rfl, (by show 4 ≤ sizeLine; decide), fun T nT => ?_⟩
      have j2 := new_same (o := .tup [.str "plus", .str "less", .str "times", .str "over"]) nT
      refine ⟨T, _, rfl, .inr (SqT.of upd_same), rfl, rfl, _, rfl, ?_⟩
      rw [show inV (.str o) [.str "plus", .str "less", .str "times", .str "over"] = true from signs_in ow]
      refine iteT ?_
      have s2 := j1.trans j2
      have eL2 := j2 _ _ eL
      generalize upd H1 T (.tup [.str "plus", .str "less", .str "times", .str "over"]) = H2 at s2 eL2 ⊢
      refine ⟨_, rfl, _, rfl, a, _, 1, v1, rfl, rfl, same_tup s2 hS, atI_nat (j := 1) rfl, v1, z1, rfl, Dp.same s2 _ d1, ok1, by omega, by omega, fun us1 p1 H3 s3 n1 e1 h1 => ?_⟩
      have l1 := all_len z1
      have l2 := all_len z2
      have g1 : us1.length = (allP z1).length := by rw [DpAll.len h1, List.length_map]
      have eL3 := s3 _ _ eL2
      refine ⟨L, p1, _, _, rfl, rfl, eL3, e1, by show 1 + us1.length ≤ sizeLine; omega, fun p np => ?_⟩
      have j4 := new_same (o := .lst ([V.ref a] ++ us1)) np
      have e4 : upd H3 p (.lst ([V.ref a] ++ us1)) p = some (.lst ([V.ref a] ++ us1)) := upd_same
      have s4 := (s2.trans s3).trans j4
      have h14 := DpAll.same j4 _ h1
      generalize upd H3 p (.lst ([V.ref a] ++ us1)) = H4 at s4 e4 h14 ⊢
      refine ⟨_, rfl, a, _, 2, v2, rfl, rfl, same_tup s4 hS, atI_nat (j := 2) rfl, v2, z2, rfl, Dp.same s4 _ d2, ok2, by omega, by omega, fun us2 p2 H5 s5 n2 e2 h2 => ?_⟩
      have g2 : us2.length = (allP z2).length := by rw [DpAll.len h2, List.length_map]
      refine ⟨p, p2, _, _, rfl, rfl, s5 _ _ e4, e2, by rw [List.length_append]; show 1 + us1.length + us2.length ≤ sizeLine; omega, fun p6 np6 => ?_⟩
      have j6 := new_same (o := .lst ([V.ref a] ++ us1 ++ us2)) np6
      have s6 := (s4.trans s5)
      refine ⟨s6.trans j6, p6, _, upd_same, s6.free np6, ?_, rfl⟩
      show DpAll K _ ([V.ref a] ++ us1 ++ us2) (([Pz.op o z1 z2] ++ allP z1 ++ allP z2).map pzD)
      rw [List.map_append, List.map_append]
      exact dp_append (dp_append (.cons (Dp.same (s6.trans j6) _ hd) .nil) (DpAll.same (s5.trans j6) _ h14)) (DpAll.same j6 _ h2)
  · rintro σ' H' ⟨s1, S, us, eS, nS, hS, rfl⟩
    exact ⟨_, rfl, q us S H' s1 nS eS hS⟩
theorem ok_al (F : Fun K "_law_all" "_law_all" sAl f fd) (b : Binds K fd ["_law_piece_here"] []) (gF : mg "_law_all" = some (.ref f)) : ∀ n : Nat, FnOk P w K mg base CX0 (n + 1) f fd ["_law_piece_here"] (spAl K n)
  | 0 => al_none
  | n + 1 => al_step F (ok_al F b gF n) b gF
end
end K03
end

section
set_option Elab.async false
set_option linter.all false
set_option maxRecDepth 100000
set_option maxHeartbeats 4000000
namespace K03
open PySem PySem.Spec PyProof.Rows L2 Gd LamX
abbrev sHeard : Stmt := topS 35
abbrev nHeard : List Str := ["_law_ask_now", "_law_found", "_law_caught", "e", "_law_others"]
theorem scHeard : FnScope nHeard ["_law_ask_now"] (defScope sHeard) := ⟨rfl, rfl, rfl, by decide +kernel, rfl, by decide +kernel, by decide +kernel⟩
/-- the classes of exceptions: NoWorth, PlanError, Unknown, Busy, Done, NoAsk, NoDeed, NoLine, NoName, NoPlace, NoPlaces, NoRoom, NoRule, NoStand, NotDone, NoText, Spent, Taken, TooMany, Unlike -/
structure Cls03 (K : PySem.W.Frag) (mg : Str → Option Value) (cs : Nat → Addr) : Prop where
  g0 : mg "NoWorth" = some (.ref (cs 0))
  g1 : mg "PlanError" = some (.ref (cs 1))
  g2 : mg "Unknown" = some (.ref (cs 2))
  g3 : mg "Busy" = some (.ref (cs 3))
  g4 : mg "Done" = some (.ref (cs 4))
  g5 : mg "NoAsk" = some (.ref (cs 5))
  g6 : mg "NoDeed" = some (.ref (cs 6))
  g7 : mg "NoLine" = some (.ref (cs 7))
  g8 : mg "NoName" = some (.ref (cs 8))
  g9 : mg "NoPlace" = some (.ref (cs 9))
  g10 : mg "NoPlaces" = some (.ref (cs 10))
  g11 : mg "NoRoom" = some (.ref (cs 11))
  g12 : mg "NoRule" = some (.ref (cs 12))
  g13 : mg "NoStand" = some (.ref (cs 13))
  g14 : mg "NotDone" = some (.ref (cs 14))
  g15 : mg "NoText" = some (.ref (cs 15))
  g16 : mg "Spent" = some (.ref (cs 16))
  g17 : mg "Taken" = some (.ref (cs 17))
  g18 : mg "TooMany" = some (.ref (cs 18))
  g19 : mg "Unlike" = some (.ref (cs 19))
  inj : ∀ i j, i < 20 → j < 20 → cs i = cs j → i = j
  ev : ∀ i, i < 3 → EvC K (cs i)
  ty : ∀ i, i < 20 → ((PySem.W.clsIn K (cs i)).isSome && PySem.W.typeIn K (.ref (cs i)) == some (.type "type")) = true
  mro : ∃ cd, PySem.W.clsIn K (cs 0) = some cd ∧ cd.mro = [.ref (cs 0), .ref (cs 1), .type "ValueError", .type "Exception", .type "BaseException", .type "object"]
  vb : EvB K
  isi : mg "isinstance" = none
section
variable {K : PySem.W.Frag} {mg : Str → Option Value} {cs : Nat → Addr}
theorem kit_self (C : Addr) : PySem.W.kitOne K (.ref C) (.ref C) = some true := by
  unfold PySem.W.kitOne
  rw [if_pos (by simp)]
theorem sub_by {C : Addr} {cd : ClassData} {b : Value} (h : PySem.W.clsIn K C = some cd) (ne : cd.mro.isEmpty = false) :
    PySem.W.subIn K (.ref C) b = some (cd.mro.contains b) := by
  show PySem.W.mroIn K C b = _
  unfold PySem.W.mroIn
  rw [h, Option.bind_some, if_neg (by rw [ne]; decide)]
theorem kit_ref {C D : Addr} {cd : ClassData} (h : PySem.W.clsIn K C = some cd) (ne : cd.mro.isEmpty = false)
    (t : ((PySem.W.clsIn K D).isSome && PySem.W.typeIn K (.ref D) == some (.type "type")) = true) (n : C ≠ D) :
    PySem.W.kitOne K (.ref C) (.ref D) = some (cd.mro.contains (.ref D)) := by
  unfold PySem.W.kitOne
  rw [if_neg (by simpa using n)]
  show (if ((PySem.W.clsIn K D).isSome && PySem.W.typeIn K (.ref D) == some (.type "type")) = true then PySem.W.subIn K (.ref C) (.ref D) else none) = _
  rw [if_pos t]
  exact sub_by h ne
theorem kit_type {C : Addr} {T : String} {b : Bool} (h : PySem.W.subIn K (.ref C) (.type T) = some b) (m : PySem.W.kitMeta T = true) :
    PySem.W.kitOne K (.ref C) (.type T) = some b := by
  unfold PySem.W.kitOne
  rw [if_neg (by simp)]
  show (if PySem.W.kitMeta T = true then PySem.W.subIn K (.ref C) (.type T) else none) = _
  rw [if_pos m, h]
theorem Cls03.typ (T : Cls03 K mg cs) {i : Nat} (hi : i < 20) : PySem.W.typeIn K (.ref (cs i)) = some (.type "type") := by
  have h := T.ty i hi
  simp only [Bool.and_eq_true] at h
  exact eq_of_beq h.2
/-- a NoWorth is none of the others -/
theorem Cls03.no (T : Cls03 K mg cs) {j : Nat} (h2 : 2 ≤ j) (hj : j < 20) : PySem.W.kitOne K (.ref (cs 0)) (.ref (cs j)) = some false := by
  have n : cs 0 ≠ cs j := fun z => by have := T.inj 0 j (by omega) hj z; omega
  have n1 : cs 1 ≠ cs j := fun z => by have := T.inj 1 j (by omega) hj z; omega
  obtain ⟨cd, h1, h2⟩ := T.mro
  rw [kit_ref h1 (by rw [h2] <;> rfl) (T.ty j hj) n, h2]
  simp [n.symm, n1.symm]
theorem Cls03.kitV (T : Cls03 K mg cs) : PySem.W.kitOne K (.ref (cs 0)) (.type "ValueError") = some true := by
  obtain ⟨cd, h1, h2⟩ := T.mro
  refine kit_type ?_ (by decide +kernel)
  rw [sub_by h1 (by rw [h2] <;> rfl), h2]
  simp
theorem Cls03.plan (T : Cls03 K mg cs) : PySem.W.exmAny K (.ref (cs 0)) [.ref (cs 1), .ref (cs 2)] = some true := by
  obtain ⟨cd, h1, h2⟩ := T.mro
  have e1 : PySem.W.exmOne K (.ref (cs 0)) (.ref (cs 1)) = some true := by
    have e := T.ev 1 (by decide)
    refine PySem.W.exm_ref e.sub e.hd (T.typ (by decide)) ?_
    rw [sub_by h1 (by rw [h2]; rfl), h2]
    simp
  have e2 : PySem.W.exmOne K (.ref (cs 0)) (.ref (cs 2)) = some false := by
    have e := T.ev 2 (by decide)
    refine PySem.W.exm_ref e.sub e.hd (T.typ (by decide)) ?_
    have n : cs 0 ≠ cs 2 := fun z => by have := T.inj 0 2 (by omega) (by omega) z; omega
    have n1 : cs 1 ≠ cs 2 := fun z => by have := T.inj 1 2 (by omega) (by omega) z; omega
    rw [sub_by h1 (by rw [h2]; rfl), h2]
    simp [n.symm, n1.symm]
  simp only [PySem.W.exmAny, e1, e2]
  rfl
theorem Cls03.any (T : Cls03 K mg cs) {l : List Nat} (h : ∀ j ∈ l, 2 ≤ j ∧ j < 20) : PySem.W.kitAny K (.ref (cs 0)) (l.map fun j => .ref (cs j)) = some false := by
  induction l with
  | nil => rfl
  | cons j l ih =>
    have k := T.no (h j (by simp)).1 (h j (by simp)).2
    have := ih fun x hx => h x (by simp [hx])
    simp only [List.map_cons, PySem.W.kitAny, k, this]
end
/-- ("fault", None) -/
def faultT (H : Hp) (Q : VK) : Prop := ∀ b, H b = none → Q (.ref b) (upd H b (.tup [.str "fault", .non]))
/-- heard(lambda: ..): raising NoWorth, or not raising -/
def TBoth (K : PySem.W.Frag) (cs : Nat → Addr) : (XK → Hp → VK → Prop) → Hp → VK → Prop := fun tl H Q =>
  (∀ Qn : VK, tl (fun cls d H' => cls = .ref (cs 0) ∧ d = none ∧ ∀ H'', Same H' H'' → faultT H'' Q) H Qn) ∨
  ∀ Q' : VK, (∀ v H', (∀ b, H' b = none → Q (.ref b) (upd H' b (.tup [.str "told", v]))) → Q' v H') → tl (fun _ _ _ => False) H Q'
section
variable {X : Cx} {cs : Nat → Addr}
theorem pss_by {XX : Cx} {st : List Stmt} {t u : TS} (h : PSs XX st t) (i : ∀ D σ H, u D σ H → t D σ H) : PSs XX st u := ⟨fun pins s σ H D I q => h.run pins s σ H D I (i _ _ _ q)⟩
/-- the statements behind the try -/
def tsRest (K : PySem.W.Frag) (cs : Nat → Addr) (a : Addr) (cls : Value) (d : Option Addr) : TS := fun D σ H => cls = .ref (cs 0) ∧ d = none ∧ σ.length = 5 ∧ σ[2]? = some (some (.ref a)) ∧ ∀ H', Same H H' → faultT H' D.rt
theorem rest_ok {g : Addr} {cdg : Value} {s : Shared} {H : Hp} (T : Cls03 X.K X.mg cs) (mv : X.mg "ValueError" = none) (a : Addr) (oe : Obj) (cls : Value) (d : Option Addr) (pn : List (Addr × Obj)) (hz : Zc cls d oe) (hd : ∃ vs, oe.data = .fields vs)
    {XX : Cx} (eX : XX = (cxOf C8.CX0 X.prog X.w X.K X.mg X.base nHeard "_law_heard" (defScope sHeard) g cdg X.A X.stack s H C8.E0).nox) :
    PSs (XX.tr ((a, oe) :: pn) XX.xe) ((defBody sHeard).drop 3) (tsRest X.K cs a cls d) := by
  have nd := scHeard.nd
  have hu : (XX.tr ((a, oe) :: pn) XX.xe).calm = true := by rw [eX]; rfl
  have mem : (a, oe) ∈ (XX.tr ((a, oe) :: pn) XX.xe).pn := List.mem_cons_self
  have isP := call_isP mem hz hd
  subst eX
  refine pss_by (t := _) (pss_cons (ps_if (pt_cmpR op_isN (pv 2) pe_non (nomark _)) pss_never pss_nil)
    (pss_cons (ps_set (i := 4) nd rfl (.inl rfl) (pe_callB isP (by rfl) T.isi (by decide +kernel) (pa_cons (pv 2) (pa_cons (pe_tup (pa_cons (pe_glob (v := .ref (cs 3)) (by rfl) T.g3 rfl) (pa_cons (pe_glob (v := .ref (cs 4)) (by rfl) T.g4 rfl) (pa_cons (pe_glob (v := .ref (cs 5)) (by rfl) T.g5 rfl) (pa_cons (pe_glob (v := .ref (cs 6)) (by rfl) T.g6 rfl) (pa_cons (pe_glob (v := .ref (cs 7)) (by rfl) T.g7 rfl) (pa_cons (pe_glob (v := .ref (cs 8)) (by rfl) T.g8 rfl) (pa_cons (pe_glob (v := .ref (cs 9)) (by rfl) T.g9 rfl) (pa_cons (pe_glob (v := .ref (cs 10)) (by rfl) T.g10 rfl) (pa_cons (pe_glob (v := .ref (cs 11)) (by rfl) T.g11 rfl) (pa_cons (pe_glob (v := .ref (cs 12)) (by rfl) T.g12 rfl) pa_nil))))))))))) pa_nil))))
    (pss_cons (ps_set (i := 4) nd rfl (.inl rfl) (pe_or (pv 4) (pe_one (pe_callB isP (by rfl) T.isi (by decide +kernel) (pa_cons (pv 2) (pa_cons (pe_tup (pa_cons (pe_glob (v := .ref (cs 13)) (by rfl) T.g13 rfl) (pa_cons (pe_glob (v := .ref (cs 14)) (by rfl) T.g14 rfl) (pa_cons (pe_glob (v := .ref (cs 15)) (by rfl) T.g15 rfl) (pa_cons (pe_glob (v := .ref (cs 16)) (by rfl) T.g16 rfl) (pa_cons (pe_glob (v := .ref (cs 17)) (by rfl) T.g17 rfl) (pa_cons (pe_glob (v := .ref (cs 18)) (by rfl) T.g18 rfl) (pa_cons (pe_glob (v := .ref (cs 2)) (by rfl) T.g2 rfl) (pa_cons (pe_glob (v := .ref (cs 19)) (by rfl) T.g19 rfl) pa_nil))))))))) pa_nil))))))
    (pss_cons (ps_if (PW.pt (pw_or (pt_val (pv 4)) (pw_or (pt_not (pt_val (pe_callB isP (by rfl) T.isi (by decide +kernel) (pa_cons (pv 2) (pa_cons (pe_glob (v := .ref (cs 0)) (by rfl) T.g0 rfl) pa_nil))))) (pw_or1 (pt_not (pt_val (pe_callB isP (by rfl) T.isi (by decide +kernel) (pa_cons (pv 2) (pa_cons (pe_bltn (v := .ty "ValueError") (by rfl) mv (by decide +kernel) rfl) pa_nil))))))))) pss_never pss_nil)
    (pss_one (ps_ret (pe_tup (pa_cons pe_str (pa_cons pe_non pa_nil))))))))) ?_
  rintro D σ H ⟨rfl, rfl, len, e2, q⟩
  have ei := T.ev 0 (by omega)
  refine ⟨.ref a, e2, rfl, _, rfl, iteF ?_⟩
  refine ⟨.ref a, e2, (by show 10 ≤ sizeLine; decide), fun tp ntp => ?_⟩
  have j1 := new_same (o := .tup [.ref (cs 3), .ref (cs 4), .ref (cs 5), .ref (cs 6), .ref (cs 7), .ref (cs 8), .ref (cs 9), .ref (cs 10), .ref (cs 11), .ref (cs 12)]) ntp
  refine ⟨cs 0, _, rfl, rfl, ei, T.vb, .inr ⟨tp, _, _, rfl, upd_same, (.cons (.own _) (.cons (.own _) (.cons (.own _) (.cons (.own _) (.cons (.own _) (.cons (.own _) (.cons (.own _) (.cons (.own _) (.cons (.own _) (.cons (.own _) .nil)))))))))), T.any (l := [3, 4, 5, 6, 7, 8, 9, 10, 11, 12]) (by decide)⟩, ?_⟩
  generalize upd H tp (.tup [.ref (cs 3), .ref (cs 4), .ref (cs 5), .ref (cs 6), .ref (cs 7), .ref (cs 8), .ref (cs 9), .ref (cs 10), .ref (cs 11), .ref (cs 12)]) = H1 at j1 ⊢
  have t2 : (σ.set 4 (some (.bl false)))[2]? = some (some (.ref a)) := by rw [List.getElem?_set_ne (by decide)]; exact e2
  have t4 : (σ.set 4 (some (.bl false)))[4]? = some (some (.bl false)) := by rw [List.getElem?_set_self (by omega)]
  refine ⟨.bl false, t4, _, rfl, iteF ?_⟩
  refine ⟨.ref a, t2, (by show 8 ≤ sizeLine; decide), fun tp2 ntp2 => ?_⟩
  have j2 := new_same (o := .tup [.ref (cs 13), .ref (cs 14), .ref (cs 15), .ref (cs 16), .ref (cs 17), .ref (cs 18), .ref (cs 2), .ref (cs 19)]) ntp2
  refine ⟨cs 0, _, rfl, rfl, ei, T.vb, .inr ⟨tp2, _, _, rfl, upd_same, (.cons (.own _) (.cons (.own _) (.cons (.own _) (.cons (.own _) (.cons (.own _) (.cons (.own _) (.cons (.own _) (.cons (.own _) .nil)))))))), T.any (l := [13, 14, 15, 16, 17, 18, 2, 19]) (by decide)⟩, ?_⟩
  generalize upd H1 tp2 (.tup [.ref (cs 13), .ref (cs 14), .ref (cs 15), .ref (cs 16), .ref (cs 17), .ref (cs 18), .ref (cs 2), .ref (cs 19)]) = H2 at j2 ⊢
  have u2 : ((σ.set 4 (some (.bl false))).set 4 (some (.bl false)))[2]? = some (some (.ref a)) := by rw [List.getElem?_set_ne (by decide)]; exact t2
  have u4 : ((σ.set 4 (some (.bl false))).set 4 (some (.bl false)))[4]? = some (some (.bl false)) := by rw [List.getElem?_set_self (by rw [List.length_set]; omega)]
  refine ⟨.bl false, u4, _, rfl, iteF ?_⟩
  refine ⟨.ref a, u2, cs 0, _, rfl, rfl, ei, T.vb, .inl ⟨_, _, rfl, .own _, kit_self _⟩, _, rfl, iteF ?_⟩
  refine ⟨.ref a, u2, cs 0, _, rfl, rfl, ei, T.vb, .inl ⟨_, _, rfl, .ty _, T.kitV⟩, _, rfl, iteF ?_⟩
  exact ⟨(by show 2 ≤ sizeLine; decide), fun b nb => q _ (j1.trans j2) b nb⟩
theorem heard_both {g : Addr} {q : Str} {cdg : Value} (T : Cls03 X.K X.mg cs) (mv : X.mg "ValueError" = none) : GivesTo X nHeard "_law_heard" (defScope sHeard) g cdg (defBody sHeard) "_law_ask_now" q (TBoth X.K cs) := by
  intro f c' s H Q tl act hc h
  have nd := scHeard.nd
  rcases h with h | h
  · refine ⟨_, pss_cons (ps_set (i := 1) nd rfl (.inl rfl) pe_non) (pss_cons (ps_set (i := 2) nd rfl (.inl rfl) pe_non)
      (pss_keep2 (X := (cxOf C8.CX0 X.prog X.w X.K X.mg X.base nHeard "_law_heard" (defScope sHeard) g cdg X.A X.stack s H C8.E0).nox) (i := 3) (c1 := .ref (cs 1)) (c2 := .ref (cs 2))
        (tb := fun W D σ H => ∃ Ech : XK, (∀ cls d σ' H', Ech cls d H' → W cls d σ' H') ∧ σ[0]? = some (some (.ref f)) ∧ H c' = some (CodeO c' q) ∧ ∀ Qn : VK, tl Ech H Qn)
        (ts := fun a cls d => tAsg (tVar 3) (gName 2)) (tr := tsRest X.K cs)
        rfl rfl nd rfl rfl ⟨rfl, by decide, .inl T.g1⟩ ⟨rfl, by decide, .inl T.g2⟩ (fun W pn xe tk _ => ?_) (fun a oe cls d pn _ _ => pss_one (ps_set (i := 2) nd rfl (.inl rfl) (pv 3))) (fun a oe cls d pn hz hd => rest_ok T mv a oe cls d pn hz hd rfl))), ?_⟩
    · refine ⟨fun pins s' σ H' D I h' => ?_⟩
      obtain ⟨Ech, hW, h1, h2, h3⟩ := h'
      exact PSs.run (pss_one (ps_set (i := 1) nd rfl (.inl rfl) (act W pn xe Ech _ _ tk hW))) pins s' σ H' D I ⟨h1, h2, h3 _⟩
    · refine ⟨fun cls d H' => cls = .ref (cs 0) ∧ d = none ∧ ∀ H'', Same H' H'' → faultT H'' Q, fun cls d σ' H' hcd => ?_, rfl, hc, h⟩
      obtain ⟨rfl, rfl, hq⟩ := hcd
      refine ⟨T.plan, fun len a na => ?_⟩
      have len : σ'.length = 5 := len
      refine ⟨.ref a, ?_, rfl, rfl, by simp [len], ?_, hq⟩
      · rw [List.getElem?_set_self (by omega)]
      · rw [List.getElem?_set_ne (by decide), List.getElem?_set_self (by rw [List.length_set]; omega)]
  · refine ⟨_, pss_cons (ps_set (i := 1) nd rfl (.inl rfl) pe_non) (pss_cons (ps_set (i := 2) nd rfl (.inl rfl) pe_non)
      (pss_cons (ps_try_calm (X := (cxOf C8.CX0 X.prog X.w X.K X.mg X.base nHeard "_law_heard" (defScope sHeard) g cdg X.A X.stack s H C8.E0).nox)
        (tb := fun W D σ H => ∃ Ech : XK, (∀ cls d σ' H', Ech cls d H' → W cls d σ' H') ∧ σ[0]? = some (some (.ref f)) ∧ H c' = some (CodeO c' q) ∧ tl Ech H (fun v H' => D.nx (σ.set 1 (some v)) H'))
        rfl (fun W pn xe tk _ => ?_))
      (pss_cons (ps_if (pt_cmpR op_isN (pv 2) pe_non (nomark _)) (pss_one (ps_ret (pe_tup (pa_cons pe_str (pa_cons (pv 1) pa_nil))))) pss_nil)
      (pss_cons ps_never (pss_cons ps_never (pss_cons ps_never (pss_one ps_never))))))), ?_⟩
    · refine ⟨fun pins s' σ H' D I h' => ?_⟩
      obtain ⟨Ech, hW, h1, h2, h3⟩ := h'
      exact PSs.run (pss_one (ps_set (i := 1) nd rfl (.inl rfl) (act W pn xe Ech _ _ tk hW))) pins s' σ H' D I ⟨h1, h2, h3⟩
    · refine ⟨fun _ _ _ => False, fun cls d σ' H' z => z.elim, rfl, hc, ?_⟩
      refine h _ fun v H' hv => ?_
      exact ⟨_, rfl, rfl, _, rfl, iteT ⟨_, rfl, (by show 2 ≤ sizeLine; decide), fun b nb => hv b nb⟩⟩
end
end K03
end

section
set_option Elab.async false
set_option linter.all false
set_option maxRecDepth 100000
set_option maxHeartbeats 4000000
namespace Gd
open PySem PySem.Spec PyProof.Rows L2
def CDivL (i j : Int) : Prop := j ≠ 0 ∧ j.natAbs.log2 < 9000
theorem op_fdivL {X : Cx} : OpR X (binaryOp .FloorDiv) (rI CDivL fun i j => .int (i.fdiv j)) := opI fun _ _ _ _ _ _ _ hc q => floordiv_int hc.1 q (.inl (PyProof.noPylong_of_log2 hc.2))
end Gd
namespace K03
open PySem PySem.Spec PyProof.Rows L2 Gd
abbrev sTb : Stmt := topS 23
abbrev nTb : List Str := ["part", "look", "word", "first", "second"]
theorem scTb : FnScope nTb ["part", "look"] (defScope sTb) := ⟨rfl, rfl, rfl, by decide +kernel, rfl, by decide +kernel, by decide +kernel⟩
abbrev sJb : Stmt := topS 24
theorem scJb : FnScope ["word", "first", "second"] ["word", "first", "second"] (defScope sJb) := ⟨rfl, rfl, rfl, by decide +kernel, rfl, by decide +kernel, by decide +kernel⟩
structure Txt (K : PySem.W.Frag) (cs : Nat → Addr) : Prop where
  ex : OexC K (cs 0)
  ini : PySem.W.findIn K (.ref (cs 0)) "__init__" = some (some (.builtin "ValueError.__init__"))
theorem raises0 {X : Cx} {cs : Nat → Addr} (T : Cls03 X.K X.mg cs) : Raises X (.ref (cs 0)) := raises_own (T.ev 0 (by decide)).sub (T.typ (by decide))
def small17 (i : Int) : Prop := i.natAbs.log2 < 1700
def spJb (K : PySem.W.Frag) (cs : Nat → Addr) : Sp := fun vs H Q E => ∃ (w : Str) (i j : Int), vs = [.str w, .int i, .int j] ∧ w ∈ signs ∧ small17 i ∧ small17 j ∧ (opP w i j = none → E (.ref (cs 0)) none H) ∧ ∀ o, opP w i j = some o → Q (wV o) H
/-- a look stands at a -/
def LookAt (H : Hp) (a : Addr) (L : Lk) : Prop := H a = some (.dT (encL L))
def spTb (K : PySem.W.Frag) (cs : Nat → Addr) (n : Nat) : Sp := fun vs H Q E => ∃ (v : V) (a : Addr) (z : Pz) (L : Lk), vs = [v, .ref a] ∧ LookAt H a L ∧ numsL L ∧ Dp K H v (pzD z) ∧ pzOk z ∧ pzDeep z ≤ n ∧ lv z ≤ 16 ∧ (∀ x ∈ cells z, hasL L x) ∧
  (tellP L z = none → ∀ H', Same H H' → E (.ref (cs 0)) none H') ∧ ∀ o, tellP L z = some o → ∀ H', Same H H' → Q (wV o) H'
section
variable {P : Program} {w : World} {K : PySem.W.Frag} {mg : Str → Option Value} {base : Heap} {f g : Addr} {fd gd : FuncData} {cs : Nat → Addr}
theorem ok_jb (F : Fun K "_joined_by" "_joined_by" sJb f fd) (T : Txt K cs) (C : Cls03 K mg cs) : FnOk P w K mg base (L2.CX P w) 1 f fd ["word", "first", "second"] (spJb K cs) := by
  refine F.okX scJb (fun vs H Q E h => ?_) (fun cdv A outer s H vs Q E hr h => ?_)
  · obtain ⟨x, i, j, rfl, _⟩ := h
    rfl
  obtain ⟨x, i, j, rfl, hx, hi, hj, q1, q2⟩ := h
  refine ⟨_, pss_cons (ps_if (pt_cmpR op_eq (pv 0) pe_str (nomark _)) (pss_one (ps_ret (pe_op op_add (pv 1) (pv 2)))) pss_nil)
    (pss_cons (ps_if (pt_cmpR op_eq (pv 0) pe_str (nomark _)) (pss_one (ps_ret (pe_op op_sub (pv 1) (pv 2)))) pss_nil)
    (pss_cons (ps_if (pt_cmpR op_eq (pv 0) pe_str (nomark _)) (pss_one (ps_ret (pe_op op_mulW (pv 1) (pv 2)))) pss_nil)
    (pss_cons (ps_if (pt_cmpR op_eq (pv 2) pe_int (nomark _)) (pss_one (ps_raise rfl (takes_of rfl rfl rfl rfl) (pmk_exB0 T.ex T.ini (by rfl) C.g0 (raises0 C)))) pss_nil)
    (pss_one (ps_ret (pe_op op_fdivL (pv 1) (pv 2))))))), ?_⟩
  have dec : ∀ y : Str, decide (V.str x = V.str y) = decide (x = y) := fun y => decide_eq_decide.mpr ⟨fun z => V.str.inj z, fun z => by rw [z]⟩
  unfold opP at q1 q2
  refine ⟨_, rfl, rfl, _, rfl, ite2 (fun z => ?_) (fun z => ?_)⟩
  · have z : x = "plus" := by simpa [dec] using z
    rw [if_pos z] at q2
    exact ⟨_, rfl, _, rfl, _, _, rfl, rfl, q2 _ rfl⟩
  have z1 : ¬ x = "plus" := by simpa [dec] using z
  rw [if_neg z1] at q1 q2
  refine ⟨_, rfl, rfl, _, rfl, ite2 (fun z => ?_) (fun z => ?_)⟩
  · have z : x = "less" := by simpa [dec] using z
    rw [if_pos z] at q2
    exact ⟨_, rfl, _, rfl, _, _, rfl, rfl, q2 _ rfl⟩
  have z2 : ¬ x = "less" := by simpa [dec] using z
  rw [if_neg z2] at q1 q2
  refine ⟨_, rfl, rfl, _, rfl, ite2 (fun z => ?_) (fun z => ?_)⟩
  · have z : x = "times" := by simpa [dec] using z
    rw [if_pos z] at q2
    exact ⟨_, rfl, _, rfl, _, _, rfl, rfl, (by unfold small17 at hi hj; show _ < 1000000; omega), q2 _ rfl⟩
  have z3 : ¬ x = "times" := by simpa [dec] using z
  rw [if_neg z3] at q1 q2
  refine ⟨_, rfl, rfl, _, rfl, ite2 (fun z => ?_) (fun z => ?_)⟩
  · have z : j = 0 := by simpa using z
    rw [if_pos z] at q1
    exact q1 rfl
  have z4 : ¬ j = 0 := by simpa using z
  rw [if_neg z4] at q2
  exact ⟨_, rfl, _, rfl, _, _, rfl, rfl, ⟨z4, by unfold small17 at hj; omega⟩, q2 _ rfl⟩
theorem tb_none : FnOk P w K mg base (L2.CX P w) 1 f fd ["part", "look"] (spTb K cs 0) := by
  have bad : ∀ vs H Q E, ¬ spTb K cs 0 vs H Q E := by
    rintro vs H Q E ⟨v, a, z, L, _, _, _, _, _, h, _⟩
    have := deep_pos z
    omega
  exact ⟨fun vs H Q E h => absurd h (bad vs H Q E), fun A outer s H args us vs Q E _ _ _ _ h => absurd h (bad vs H Q E)⟩
theorem tb_step (F : Fun K "told_by" "told_by" sTb f fd) {n : Nat} (G : FnOk P w K mg base (L2.CX P w) (n + 1) f fd ["part", "look"] (spTb K cs n)) (b : Binds K fd ["part", "look"] []) (gF : mg "told_by" = some (.ref f))
    (FJ : Fun K "_joined_by" "_joined_by" sJb g gd) (GJ : FnOk P w K mg base (L2.CX P w) 1 g gd ["word", "first", "second"] (spJb K cs)) (bJ : Binds K gd ["word", "first", "second"] []) (gJ : mg "_joined_by" = some (.ref g)) :
    FnOk P w K mg base (L2.CX P w) (n + 2) f fd ["part", "look"] (spTb K cs (n + 1)) := by
  refine F.okX scTb (fun vs H Q E h => ?_) (fun cdv A outer s H vs Q E hr h => ?_)
  · obtain ⟨v, a, z, L, rfl, _⟩ := h
    rfl
  obtain ⟨v, a, z, L, rfl, hL, nL, hd, ok, hn, hlv, hc, q1, q2⟩ := h
  have nd := scTb.nd
  have hu := hu_of hr
  refine ⟨_, pss_cons (ps_set (i := 2) nd rfl (.inl rfl) (pe_ix ix_tup (pv 0) pe_int (fun _ _ => rfl)))
    (pss_cons (ps_if (pt_cmpR op_eq (pv 2) pe_str (nomark _)) (pss_one (ps_ret (pe_dget hu (pv 1) (pe_tup (pa_cons (pe_ix ix_tup (pv 0) pe_int (fun _ _ => rfl)) (pa_cons (pe_ix ix_tup (pv 0) pe_int (fun _ _ => rfl)) pa_nil))) (fun _ _ => rfl)))) pss_nil)
    (pss_cons (ps_if (pt_cmpR op_eq (pv 2) pe_str (nomark _)) (pss_one (ps_ret (pe_ix ix_tup (pv 0) pe_int (fun _ _ => rfl)))) pss_nil)
    (pss_cons (ps_set (i := 3) nd rfl (.inl rfl) (pe_call G hr (by rfl) gF F.kp b .nil (passes_call (takes_of rfl rfl rfl rfl) (fun _ _ _ _ h => h)) (pa_cons (pe_ix ix_tup (pv 0) pe_int (fun _ _ => rfl)) (pa_cons (pv 1) pa_nil))))
    (pss_cons (ps_set (i := 4) nd rfl (.inl rfl) (pe_call G hr (by rfl) gF F.kp b .nil (passes_call (takes_of rfl rfl rfl rfl) (fun _ _ _ _ h => h)) (pa_cons (pe_ix ix_tup (pv 0) pe_int (fun _ _ => rfl)) (pa_cons (pv 1) pa_nil))))
    (pss_cons (ps_if (PW.pt (pw_or (pt_cmpR op_isN (pv 3) pe_non (nomark _)) (pw_or1 (pt_cmpR op_isN (pv 4) pe_non (nomark _))))) (pss_one (ps_ret pe_non)) pss_nil)
    (pss_one (ps_ret (pe_call GJ (hr.mono (by omega)) (by rfl) gJ FJ.kp bJ .nil (passes_call (takes_of rfl rfl rfl rfl) (fun _ _ _ _ h => h)) (pa_cons (pv 2) (pa_cons (pv 3) (pa_cons (pv 4) pa_nil))))))))))), ?_⟩
  obtain ⟨t, rfl, hz⟩ := pz_at hd
  have rf : Same H H := fun _ _ e => e
  cases z with
  | cell x y =>
    have hz : SqT K H t [.str "cell", .str x, .str y] := hz
    refine ⟨_, rfl, t, _, 0, _, rfl, rfl, hz, atI_nat (j := 0) rfl, ?_⟩
    refine ⟨_, rfl, rfl, _, rfl, ite2 (fun _ => ?_) (fun z => absurd z (by simp))⟩
    refine ⟨_, rfl, _, rfl, t, _, 1, _, rfl, rfl, hz, atI_nat (j := 1) rfl, _, rfl, t, _, 2, _, rfl, rfl, hz, atI_nat (j := 2) rfl, (by show 2 ≤ sizeLine; decide), fun k nk => ?_⟩
    have jk := new_same (o := .tup [.str x, .str y]) nk
    have ek : upd H k (.tup [.str x, .str y]) k = some (.tup ((keyOf (x, y)).map kV)) := upd_same
    have eL := jk _ _ hL
    obtain ⟨o, eo⟩ := hc (x, y) (by show (x, y) ∈ [(x, y)]; simp)
    refine ⟨a, wV o, rfl, ?_, ?_⟩
    · have := DGet.t (k := keyOf (x, y)) eL ek
      rw [enc_get, eo] at this
      exact this
    · exact q2 o (by show some ((getL L (x, y)).getD none) = some o; rw [eo]; rfl) _ jk
  | num i =>
    have hz : SqT K H t [.str "number", .int i] := hz
    refine ⟨_, rfl, t, _, 0, _, rfl, rfl, hz, atI_nat (j := 0) rfl, ?_⟩
    refine ⟨_, rfl, rfl, _, rfl, ite2 (fun z => absurd z (by simp; decide +kernel)) (fun _ => ?_)⟩
    refine ⟨_, rfl, rfl, _, rfl, ite2 (fun _ => ?_) (fun z => absurd z (by simp))⟩
    exact ⟨_, rfl, t, _, 1, _, rfl, rfl, hz, atI_nat (j := 1) rfl, q2 (some i) rfl _ rf⟩
  | op x p q =>
    obtain ⟨v1, v2, hz, d1, d2⟩ : ∃ v1 v2, SqT K H t [.str x, v1, v2] ∧ Dp K H v1 (pzD p) ∧ Dp K H v2 (pzD q) := hz
    obtain ⟨okw, ok1, ok2⟩ := ok
    obtain ⟨n1, n2⟩ := sign_not okw
    have hn : max (pzDeep p) (pzDeep q) + 1 ≤ n + 1 := hn
    have hlv : lv p + lv q ≤ 16 := hlv
    have lp := lv_pos p
    have lq := lv_pos q
    have hc : ∀ y ∈ cells p ++ cells q, hasL L y := hc
    have et : tellP L (.op x p q) = (match tellP L p, tellP L q with
      | some a, some b => both x a b
      | _, _ => none) := rfl
    rw [et] at q1 q2
    refine ⟨_, rfl, t, _, 0, _, rfl, rfl, hz, atI_nat (j := 0) rfl, ?_⟩
    refine ⟨_, rfl, rfl, _, rfl, ite2 (fun z => absurd z (by simpa using n1)) (fun _ => ?_)⟩
    refine ⟨_, rfl, rfl, _, rfl, ite2 (fun z => absurd z (by simpa using n2)) (fun _ => ?_)⟩
    refine ⟨_, rfl, t, _, 1, _, rfl, rfl, hz, atI_nat (j := 1) rfl, _, rfl, v1, a, p, L, rfl, hL, nL, d1, ok1, by omega, by omega, fun y hy => hc y (List.mem_append_left _ hy), fun e1 H1 s1 => ?_, fun o1 e1 H1 s1 => ?_⟩
    · exact q1 (by rw [e1]) _ s1
    refine ⟨_, rfl, t, _, 2, _, rfl, rfl, same_tup s1 hz, atI_nat (j := 2) rfl, _, rfl, v2, a, q, L, rfl, s1 _ _ hL, nL, Dp.same s1 _ d2, ok2, by omega, by omega, fun y hy => hc y (List.mem_append_right _ hy), fun e2 H2 s2 => ?_, fun o2 e2 H2 s2 => ?_⟩
    · exact q1 (by rw [e1, e2]) _ (s1.trans s2)
    rw [e1, e2] at q1 q2
    have q1 : both x o1 o2 = none → ∀ H', Same H H' → E (.ref (cs 0)) none H' := q1
    have q2 : ∀ o, both x o1 o2 = some o → ∀ H', Same H H' → Q (wV o) H' := q2
    have s12 := s1.trans s2
    cases o1 with
    | none => exact ⟨_, rfl, rfl, _, rfl, iteT (q2 none rfl _ s12)⟩
    | some i =>
    refine ⟨_, rfl, rfl, _, rfl, iteF ?_⟩
    cases o2 with
    | none => exact ⟨_, rfl, rfl, _, rfl, iteT (q2 none rfl _ s12)⟩
    | some j =>
    refine ⟨_, rfl, rfl, _, rfl, iteF ?_⟩
    exact ⟨_, rfl, _, rfl, _, rfl, x, i, j, rfl, okw, big_log (tell_big nL ok1 e1) (by omega), big_log (tell_big nL ok2 e2) (by omega), fun e => q1 e _ s12, fun o e => q2 o e _ s12⟩
theorem ok_tb (F : Fun K "told_by" "told_by" sTb f fd) (b : Binds K fd ["part", "look"] []) (gF : mg "told_by" = some (.ref f))
    (FJ : Fun K "_joined_by" "_joined_by" sJb g gd) (GJ : FnOk P w K mg base (L2.CX P w) 1 g gd ["word", "first", "second"] (spJb K cs)) (bJ : Binds K gd ["word", "first", "second"] []) (gJ : mg "_joined_by" = some (.ref g)) : ∀ n : Nat, FnOk P w K mg base (L2.CX P w) (n + 1) f fd ["part", "look"] (spTb K cs n)
  | 0 => tb_none
  | n + 1 => tb_step F (ok_tb F b gF FJ GJ bJ gJ n) b gF FJ GJ bJ gJ
end
end K03
end

section
set_option Elab.async false
set_option linter.all false
set_option maxRecDepth 100000
set_option maxHeartbeats 4000000
namespace K03
open PySem PySem.Spec PyProof.Rows L2 Gd
/-- a cut of a tuple that is not the whole of it: a new one -/
def rSlN (K : PySem.W.Frag) : V → Option Int → Option Int → Hp → VK → Prop := fun x lo hi H Q => ∃ a xs, x = .ref a ∧ SqT K H a xs ∧ HT.sIx xs.length 0 lo ≠ 0 ∧ ∀ p, H p = none → Q (.ref p) (upd H p (.tup (cutV xs lo hi)))
theorem sl_tupN (K : PySem.W.Frag) {X : Cx} (hK : X.K = K := by rfl) : SlR X (rSlN K) := by
  subst hK
  intro pins s σ H x v vl vu lo hi sl Q I rx hs pl pu h
  obtain ⟨a, xs, rfl, hx, nw, q⟩ := h
  exact sl_tupA pins s σ H _ v vl vu lo hi sl Q I rx hs pl pu ⟨a, xs, rfl, hx, fun w => absurd w.1 nw, fun _ p hp => q p hp⟩
theorem cut3 (x y z : V) : cutV [x, y, z] (some 1) none = [y, z] := by rfl
theorem cut3_nw : HT.sIx 3 0 (some 1) ≠ 0 := by decide
abbrev sQt : Stmt := topS 33
theorem scQt : FnScope ["_law_first", "_law_last", "_law_many"] ["_law_first", "_law_last"] (defScope sQt) := ⟨rfl, rfl, rfl, by decide +kernel, rfl, by decide +kernel, by decide +kernel⟩
def spQt (K : PySem.W.Frag) : Sp := fun vs H Q _ => ∃ (i j : Int), vs = [.int i, .int j] ∧ j ≠ 0 ∧ small17 i ∧ small17 j ∧ Q (.int (i.fdiv j)) H
abbrev sTd : Stmt := topS 34
abbrev nTd : List Str := ["_law_piece_here", "_law_worths_here", "_law_word", "_law_both", "_law_one", "_law_other"]
theorem scTd : FnScope nTd ["_law_piece_here", "_law_worths_here"] (defScope sTd) := ⟨rfl, rfl, rfl, by decide +kernel, rfl, by decide +kernel, by decide +kernel⟩
def resV : Option (Option Int) → List V
  | none => [.str "fault", .non]
  | some o => [.str "told", wV o]
def resD : Option (Option Int) → PyData
  | none => .tuple [.str "fault", .none]
  | some o => .tuple [.str "told", wD o]
def spTd (K : PySem.W.Frag) (n : Nat) : Sp := fun vs H Q _ => ∃ (v : V) (a : Addr) (z : Pz) (L : Lk), vs = [v, .ref a] ∧ LookAt H a L ∧ numsL L ∧ Dp K H v (pzD z) ∧ pzOk z ∧ pzDeep z ≤ n ∧ lv z ≤ 16 ∧ (∀ x ∈ cells z, hasL L x) ∧
  ∀ (r : Addr) (H' : Hp), Same H H' → H' r = some (.tup (resV (tellP L z))) → Q (.ref r) H'
theorem dp_w {K : PySem.W.Frag} {H : Hp} : ∀ o : Option Int, Dp K H (wV o) (wD o)
  | none => .non
  | some i => .int i
theorem dp_res {K : PySem.W.Frag} {H : Hp} {r : Addr} : ∀ {o : Option (Option Int)}, H r = some (.tup (resV o)) → Dp K H (.ref r) (resD o)
  | none, e => .tup (SqT.of e) (.cons (.str _) (.cons .non .nil))
  | some o, e => .tup (SqT.of e) (.cons (.str _) (.cons (dp_w o) .nil))
theorem res_shaped : ∀ o : Option (Option Int), SeqAt.shaped (resD o) = true
  | none => by decide +kernel
  | some none => by decide +kernel
  | some (some i) => by
    unfold resD wD SeqAt.shaped
    have e1 : (PyData.tuple [.str "told", .int i]).canLay0 = true := by
      simp only [PyData.canLay0, PyData.canLayAll0, Bool.and_true]
      decide +kernel
    have e2 : (PyData.tuple [.str "told", .int i]).depth ≤ 1 := by
      simp only [PyData.depth, PyData.depthAll]
      omega
    rw [e1]
    simp only [Bool.true_and, decide_eq_true_eq]
    omega
theorem both_shaped (o1 o2 : Option (Option Int)) : SeqAt.shaped (.list [resD o1, resD o2]) = true := by
  have c : ∀ o : Option (Option Int), (resD o).canLay0 = true ∧ (resD o).depth ≤ 1 := by
    intro o
    rcases o with _ | _ | i
    · exact ⟨by decide +kernel, by decide +kernel⟩
    · exact ⟨by decide +kernel, by decide +kernel⟩
    · unfold resD wD
      refine ⟨?_, ?_⟩
      · simp only [PyData.canLay0, PyData.canLayAll0, Bool.and_true]
        decide +kernel
      · simp only [PyData.depth, PyData.depthAll]
        omega
  obtain ⟨a1, b1⟩ := c o1
  obtain ⟨a2, b2⟩ := c o2
  unfold SeqAt.shaped
  have e : (PyData.list [resD o1, resD o2]).depth = PyData.depthAll [resD o1, resD o2] + 1 := by
    unfold PyData.depth
    rfl
  have e2 : PyData.depthAll [resD o1, resD o2] ≤ 1 := by
    simp only [PyData.depthAll]
    omega
  rw [e]
  simp only [PyData.canLay0, PyData.canLayAll0, a1, a2, Bool.and_true, Bool.true_and, decide_eq_true_eq]
  omega
theorem any_fault (o1 o2 : Option (Option Int)) : ([resD o1, resD o2].any fun z => PyData.eqv z (resD none)) = (o1.isNone || o2.isNone) := by
  have one : ∀ o : Option (Option Int), PyData.eqv (resD o) (resD none) = o.isNone := by
    intro o
    rcases o with _ | _ | i
    · decide +kernel
    · decide +kernel
    · unfold resD wD
      simp only [PyData.eqv, PyData.eqvAll]
      have : (Str.ofString "told" == Str.ofString "fault") = false := by decide +kernel
      rw [this]
      rfl
  simp only [List.any_cons, List.any_nil, one, Bool.or_false]
theorem if_ne (m b a : Nat) : (if (!decide (V.int (((m : Nat) : Int) * ((b : Nat) : Int)) = V.int ((a : Nat) : Int))) = true then (1 : Int) else 0) = (if m * b ≠ a then 1 else 0) := by
  have k : V.int (((m : Nat) : Int) * ((b : Nat) : Int)) = V.int ((a : Nat) : Int) ↔ m * b = a := by
    rw [← Int.natCast_mul]
    exact ⟨fun h => by have := V.int.inj h; omega, fun h => by rw [h]⟩
  by_cases c : m * b = a
  · rw [if_neg (by simpa using k.mpr c), if_neg (fun h => h c)]
  · rw [if_pos (by simp only [Bool.not_eq_true', decide_eq_false_iff_not]; exact fun h => c (k.mp h)), if_pos c]
section
variable {P : Program} {w : World} {K : PySem.W.Frag} {mg : Str → Option Value} {base : Heap} {f g : Addr} {fd gd : FuncData} {cs : Nat → Addr}
theorem ok_qt (F : Fun K "_law_quotient" "_law_quotient" sQt f fd) (ma : mg "abs" = none) (mi : mg "int" = none) : FnOk P w K mg base CX0 1 f fd ["_law_first", "_law_last"] (spQt K) := by
  refine F.ok scQt (fun vs H Q E h => ?_) (fun cdv A outer s H vs Q E hr h => ?_)
  · obtain ⟨i, j, rfl, _⟩ := h
    rfl
  obtain ⟨i, j, rfl, nz, hi, hj, q⟩ := h
  have nd := scQt.nd
  refine ⟨_, pss_cons (ps_set (i := 2) nd rfl (.inl rfl) (pe_op op_fdivL (pe_callB call_abs (by rfl) ma (by decide +kernel) (pa_cons (pv 0) pa_nil)) (pe_callB call_abs (by rfl) ma (by decide +kernel) (pa_cons (pv 1) pa_nil))))
    (pss_cons (ps_if (pt_cmpR op_eq (pe_cmpR op_lt (pv 0) pe_int (nomark _)) (pe_cmpR op_lt (pv 1) pe_int (nomark _)) (nomark _)) (pss_one (ps_ret (pv 2))) pss_nil)
    (pss_one (ps_ret (pe_op op_sub (pe_op op_sub pe_int (pv 2)) (pe_callTy call_int1 (by rfl) mi (by decide +kernel) (pa_cons (pe_cmpR op_ne (pe_op op_mulW (pv 2) (pe_callB call_abs (by rfl) ma (by decide +kernel) (pa_cons (pv 1) pa_nil))) (pe_callB call_abs (by rfl) ma (by decide +kernel) (pa_cons (pv 0) pa_nil)) (nomark _)) pa_nil)))))), ?_⟩
  have ai : (if i < 0 then -i else i) = ((i.natAbs : Nat) : Int) := by split <;> omega
  have aj : (if j < 0 then -j else j) = ((j.natAbs : Nat) : Int) := by split <;> omega
  have am : (if i < 0 then -i else i).fdiv (if j < 0 then -j else j) = ((i.natAbs / j.natAbs : Nat) : Int) := by
    rw [ai, aj, Int.fdiv_eq_ediv_of_nonneg _ (by omega)]
    rfl
  have lm : (i.natAbs / j.natAbs).log2 < 1700 := by
    unfold small17 at hi
    have le : i.natAbs / j.natAbs ≤ i.natAbs := Nat.div_le_self _ _
    by_cases z : i.natAbs / j.natAbs = 0
    · rw [z]; decide
    · have z2 : i.natAbs ≠ 0 := fun e => z (by rw [e]; exact Nat.zero_div _)
      exact (Nat.log2_lt z).mpr (Nat.lt_of_le_of_lt le ((Nat.log2_lt z2).mp hi))
  refine ⟨_, rfl, _, rfl, _, rfl, _, rfl, _, _, rfl, rfl, ⟨by rw [aj]; omega, by rw [aj, Int.natAbs_natCast]; unfold small17 at hj; omega⟩, ?_⟩
  refine ⟨_, rfl, _, _, rfl, rfl, _, rfl, _, _, rfl, rfl, rfl, _, rfl, ite2 (fun z => ?_) (fun z => ?_)⟩
  · have z : decide (i < 0) = decide (j < 0) := by simpa using z
    refine ⟨_, rfl, ?_⟩
    have e := (am.trans (quot_same nz z))
    have q' : Q (.int ((if i < 0 then -i else i).fdiv (if j < 0 then -j else j))) H := by rw [e]; exact q
    exact q'
  · have z : decide (i < 0) ≠ decide (j < 0) := by simpa using z
    have e := quot_other nz z
    have q' : Q (.int (0 - (if i < 0 then -i else i).fdiv (if j < 0 then -j else j) - (if (!decide (V.int ((if i < 0 then -i else i).fdiv (if j < 0 then -j else j) * (if j < 0 then -j else j)) = V.int (if i < 0 then -i else i))) = true then 1 else 0))) H := by
      rw [am, ai, aj]
      have e2 := if_ne (i.natAbs / j.natAbs) j.natAbs i.natAbs
      rw [e2, e]
      exact q
    refine ⟨_, rfl, _, _, rfl, rfl, _, rfl, _, rfl, _, rfl, _, _, rfl, rfl, ?_, _, rfl, _, rfl, rfl, .inr ⟨_, rfl, _, _, rfl, rfl, q'⟩⟩
    show _ < 1000000
    rw [am, aj, Int.natAbs_natCast, Int.natAbs_natCast]
    unfold small17 at hj
    omega
end
end K03
end

section
set_option Elab.async false
set_option linter.all false
set_option maxRecDepth 100000
set_option maxHeartbeats 4000000
namespace K03
open PySem PySem.Spec PyProof.Rows L2 Gd
theorem iteF' {b : Bool} {p q : Prop} (h : ¬ b = true) (y : q) : if b = true then p else q := by
  rw [if_neg h]
  exact y
theorem iteT' {b : Bool} {p q : Prop} (h : b = true) (y : p) : if b = true then p else q := by
  rw [if_pos h]
  exact y
section
variable {P : Program} {w : World} {K : PySem.W.Frag} {mg : Str → Option Value} {base : Heap} {f g : Addr} {fd gd : FuncData} {cs : Nat → Addr}
theorem td_none : FnOk P w K mg base CX0 2 f fd ["_law_piece_here", "_law_worths_here"] (spTd K 0) := by
  have bad : ∀ vs H Q E, ¬ spTd K 0 vs H Q E := by
    rintro vs H Q E ⟨v, a, z, L, _, _, _, _, _, h, _⟩
    have := deep_pos z
    omega
  exact ⟨fun vs H Q E h => absurd h (bad vs H Q E), fun A outer s H args us vs Q E _ _ _ _ h => absurd h (bad vs H Q E)⟩
theorem td_step (F : Fun K "_law_told" "_law_told" sTd f fd) {n : Nat} (G : FnOk P w K mg base CX0 (n + 2) f fd ["_law_piece_here", "_law_worths_here"] (spTd K n)) (b : Binds K fd ["_law_piece_here", "_law_worths_here"] []) (gF : mg "_law_told" = some (.ref f))
    (FQ : Fun K "_law_quotient" "_law_quotient" sQt g gd) (GQ : FnOk P w K mg base CX0 1 g gd ["_law_first", "_law_last"] (spQt K)) (bQ : Binds K gd ["_law_first", "_law_last"] []) (gQ : mg "_law_quotient" = some (.ref g)) :
    FnOk P w K mg base CX0 (n + 3) f fd ["_law_piece_here", "_law_worths_here"] (spTd K (n + 1)) := by
  refine F.ok scTd (fun vs H Q E h => ?_) (fun cdv A outer s H vs Q E hr h => ?_)
  · obtain ⟨v, a, z, L, rfl, _⟩ := h
    rfl
  obtain ⟨v, a, z, L, rfl, hL, nL, hd, ok, hn, hlv, hc, q⟩ := h
  have nd := scTd.nd
  have hu := hu_of hr
  have hu5 : (A.deeper (envOfC "_law_told" (defScope sTd) s.heap.objs.size f cdv)).units + 65 < cLine := by have := hr.un; omega
  refine ⟨_, pss_cons (ps_set (i := 2) nd rfl (.inl rfl) (pe_ix ix_tup (pv 0) pe_int (fun _ _ => rfl)))
    (pss_cons (ps_if (pt_cmpR op_eq (pv 2) pe_str (nomark _)) (pss_one (ps_ret (pe_tup (pa_cons pe_str (pa_cons (pe_dget hu (pv 1) (pe_slice (sl_tupN K) (pv 0) (po_some pe_int) po_none) (fun _ _ => rfl)) pa_nil))))) pss_nil)
    (pss_cons (ps_if (pt_cmpR op_eq (pv 2) pe_str (nomark _)) (pss_one (ps_ret (pe_tup (pa_cons pe_str (pa_cons (pe_ix ix_tup (pv 0) pe_int (fun _ _ => rfl)) pa_nil))))) pss_nil)
    (pss_cons (ps_setLc (i := 3) (own := [("_law_one", 4)]) (g := gName 4) (tt := tYes) rfl nd rfl rfl (by rfl) (pi_tup (pe_slice (sl_tupN K) (pv 0) (po_some pe_int) po_none)) (blkOk_by (N := nTd) (sc := defScope sTd) (by decide +kernel)) (fun _ _ _ _ _ => pg_name (i := 4) nd rfl (Or.inl rfl)) (fun _ _ _ _ _ => pts_nil)
      (fun _ _ _ _ _ => pe_call G hr (by rfl) gF F.kp b .nil pass0 (pa_cons (pv 4) (pa_cons (pv 1) pa_nil))))
    (pss_cons (ps_if (pt_cmpR (op_inD hu5) (pe_tup (pa_cons pe_str (pa_cons pe_non pa_nil))) (pv 3) (by with_unfolding_all rfl)) (pss_one (ps_ret (pe_tup (pa_cons pe_str (pa_cons pe_non pa_nil))))) pss_nil)
    (pss_cons (ps_par (i := 4) (j := 5) rfl nd rfl rfl (by decide) rfl rfl (pa_cons (pe_ix ix_tup (pe_ix ix_list (pv 3) pe_int (fun _ _ => rfl)) pe_int (fun _ _ => rfl)) (pa_cons (pe_ix ix_tup (pe_ix ix_list (pv 3) pe_int (fun _ _ => rfl)) pe_int (fun _ _ => rfl)) pa_nil)) (by rfl))
    (pss_cons (ps_if (PW.pt (pw_or (pt_cmpR op_isN (pv 4) pe_non (nomark _)) (pw_or1 (pt_cmpR op_isN (pv 5) pe_non (nomark _))))) (pss_one (ps_ret (pe_tup (pa_cons pe_str (pa_cons pe_non pa_nil))))) pss_nil)
    (pss_cons (ps_if (pt_cmpR op_eq (pv 2) pe_str (nomark _)) (pss_one (ps_ret (pe_ifExp (pt_cmpR op_eq (pv 5) pe_int (nomark _)) (pe_tup (pa_cons pe_str (pa_cons pe_non pa_nil))) (pe_tup (pa_cons pe_str (pa_cons (pe_call GQ (hr.mono (by omega)) (by rfl) gQ FQ.kp bQ .nil pass0 (pa_cons (pv 4) (pa_cons (pv 5) pa_nil))) pa_nil)))))) pss_nil)
    (pss_cons (ps_if (pt_cmpR op_eq (pv 2) pe_str (nomark _)) (pss_one (ps_ret (pe_tup (pa_cons pe_str (pa_cons (pe_op op_mulW (pv 4) (pv 5)) pa_nil))))) pss_nil)
    (pss_one (ps_ret (pe_tup (pa_cons pe_str (pa_cons (pe_ifExp (pt_cmpR op_eq (pv 2) pe_str (nomark _)) (pe_op op_add (pv 4) (pv 5)) (pe_op op_sub (pv 4) (pv 5))) pa_nil))))))))))))), ?_⟩
  obtain ⟨t, rfl, hz⟩ := pz_at hd
  have rf : Same H H := fun _ _ e => e
  cases z with
  | cell x y =>
    have hz : SqT K H t [.str "cell", .str x, .str y] := hz
    refine ⟨_, rfl, t, _, 0, _, rfl, rfl, hz, atI_nat (j := 0) rfl, ?_⟩
    refine ⟨_, rfl, rfl, _, rfl, ite2 (fun _ => ?_) (fun z => absurd z (by simp))⟩
    refine ⟨_, rfl, _, rfl, _, rfl, t, _, rfl, hz, cut3_nw, fun k nk => ?_⟩
    rw [cut3]
    have jk := new_same (o := .tup [.str x, .str y]) nk
    have ek : upd H k (.tup [.str x, .str y]) k = some (.tup ((keyOf (x, y)).map kV)) := upd_same
    have eL := jk _ _ hL
    generalize upd H k (.tup [.str x, .str y]) = H1 at jk ek eL ⊢
    obtain ⟨o, eo⟩ := hc (x, y) (by show (x, y) ∈ [(x, y)]; simp)
    refine ⟨a, wV o, rfl, ?_, (by show 2 ≤ sizeLine; decide), fun r nr => ?_⟩
    · have := DGet.t (k := keyOf (x, y)) eL ek
      rw [enc_get, eo] at this
      exact this
    · refine q r _ (jk.trans (new_same nr)) ?_
      have et : tellP L (.cell x y) = some o := by show some ((getL L (x, y)).getD none) = some o; rw [eo]; rfl
      rw [et]
      exact upd_same
  | num i =>
    have hz : SqT K H t [.str "number", .int i] := hz
    refine ⟨_, rfl, t, _, 0, _, rfl, rfl, hz, atI_nat (j := 0) rfl, ?_⟩
    refine ⟨_, rfl, rfl, _, rfl, ite2 (fun z => absurd z (by simp; decide +kernel)) (fun _ => ?_)⟩
    refine ⟨_, rfl, rfl, _, rfl, ite2 (fun _ => ?_) (fun z => absurd z (by simp))⟩
    exact ⟨_, rfl, t, _, 1, _, rfl, rfl, hz, atI_nat (j := 1) rfl, (by show 2 ≤ sizeLine; decide), fun r nr => q r _ (new_same nr) upd_same⟩
  | op x p q' =>
    obtain ⟨v1, v2, hz, d1, d2⟩ : ∃ v1 v2, SqT K H t [.str x, v1, v2] ∧ Dp K H v1 (pzD p) ∧ Dp K H v2 (pzD q') := hz
    obtain ⟨okw, ok1, ok2⟩ := ok
    obtain ⟨n1, n2⟩ := sign_not okw
    have hn : max (pzDeep p) (pzDeep q') + 1 ≤ n + 1 := hn
    have hlv : lv p + lv q' ≤ 16 := hlv
    have lp := lv_pos p
    have lq := lv_pos q'
    have hc : ∀ y ∈ cells p ++ cells q', hasL L y := hc
    have et : tellP L (.op x p q') = (match tellP L p, tellP L q' with
      | some a, some b => both x a b
      | _, _ => none) := rfl
    rw [et] at q
    refine ⟨_, rfl, t, _, 0, _, rfl, rfl, hz, atI_nat (j := 0) rfl, ?_⟩
    refine ⟨_, rfl, rfl, _, rfl, ite2 (fun z => absurd z (by simpa using n1)) (fun _ => ?_)⟩
    refine ⟨_, rfl, rfl, _, rfl, ite2 (fun z => absurd z (by simpa using n2)) (fun _ => ?_)⟩
    refine ⟨_, rfl, _, rfl, t, _, rfl, hz, cut3_nw, fun k nk => ?_⟩
    rw [cut3]
    have jk := new_same (o := .tup [v1, v2]) nk
    have ek : upd H k (.tup [v1, v2]) k = some (.tup [v1, v2]) := upd_same
    generalize upd H k (.tup [v1, v2]) = H1 at jk ek ⊢
    refine ⟨k, rfl, ⟨_, SqT.of ek⟩, fun B nB => ?_⟩
    refine lc_it (walk_tup (xs := [v1, v2])) (fun (i : Nat) (G : Hp) => Same H1 G ∧ ∃ rs : List Addr, G B = some (.lst (rs.map V.ref)) ∧ rs.length = i ∧ ∀ (j : Nat) (r : Addr) (zj : Pz), rs[j]? = some r → [p, q'][j]? = some zj → G r = some (.tup (resV (tellP L zj))))
      ⟨new_same nB, [], upd_same, rfl, fun j r zj e => by simp at e⟩ (fun i G _ h => SqT.of (h.1 _ _ ek)) ?_ ?_
    · rintro i y G0 G hi ⟨sG, rs, eB, lr, er⟩ ⟨rfl, ey⟩
      have hi : i < 2 := hi
      have key : ∃ z, [p, q'][i]? = some z ∧ Dp K G y (pzD z) ∧ pzOk z ∧ pzDeep z ≤ n ∧ lv z ≤ 16 ∧ ∀ c ∈ cells z, hasL L c := by
        have ey : [v1, v2][i]? = some y := ey
        have hi' : i = 0 ∨ i = 1 := by omega
        rcases hi' with rfl | rfl
        · obtain rfl : v1 = y := by simpa using ey
          exact ⟨p, rfl, Dp.same (jk.trans sG) _ d1, ok1, by omega, by omega, fun c hc' => hc c (List.mem_append_left _ hc')⟩
        · obtain rfl : v2 = y := by simpa using ey
          exact ⟨q', rfl, Dp.same (jk.trans sG) _ d2, ok2, by omega, by omega, fun c hc' => hc c (List.mem_append_right _ hc')⟩
      obtain ⟨z, ez, dz, okz, hz1, hz2, hz3⟩ := key
      refine ⟨rfl, ?_⟩
      refine ⟨_, rfl, _, rfl, y, a, z, L, rfl, sG _ _ (jk _ _ hL), nL, dz, okz, hz1, hz2, hz3, fun r G2 s2 er2 => ?_⟩
      have eB2 := s2 _ _ eB
      refine ⟨_, eB2, by rw [List.length_map]; show _ < 16777216; omega, fun c o e => ?_, rs ++ [r], ?_, by rw [List.length_append, lr]; rfl, fun j r' zj e1 e2 => ?_⟩
      · rw [upd_ne (ne_of_none e nB)]
        exact s2 _ _ (sG _ _ e)
      · rw [upd_same, List.map_append]
        rfl
      · have tup_ne : ∀ {c : Addr} {xs : List V}, G2 c = some (.tup xs) → c ≠ B := fun {c xs} e z => by
          rw [z, eB2] at e
          cases e
        by_cases c : j < rs.length
        · rw [List.getElem?_append_left c] at e1
          have := s2 _ _ (er j r' zj e1 e2)
          rw [upd_ne (tup_ne this)]
          exact this
        · have hj : j < (rs ++ [r]).length := (List.getElem?_eq_some_iff.mp e1).1
          rw [List.length_append, List.length_singleton] at hj
          have hj : j = rs.length := by omega
          rw [hj, List.getElem?_append_right (Nat.le_refl _), Nat.sub_self] at e1
          obtain rfl : r = r' := by simpa using e1
          rw [hj, lr, ez] at e2
          cases e2
          rw [upd_ne (tup_ne er2)]
          exact er2
    rintro G ⟨sG, rs, eB, lr, er⟩
    obtain ⟨r1, r2, rfl⟩ : ∃ r1 r2, rs = [r1, r2] := by
      match rs, lr with
      | [r1, r2], _ => exact ⟨r1, r2, rfl⟩
    have er1 := er 0 r1 p rfl rfl
    have er2 := er 1 r2 q' rfl rfl
    have eB : G B = some (.lst [.ref r1, .ref r2]) := eB
    have s0 : Same H G := jk.trans sG
    clear er sG jk ek nB
    refine ⟨(by show 2 ≤ sizeLine; decide), fun k2 nk2 => ?_⟩
    have j2 := new_same (o := .tup [.str "fault", .non]) nk2
    have ek2 : upd G k2 (.tup [.str "fault", .non]) k2 = some (.tup (resV none)) := upd_same
    have eB2 := j2 _ _ eB
    have e1' := j2 _ _ er1
    have e2' := j2 _ _ er2
    have s02 := s0.trans j2
    generalize upd G k2 (.tup [.str "fault", .non]) = G2 at j2 ek2 eB2 e1' e2' s02 ⊢
    refine ⟨_, rfl, resD none, [resD (tellP L p), resD (tellP L q')], dp_res ek2, .lst (SqL.of eB2) (.cons (dp_res e1') (.cons (dp_res e2') .nil)), res_shaped _, both_shaped _ _, ?_⟩
    rw [any_fault]
    cases o1 : tellP L p with
    | none =>
      rw [o1] at q
      exact ⟨_, rfl, iteT ⟨(by show 2 ≤ sizeLine; decide), fun r nr => q r _ (s02.trans (new_same nr)) upd_same⟩⟩
    | some w1 =>
    cases o2 : tellP L q' with
    | none =>
      rw [o1, o2] at q
      exact ⟨_, rfl, iteT ⟨(by show 2 ≤ sizeLine; decide), fun r nr => q r _ (s02.trans (new_same nr)) upd_same⟩⟩
    | some w2 =>
    rw [o1, o2] at q
    rw [o1] at e1'
    rw [o2] at e2'
    have q : ∀ (r : Addr) (H' : Hp), Same H H' → H' r = some (.tup (resV (both x w1 w2))) → Q (.ref r) H' := q
    refine ⟨_, rfl, iteF ?_⟩
    refine ⟨_, rfl, B, _, 0, _, rfl, rfl, SqL.of eB2, atI_nat (j := 0) rfl, r1, _, 1, wV w1, rfl, rfl, SqT.of e1', atI_nat (j := 1) rfl, ?_⟩
    refine ⟨_, rfl, B, _, 0 + 1, _, rfl, rfl, SqL.of eB2, atI_nat (j := 1) rfl, r2, _, 1, wV w2, rfl, rfl, SqT.of e2', atI_nat (j := 1) rfl, _, _, rfl, ?_⟩
    cases w1 with
    | none => exact ⟨_, rfl, rfl, _, rfl, iteT ⟨(by show 2 ≤ sizeLine; decide), fun r nr => q r _ (s02.trans (new_same nr)) upd_same⟩⟩
    | some i =>
    refine ⟨_, rfl, rfl, _, rfl, iteF ?_⟩
    cases w2 with
    | none => exact ⟨_, rfl, rfl, _, rfl, iteT ⟨(by show 2 ≤ sizeLine; decide), fun r nr => q r _ (s02.trans (new_same nr)) upd_same⟩⟩
    | some j =>
    refine ⟨_, rfl, rfl, _, rfl, iteF ?_⟩
    have bi : small17 i := big_log (tell_big nL ok1 o1) (by omega)
    have bj : small17 j := big_log (tell_big nL ok2 o2) (by omega)
    have dec : ∀ y : Str, decide (V.str x = V.str y) = decide (x = y) := fun y => decide_eq_decide.mpr ⟨fun z => V.str.inj z, fun z => by rw [z]⟩
    have q : ∀ (r : Addr) (H' : Hp), Same H H' → H' r = some (.tup (resV (opP x i j))) → Q (.ref r) H' := q
    have four : x = "plus" ∨ x = "less" ∨ x = "times" ∨ x = "over" := by
      have := okw
      unfold signs at this
      simpa using this
    rcases four with rfl | rfl | rfl | rfl
    · refine ⟨_, rfl, rfl, _, rfl, iteF' (by decide +kernel) ?_⟩
      refine ⟨_, rfl, rfl, _, rfl, iteF' (by decide +kernel) ?_⟩
      refine ⟨_, rfl, rfl, _, rfl, iteT' (by decide +kernel) ?_⟩
      exact ⟨_, rfl, _, rfl, _, _, rfl, rfl, (by show 2 ≤ sizeLine; decide), fun r nr => q r _ (s02.trans (new_same nr)) upd_same⟩
    · refine ⟨_, rfl, rfl, _, rfl, iteF' (by decide +kernel) ?_⟩
      refine ⟨_, rfl, rfl, _, rfl, iteF' (by decide +kernel) ?_⟩
      refine ⟨_, rfl, rfl, _, rfl, iteF' (by decide +kernel) ?_⟩
      exact ⟨_, rfl, _, rfl, _, _, rfl, rfl, (by show 2 ≤ sizeLine; decide), fun r nr => q r _ (s02.trans (new_same nr)) upd_same⟩
    · refine ⟨_, rfl, rfl, _, rfl, iteF' (by decide +kernel) ?_⟩
      refine ⟨_, rfl, rfl, _, rfl, iteT' (by decide +kernel) ?_⟩
      exact ⟨_, rfl, _, rfl, _, _, rfl, rfl, (by unfold small17 at bi bj; show _ < 1000000; omega), (by show 2 ≤ sizeLine; decide), fun r nr => q r _ (s02.trans (new_same nr)) upd_same⟩
    · refine ⟨_, rfl, rfl, _, rfl, iteT' (by decide +kernel) ?_⟩
      have eo : opP "over" i j = if j = 0 then none else some (some (i.fdiv j)) := by
        unfold opP
        rw [if_neg (by decide +kernel), if_neg (by decide +kernel), if_neg (by decide +kernel)]
      rw [eo] at q
      refine ⟨_, rfl, rfl, _, rfl, ?_⟩
      by_cases z : j = 0
      · rw [if_pos z] at q
        exact iteT' (by simp [z, wV]) ⟨(by show 2 ≤ sizeLine; decide), fun r nr => q r _ (s02.trans (new_same nr)) upd_same⟩
      · rw [if_neg z] at q
        refine iteF' (by simpa [wV] using z) ?_
        exact ⟨_, rfl, _, rfl, i, j, rfl, z, bi, bj, (by show 2 ≤ sizeLine; decide), fun r nr => q r _ (s02.trans (new_same nr)) upd_same⟩
theorem ok_td (F : Fun K "_law_told" "_law_told" sTd f fd) (b : Binds K fd ["_law_piece_here", "_law_worths_here"] []) (gF : mg "_law_told" = some (.ref f))
    (FQ : Fun K "_law_quotient" "_law_quotient" sQt g gd) (GQ : FnOk P w K mg base CX0 1 g gd ["_law_first", "_law_last"] (spQt K)) (bQ : Binds K gd ["_law_first", "_law_last"] []) (gQ : mg "_law_quotient" = some (.ref g)) :
    ∀ n : Nat, FnOk P w K mg base CX0 (n + 2) f fd ["_law_piece_here", "_law_worths_here"] (spTd K n)
  | 0 => td_none
  | n + 1 => td_step F (ok_td F b gF FQ GQ bQ gQ n) b gF FQ GQ bQ gQ
end
end K03
end

section
set_option Elab.async false
set_option linter.all false
set_option maxRecDepth 100000
set_option maxHeartbeats 4000000
/-! repr of a part and a look. -/
namespace K03
open PySem PySem.Spec PyProof.Rows L2 Gd
def lookD (L : Lk) : PyData := .dict (L.map fun p => (cellD p.1, wD p.2))
def pairD (z : Pz) (L : Lk) : PyData := .tuple [pzD z, lookD L]
section
variable {X : Cx} {pins : List (Addr × Obj)} {σ : L2.St} {H : Hp} {s : Shared}
theorem key_reads (I : Inv X pins σ H s) {k : Addr} {x : Str × Str} (e : H k = some (.tup ((keyOf x).map kV))) : Reads s.heap (.ref k) (cellD x) [] := by
  obtain ⟨its, rv, pl, _⟩ := I.tuple (SqT.of e)
  obtain ⟨o, ho, hc, n, hd⟩ := pl
  cases rv with
  | cons r1 rv =>
  cases rv with
  | cons r2 rv =>
  cases rv
  obtain ⟨t1, rfl⟩ := r1
  obtain ⟨t2, rfl⟩ := r2
  exact .tuple ho hc hd (.cons (as := []) (bs := []) (.str _ _) (.cons (as := []) (bs := []) (.str _ _) .nil))
theorem w_reads {o : Option Int} {u : Value} (r : RelV (wV o) u) : Reads s.heap u (wD o) [] := by
  cases o with
  | none =>
    cases r
    exact .none
  | some i =>
    obtain ⟨t, rfl⟩ := r
    exact .int i t
theorem ents_reads (I : Inv X pins σ H s) : ∀ (L : Lk) (xs : List (List Key × Addr × Value)), Paired (fun (p : List Key × V) (q : List Key × Addr × Value) => p.1 = q.1 ∧ H q.2.1 = some (.tup (p.1.map kV)) ∧ RelV p.2 q.2.2) (encL L) xs →
    ReadsAll s.heap ((xs.map (entryOfKey (tupleKind (mixKind X.prog X.w)))).map (·.key)) (L.map fun p => cellD p.1) [] ∧ ReadsAll s.heap ((xs.map (entryOfKey (tupleKind (mixKind X.prog X.w)))).map (·.val)) (L.map fun p => wD p.2) []
  | [], xs, h => by
    cases h
    exact ⟨.nil, .nil⟩
  | p :: L, xs, h => by
    cases h with
    | cons h1 h2 =>
    obtain ⟨a, b⟩ := ents_reads I L _ h2
    obtain ⟨_, e2, e3⟩ := h1
    exact ⟨.cons (as := []) (bs := []) (key_reads I e2) a, .cons (as := []) (bs := []) (w_reads e3) b⟩
theorem look_reads (I : Inv X pins σ H s) {a : Addr} {L : Lk} (h : LookAt H a L) : Reads s.heap (.ref a) (lookD L) [a] ∧ (a == sysModules) = false := by
  obtain ⟨_, g, xs, rel, o, es, ep, ho, ex, hd, hes, _⟩ := (show ObjOk X.prog X.w H s.heap a (.dT (encL L)) from I.hok a _ h)
  obtain ⟨k1, k2⟩ := ents_reads I L xs rel
  rw [← hes] at k1 k2
  refine ⟨?_, g⟩
  refine .dict (as := []) (bs := []) ho ex.1 hd ?_ ?_
  · rw [List.map_map]
    exact k1
  · rw [List.map_map]
    exact k2
end
def rReprP (K : PySem.W.Frag) : List V → Hp → VK → Prop := fun xs H Q => ∃ (x : Addr) (v : V) (a : Addr) (z : Pz) (L : Lk), xs = [.ref x] ∧ SqT K H x [v, .ref a] ∧ Dp K H v (pzD z) ∧ LookAt H a L ∧
  (pairD z L).showable = true ∧ (pairD z L).shown.length ≤ sizeLine ∧ (pairD z L).depth ≤ 60 ∧ Q (.str (pairD z L).shown) H
theorem call_reprP {X : Cx} (g : Free X.A) (hu : X.A.units + 64 < cLine) : CallR X (.builtin "repr") (rReprP X.K) := by
  intro pins s σ H xs us Q I r h
  obtain ⟨x, v, a, z, L, rfl, hx, hv, hL, hs, hz, hdp, q⟩ := h
  obtain ⟨u, rfl, ru⟩ := r.one
  cases ru
  obtain ⟨its, rv, pl, _⟩ := I.tuple hx
  obtain ⟨o, ho, hc, n, hd⟩ := pl
  cases rv with
  | @cons _ u1 _ _ r1 rv =>
  cases rv with
  | @cons _ u2 _ _ r2 rv =>
  cases rv
  cases r2
  obtain ⟨as, rd, hn⟩ := Dg.reads (N := fun _ => False) I (pzD z) v u1 (Dg.ofDp _ (pz_only z) hv) r1
  obtain ⟨rl, gl⟩ := look_reads I hL
  have fin : ∀ (h' : Heap) (tk tk' : Nat), (∀ b o, s.heap.get? b = some o → h'.get? b = some o) →
      EP X pins σ Q (.str (pairD z L).shown tk) { s with heap := h', toks := tk' } :=
    fun h' tk tk' k => ⟨.str (pairD z L).shown, H, I.kept k, ⟨tk, rfl⟩, q⟩
  have rd2 : Reads s.heap (.ref x) (pairD z L) (as ++ ([a] ++ [])) := .tuple ho hc hd (.cons rd (.cons rl .nil))
  have nin : sysModules ∉ as ++ ([a] ++ []) := fun m => by
    rcases List.mem_append.mp m with m | m
    · exact hn m
    · have : sysModules = a := by simpa using m
      rw [← this] at gl
      simp at gl
  exact repr_of_reads' rd2 hs (fun _ => nin) g (by omega) (fun _ _ e => e) (fun h' u tk k => fin h' u tk k) hz
end K03
end

section
set_option Elab.async false
set_option linter.all false
set_option maxRecDepth 100000
set_option maxHeartbeats 4000000
namespace K03
open PySem PySem.Spec PyProof.Rows L2 Gd
abbrev sWo : Stmt := topS 32
abbrev nWo : List Str := ["_law_feed_here", "_law_piece_here", "_law_found", "_law_often", "_law_one", "_law_worth"]
theorem scWo : FnScope nWo ["_law_feed_here", "_law_piece_here"] (defScope sWo) := ⟨rfl, rfl, rfl, by decide +kernel, rfl, by decide +kernel, by decide +kernel⟩
def cellOf : Pz → Option (Str × Str)
  | .cell x y => some (x, y)
  | _ => none
theorem cells_of_all (z : Pz) : cells z = (allP z).filterMap cellOf := by
  rw [cells_all]
  congr 1
theorem all_ok : ∀ {z : Pz}, pzOk z → ∀ p ∈ allP z, pzOk p
  | .cell _ _, h, p, hp => by rw [List.mem_singleton.mp hp]; exact h
  | .num _, h, p, hp => by rw [List.mem_singleton.mp hp]; exact h
  | .op w a b, h, p, hp => by
    have hp : p ∈ [Pz.op w a b] ++ allP a ++ allP b := hp
    rcases List.mem_append.mp hp with q | q
    · rcases List.mem_append.mp q with q | q
      · rw [List.mem_singleton.mp q]; exact h
      · exact all_ok h.2.1 p q
    · exact all_ok h.2.2 p q
def labsL (L : Lk) : Prop := ∀ p ∈ L, isLab p.1.1 = true ∧ isLab p.1.2 = true
def more2 : List Pz := [.cell "a" "a", .cell "zz" "b"]
theorem more2_ok : ∀ p ∈ more2, pzOk p := by
  intro p hp
  simp only [more2, List.mem_cons, List.not_mem_nil, or_false] at hp
  rcases hp with rfl | rfl
  · exact ⟨by decide +kernel, by decide +kernel⟩
  · exact ⟨by decide +kernel, by decide +kernel⟩
def spWo (K : PySem.W.Frag) : Sp := fun vs H Q _ => ∃ (p : Addr) (v : V) (z : Pz) (S : Int), vs = [.ref p, v] ∧ Feed H p S ∧ S ≤ 1000000 ∧ Dp K H v (pzD z) ∧ pzOk z ∧ pzDeep z ≤ 5 ∧ pzMany z ≤ 31 ∧
  ∀ (a : Addr) (L : Lk) (H' : Hp), Ex1 p H H' → H a = none → LookAt H' a L → numsL L → labsL L → (∀ x ∈ cells z, hasL L x) → L.length ≤ 40 → Feed H' p (S + 200) → Q (.ref a) H'
theorem tups_two {K : PySem.W.Frag} {p q : Addr} {H H1 : Hp} {xs : List V} {kvs : List (List Key × V)} (a : ∀ b o, b ≠ p → b ≠ q → H b = some o → H1 b = some o) (hp : H p = some (.lst xs)) (hq : H q = some (.dT kvs)) : Tups K H H1 := by
  intro b zs z
  have go : ∀ {o : HO}, H b = some o → (∀ xs, o ≠ .lst xs) → (∀ k, o ≠ .dT k) → H1 b = some o := fun {o} e n1 n2 => a b o (fun y => by rw [y, hp] at e; exact n1 _ (Option.some.inj e).symm) (fun y => by rw [y, hq] at e; exact n2 _ (Option.some.inj e).symm) e
  rcases z with (z | ⟨o, z⟩) | z
  · exact .inl (.inl (go z (fun _ y => nomatch y) (fun _ y => nomatch y)))
  · exact .inl (.inr ⟨o, go z (fun _ y => nomatch y) (fun _ y => nomatch y)⟩)
  · exact .inr z
section
variable {P : Program} {w : World} {K : PySem.W.Frag} {mg : Str → Option Value} {base : Heap} {f fT fN fA : Addr} {fd dT dN dA : FuncData}
theorem ok_wo (F : Fun K "_law_worths" "_law_worths" sWo f fd) (mi : mg "int" = none)
    (FT : Fun K "_law_take" "_law_take" sTake fT dT) (GT : FnOk P w K mg base CX0 1 fT dT ["_law_feed_here", "_law_many"] spTake) (gT : mg "_law_take" = some (.ref fT)) (bT : Binds K dT ["_law_feed_here", "_law_many"] [])
    (FN : Fun K "_law_number" "_law_number" sNum fN dN) (GN : FnOk P w K mg base CX0 2 fN dN ["_law_feed_here"] spNum) (gN : mg "_law_number" = some (.ref fN)) (bN : Binds K dN ["_law_feed_here"] [])
    (FA : Fun K "_law_all" "_law_all" sAl fA dA) (GA : FnOk P w K mg base CX0 6 fA dA ["_law_piece_here"] (spAl K 5)) (gA : mg "_law_all" = some (.ref fA)) (bA : Binds K dA ["_law_piece_here"] []) :
    FnOk P w K mg base CX0 7 f fd ["_law_feed_here", "_law_piece_here"] (spWo K) := by
  refine F.ok scWo (fun vs H Q E h => ?_) (fun cdv A outer s H vs Q E hr h => ?_)
  · obtain ⟨p, v, z, S, rfl, _⟩ := h
    rfl
  obtain ⟨p, v, z, S, rfl, hF, hS, hd, ok, h5, h31, q⟩ := h
  have nd := scWo.nd
  have hu := hu_of hr
  have r1 : Room 1 _ := hr.mono (by decide)
  have zl : sizeLine = 16777216 := rfl
  refine ⟨_, pss_cons (ps_set (i := 2) nd rfl (.inl rfl) pe_dnewT)
    (pss_cons (ps_set (i := 3) nd rfl (.inl rfl) (pe_op op_add pe_int (pe_call GT r1 (by rfl) gT FT.kp bT .nil pass0 (pa_cons (pv 0) (pa_cons pe_int pa_nil)))))
    (pss_cons (ps_for PassesOwn.never rfl (pi_list (pe_op op_cat (pe_call GA hr (by rfl) gA FA.kp bA .nil pass0 (pa_cons (pv 1) pa_nil)) (pe_lst (pa_cons (pe_tup (pa_cons pe_str (pa_cons pe_str (pa_cons pe_str pa_nil)))) (pa_cons (pe_tup (pa_cons pe_str (pa_cons pe_str (pa_cons pe_str pa_nil)))) pa_nil))))) (pg_name (i := 4) nd rfl (.inl rfl))
      (pss_one (ps_if (pt_cmpR op_eq (pe_ix ix_tup (pv 4) pe_int (fun _ _ => rfl)) pe_str (nomark _))
        (pss_cons (ps_set (i := 5) nd rfl (.inl rfl) (pe_ix ix_list (pe_lst (pa_cons (pe_call GN (hr.mono (by decide)) (by rfl) gN FN.kp bN .nil pass0 (pa_cons (pv 0) pa_nil)) (pa_cons (pe_op op_sub (pe_call GT r1 (by rfl) gT FT.kp bT .nil pass0 (pa_cons (pv 0) (pa_cons pe_int pa_nil))) pe_int) (pa_cons pe_int pa_nil)))) (pe_call GT r1 (by rfl) gT FT.kp bT .nil pass0 (pa_cons (pv 0) (pa_cons pe_int pa_nil))) (fun _ _ => rfl)))
        (pss_one (ps_dput hu (pv 2) (pe_slice (sl_tupN K) (pv 4) (po_some pe_int) po_none) (pe_ix ix_list (pe_lst (pa_cons (pv 5) (pa_cons pe_non pa_nil))) (pe_callTy call_int1 (by rfl) mi (by decide +kernel) (pa_cons (pe_cmpR op_eq (pe_call GT r1 (by rfl) gT FT.kp bT .nil pass0 (pa_cons (pv 0) (pa_cons (pv 3) pa_nil))) pe_int (nomark _)) pa_nil)) (fun _ _ => rfl)) rfl))) pss_nil)))
    (pss_one (ps_ret (pv 2))))), ?_⟩
  refine fun D nD => ?_
  have nDp : D ≠ p := hF.ne nD
  have F1 := hF.stays (o := .dT []) nD
  have e1 : upd H D (.dT []) D = some (.dT []) := upd_same
  have k1 := new_same (o := .dT []) nD
  have d1 := Dp.same k1 _ hd
  generalize upd H D (.dT []) = H1 at F1 e1 k1 d1 ⊢
  refine ⟨_, rfl, p, 6, S, rfl, F1, by decide, by decide, by omega, fun r H2 r0 r1' F2 x2 => ⟨_, _, rfl, rfl, ?_⟩⟩
  have e2 := x2 _ _ nDp e1
  have d2 : Dp K H2 v (pzD z) := by
    obtain ⟨g, y, s0, ep, _⟩ := F1
    exact Dp.tups (x2.tups ep) _ (pz_only z) d1
  refine ⟨_, rfl, v, z, rfl, d2, ok, h5, by omega, fun us b H3 s3 nb eb db => ?_⟩
  refine ⟨(by show 3 ≤ sizeLine; decide), fun t1 nt1 => ?_⟩
  have j1 := new_same (o := .tup [.str "cell", .str "a", .str "a"]) nt1
  have q1 : Dp K (upd H3 t1 (.tup [.str "cell", .str "a", .str "a"])) (.ref t1) (pzD (.cell "a" "a")) := .tup (SqT.of upd_same) (.cons (.str _) (.cons (.str _) (.cons (.str _) .nil)))
  generalize upd H3 t1 (.tup [.str "cell", .str "a", .str "a"]) = H4 at j1 q1 ⊢
  refine ⟨(by show 3 ≤ sizeLine; decide), fun t2 nt2 => ?_⟩
  have j2 := new_same (o := .tup [.str "cell", .str "zz", .str "b"]) nt2
  have q2 : Dp K (upd H4 t2 (.tup [.str "cell", .str "zz", .str "b"])) (.ref t2) (pzD (.cell "zz" "b")) := .tup (SqT.of upd_same) (.cons (.str _) (.cons (.str _) (.cons (.str _) .nil)))
  have q1 := Dp.same j2 _ q1
  generalize upd H4 t2 (.tup [.str "cell", .str "zz", .str "b"]) = H5 at j2 q1 q2 ⊢
  refine ⟨(by show 2 ≤ sizeLine; decide), fun l2 nl2 => ?_⟩
  have j3 := new_same (o := .lst [.ref t1, .ref t2]) nl2
  have el2 : upd H5 l2 (.lst [.ref t1, .ref t2]) l2 = some (.lst [.ref t1, .ref t2]) := upd_same
  have q1 := Dp.same j3 _ q1
  have q2 := Dp.same j3 _ q2
  generalize upd H5 l2 (.lst [.ref t1, .ref t2]) = H6 at j3 el2 q1 q2 ⊢
  have s36 := (j1.trans j2).trans j3
  have lus : us.length = pzMany z := by rw [DpAll.len db, List.length_map, all_len]
  refine ⟨b, l2, _, _, rfl, rfl, s36 _ _ eb, el2, (by show us.length + 2 ≤ sizeLine; omega), fun C nC => ?_⟩
  have j4 := new_same (o := .lst (us ++ [.ref t1, .ref t2])) nC
  have eC : upd H6 C (.lst (us ++ [.ref t1, .ref t2])) C = some (.lst (us ++ [.ref t1, .ref t2])) := upd_same
  obtain ⟨ws, hws⟩ : ∃ ws, ws = us ++ [V.ref t1, .ref t2] := ⟨_, rfl⟩
  obtain ⟨zs, hzs⟩ : ∃ zs, zs = allP z ++ more2 := ⟨_, rfl⟩
  have dall : DpAll K (upd H6 C (.lst (us ++ [.ref t1, .ref t2]))) ws (zs.map pzD) := by
    rw [hws, hzs, List.map_append]
    exact DpAll.same j4 _ (dp_append (DpAll.same s36 _ db) (.cons q1 (.cons q2 .nil)))
  rw [← hws] at eC
  have lzs : zs.length = pzMany z + 2 := by rw [hzs, List.length_append, all_len]; rfl
  have lws : ws.length = pzMany z + 2 := by rw [hws, List.length_append, lus]; rfl
  have okz : ∀ y ∈ zs, pzOk y := fun y hy => by
    rw [hzs] at hy
    rcases List.mem_append.mp hy with hy | hy
    · exact all_ok ok y hy
    · exact more2_ok y hy
  have s6 := (s3.trans s36).trans j4
  have nCp : C ≠ p := by
    obtain ⟨g, y, s0, ep, _⟩ := F2
    exact (ne_of_none ((s3.trans s36) _ _ ep) nC).symm
  have nCD : C ≠ D := (ne_of_none ((s3.trans s36) _ _ e2) nC).symm
  have F6 : Feed (upd H6 C (.lst (us ++ [.ref t1, .ref t2]))) p (S + 1) := by
    obtain ⟨g, y, s0, ep, rest⟩ := F2
    exact ⟨g, y, s0, s6 _ _ ep, rest⟩
  have e6 := s6 _ _ e2
  have frame : ∀ c o, c ≠ p → H c = some o → upd H6 C (.lst (us ++ [.ref t1, .ref t2])) c = some o := fun c o n e => s6 _ _ (x2 _ _ n (k1 _ _ e))
  rw [← hws] at dall F6 e6 frame ⊢
  generalize upd H6 C (.lst ws) = H7 at dall eC F6 e6 frame ⊢
  clear j1 j2 j3 j4 q1 q2 s36 s6 nC el2 db eb nb s3 hws e2 d2 x2 F2 e1 F1 d1
  refine ⟨C, rfl, ⟨_, SqL.of eC⟩, ?_⟩
  refine for_it (walk_list (xs := ws)) (fun i σ G => (∃ v4 v5, σ = [some (.ref p), some v, some (.ref D), some (.int (2 + r)), v4, v5]) ∧ Feed G p (S + 1 + 5 * (i : Int)) ∧ (∀ c o, c ≠ p → c ≠ D → H7 c = some o → G c = some o) ∧
      ∃ L, G D = some (.dT (encL L)) ∧ numsL L ∧ labsL L ∧ L.length ≤ i ∧ ∀ j zj x, j < i → zs[j]? = some zj → cellOf zj = some x → hasL L x)
    ⟨⟨none, none, rfl⟩, F6.le (by omega), fun c o _ _ e => e, [], e6, fun _ h => absurd h (by simp), fun _ h => absurd h (by simp), Nat.le_refl _, fun j zj x hj => absurd hj (by omega)⟩ (fun i σ G _ h => SqL.of (h.2.2.1 _ _ nCp nCD eC)) ?_ ?_
  · rintro i y σ G G' hi ⟨⟨v4, v5, rfl⟩, FG, fr, L, eD, nu, la, ll, has⟩ ⟨rfl, ey⟩
    have hi : i < pzMany z + 2 := by rw [← lws]; exact hi
    obtain ⟨d, ed, dd⟩ := DpAll.at_ dall ey
    obtain ⟨zi, ez, rfl⟩ : ∃ zi, zs[i]? = some zi ∧ d = pzD zi := by
      rw [List.getElem?_map] at ed
      obtain ⟨zi, h1, h2⟩ := Option.map_eq_some_iff.mp ed
      exact ⟨zi, h1, h2.symm⟩
    have tps : Tups K H7 G' := by
      obtain ⟨g, x, s0, ep, _⟩ := F6
      exact tups_two fr ep e6
    obtain ⟨t, rfl, hz⟩ := pz_at (Dp.tups tps _ (pz_only zi) dd)
    have skip : cellOf zi = none → ∀ j zj x, j < i + 1 → zs[j]? = some zj → cellOf zj = some x → hasL L x := fun e j zj x hj h1 h2 => by
      by_cases c : j = i
      · rw [c, ez] at h1
        cases h1
        rw [e] at h2
        cases h2
      · exact has j zj x (by omega) h1 h2
    cases zi with
    | num k =>
      have hz : SqT K G' t [.str "number", .int k] := hz
      refine ⟨_, rfl, t, _, 0, _, rfl, rfl, hz, atI_nat (j := 0) rfl, rfl, _, rfl, ite2 (fun z => absurd z (by simp; decide +kernel)) (fun _ => ?_)⟩
      exact ⟨⟨_, _, rfl⟩, FG.le (by omega), fr, L, eD, nu, la, by omega, skip rfl⟩
    | op x a c =>
      obtain ⟨v1, v2, hz, _⟩ : ∃ v1 v2, SqT K G' t [.str x, v1, v2] ∧ _ := hz
      have n1 := (sign_not (okz _ (List.mem_of_getElem? ez)).1).1
      refine ⟨_, rfl, t, _, 0, _, rfl, rfl, hz, atI_nat (j := 0) rfl, rfl, _, rfl, ite2 (fun z => absurd z (by simpa using n1)) (fun _ => ?_)⟩
      exact ⟨⟨_, _, rfl⟩, FG.le (by omega), fr, L, eD, nu, la, by omega, skip rfl⟩
    | cell x1 y1 =>
      have hz : SqT K G' t [.str "cell", .str x1, .str y1] := hz
      have lab := okz _ (List.mem_of_getElem? ez)
      refine ⟨_, rfl, t, _, 0, _, rfl, rfl, hz, atI_nat (j := 0) rfl, rfl, _, rfl, ite2 (fun _ => ?_) (fun z => absurd z (by simp))⟩
      refine ⟨_, rfl, p, S + 1 + 5 * (i : Int), rfl, FG, by omega, fun n1 G1 x1' F1 num => ?_⟩
      refine ⟨_, rfl, p, 5, S + 1 + 5 * (i : Int) + 2, rfl, F1, by decide, by decide, by omega, fun r5 G2 r50 r51 F2 x2 => ⟨_, _, rfl, rfl, (by show 3 ≤ sizeLine; decide), fun B1 nB1 => ?_⟩⟩
      have jb := new_same (o := .lst [.int n1, .int (r5 - 2), .int 0]) nB1
      have eB1 : upd G2 B1 (.lst [.int n1, .int (r5 - 2), .int 0]) B1 = some (.lst [.int n1, .int (r5 - 2), .int 0]) := upd_same
      have nB1p : B1 ≠ p := F2.ne nB1
      have F2' := F2.stays (o := .lst [.int n1, .int (r5 - 2), .int 0]) nB1
      have x02 : Ex1 p G' (upd G2 B1 (.lst [.int n1, .int (r5 - 2), .int 0])) := fun c o n e => jb _ _ (x2 _ _ n (x1' _ _ n e))
      generalize upd G2 B1 (.lst [.int n1, .int (r5 - 2), .int 0]) = G3 at jb eB1 F2' x02 ⊢
      refine ⟨_, rfl, p, 3, S + 1 + 5 * (i : Int) + 2 + 1, rfl, F2', by decide, by decide, by omega, fun r6 G4 r60 r61 F4 x4 => ?_⟩
      obtain ⟨wt, hwt, ewt⟩ := at_map (f := V.int) (xs := [n1, r5 - 2, 0]) (r := r6) r60 (by simpa using r61)
      refine ⟨B1, _, _, .int wt, rfl, rfl, SqL.of (x4 _ _ nB1p eB1), ewt, ?_⟩
      have bw : wt.natAbs ≤ 10 ^ 30 := by
        have nb : -(10 ^ 30 : Int) < n1 ∧ n1 < 10 ^ 30 := by simpa [isNum] using num
        simp only [List.mem_cons, List.not_mem_nil, or_false] at hwt
        rcases hwt with rfl | rfl | rfl <;> omega
      have x04 : Ex1 p G' G4 := fun c o n e => x4 _ _ n (x02 _ _ n e)
      refine ⟨_, rfl, (by show 2 ≤ sizeLine; decide), fun B2 nB2 => ?_⟩
      have jb2 := new_same (o := .lst [.int wt, .non]) nB2
      have eB2 : upd G4 B2 (.lst [.int wt, .non]) B2 = some (.lst [.int wt, .non]) := upd_same
      have nB2p : B2 ≠ p := F4.ne nB2
      have F4' := F4.stays (o := .lst [.int wt, .non]) nB2
      have x05 : Ex1 p G' (upd G4 B2 (.lst [.int wt, .non])) := fun c o n e => jb2 _ _ (x04 _ _ n e)
      generalize upd G4 B2 (.lst [.int wt, .non]) = G5 at jb2 eB2 F4' x05 ⊢
      refine ⟨_, rfl, _, rfl, p, 2 + r, S + 1 + 5 * (i : Int) + 2 + 1 + 1, rfl, F4', by omega, by omega, by omega, fun r7 G6 r70 r71 F6' x6 => ?_⟩
      have x06 : Ex1 p G' G6 := fun c o n e => x6 _ _ n (x05 _ _ n e)
      have eB6 := x6 _ _ nB2p eB2
      have eD6 := x06 _ _ nDp eD
      obtain ⟨g0, y0, s0, ep0, _⟩ := id FG
      have hz6 : SqT K G6 t [.str "cell", .str x1, .str y1] := Ex1.tups x06 ep0 _ _ hz
      obtain ⟨wo, ewo, bwo⟩ : ∃ wo : Option Int, atI [V.int wt, V.non] (if decide (V.int r7 = V.int 0) = true then 1 else 0) = some (wV wo) ∧ ∀ k, wo = some k → k.natAbs ≤ 10 ^ 30 := by
        by_cases c : r7 = 0
        · refine ⟨none, ?_, fun k h => nomatch h⟩
          rw [if_pos (by simp [c])]
          exact atI_nat (j := 1) rfl
        · refine ⟨some wt, ?_, fun k h => by cases h; exact bw⟩
          rw [if_neg (by simpa using c)]
          exact atI_nat (j := 0) rfl
      refine ⟨rfl, .inr ⟨_, rfl, B2, _, _, wV wo, rfl, rfl, SqL.of eB6, ewo, ?_⟩⟩
      refine ⟨_, rfl, _, rfl, _, rfl, t, _, rfl, hz6, cut3_nw, fun k nk => ?_⟩
      rw [cut3]
      have jk := new_same (o := .tup [.str x1, .str y1]) nk
      have ek : upd G6 k (.tup [.str x1, .str y1]) k = some (.tup ((keyOf (x1, y1)).map kV)) := upd_same
      have eD7 := jk _ _ eD6
      have F7 := F6'.stays (o := .tup [.str x1, .str y1]) nk
      have x07 : Ex1 p G' (upd G6 k (.tup [.str x1, .str y1])) := fun c o n e => jk _ _ (x06 _ _ n e)
      generalize upd G6 k (.tup [.str x1, .str y1]) = G7 at jk ek eD7 F7 x07 ⊢
      refine ⟨D, _, rfl, DPut.t (k := keyOf (x1, y1)) eD7 ek (by unfold encL; rw [List.length_map]; show L.length < 16777216; omega), ?_⟩
      rw [enc_put]
      refine ⟨⟨_, _, rfl⟩, ?_, fun c o n1' n2' e => ?_, putL L (x1, y1) wo, upd_same, fun pr hp k hk => ?_, fun pr hp => ?_, ?_, fun j zj x hj h1 h2 => ?_⟩
      · obtain ⟨g1, y1', s1', ep1, b1, b2⟩ := F7
        exact ⟨g1, y1', s1', by rw [upd_ne nDp.symm]; exact ep1, b1, by omega⟩
      · rw [upd_ne n2']
        exact x07 _ _ n1' (fr _ _ n1' n2' e)
      · rcases put_mem hp with h | rfl
        · exact nu pr h k hk
        · exact bwo k hk
      · rcases put_mem hp with h | rfl
        · exact la pr h
        · exact lab
      · have := put_len L (x1, y1) wo
        omega
      · by_cases c : j = i
        · rw [c, ez] at h1
          cases h1
          obtain rfl : (x1, y1) = x := Option.some.inj h2
          exact has_put (.inr rfl)
        · exact has_put (.inl (has j zj x (by omega) h1 h2))
  · rintro σ G ⟨⟨v4, v5, rfl⟩, FG, fr, L, eD, nu, la, ll, has⟩
    refine ⟨_, rfl, q D L G (fun c o n e => fr _ _ n (ne_of_none e nD) (frame _ _ n e)) nD eD nu la (fun x hx => ?_) (by omega) (FG.le (by omega))⟩
    rw [cells_of_all] at hx
    obtain ⟨p', hp, e⟩ := List.mem_filterMap.mp hx
    obtain ⟨j, hj, ej⟩ := List.getElem_of_mem hp
    refine has j p' x ?_ ?_ e
    · rw [lws]
      rw [all_len] at hj
      omega
    · rw [hzs, List.getElem?_append_left hj, List.getElem?_eq_getElem hj, ej]
end
end K03
end

section
set_option Elab.async false
set_option linter.all false
set_option maxRecDepth 100000
set_option maxHeartbeats 4000000
/-! A def whose code object is known: for defs that hold lambdas. -/
namespace Gd
open PySem PySem.Spec PyProof.Rows L2 LamX
structure FunC (K : PySem.W.Frag) (x qual : Str) (st : Stmt) (f : Addr) (fd : FuncData) (c : Addr) : Prop where
  ex : ∃ (oc : Value) (od : Option Addr) (kV doc pm : Value) (an : Option Addr) (ct : Value) (osl : Array (Option Value)),
    fd = PySem.W.fnOf x qual (defArgs st) (defBody st) (defScope st) .none kV doc pm an (.ref c) ct ∧ K.lookup f = some ⟨oc, od, .func fd, osl⟩ ∧ PySem.W.codeIn K (.ref c) qual = true
  kp : PySem.W.keepIn K (.ref f) = true
theorem FunC.fn {K : PySem.W.Frag} {x qual : Str} {st : Stmt} {f : Addr} {fd : FuncData} {c : Addr} (F : FunC K x qual st f fd c) : Fun K x qual st f fd := by
  obtain ⟨oc, od, kV, doc, pm, an, ct, osl, h⟩ := F.ex
  exact ⟨⟨oc, od, kV, doc, pm, an, .ref c, ct, osl, h⟩, F.kp⟩
section
variable {P : Program} {w : World} {K : PySem.W.Frag} {mg : Str → Option Value} {base : Heap}
theorem okC {x ql : Str} {st : Stmt} {f c : Addr} {fd : FuncData} {N ps : List Str} {n : Nat} {sp : Sp}
    (F : FunC K x ql st f fd c) (S : FnScope N ps (defScope st)) (len : ∀ vs H Q E, sp vs H Q E → vs.length = ps.length)
    (hb : ∀ (A : Around) (out : List Env) (s : Shared) (H : Hp) (vs : List V) (Q : VK) (E : XK),
      Room n (A.deeper (envOfC ql (defScope st) s.heap.objs.size f (.ref c))) → sp vs H Q E →
      ∃ t, PSs (cxOf CX0 P w K mg base N ql (defScope st) f (.ref c) A out s H E).nox (defBody st) t ∧
        t { nx := fun _ H' => Q .non H', rt := Q } (start N vs) H) :
    FnOk P w K mg base CX0 (n + 1) f fd ps sp := by
  obtain ⟨oc, od, kV, dc, pm, an, ct, sl, rfl, lk, hc⟩ := F.ex
  refine fn_of lk hc S len fun A outer s H vs Q E hr hsp => ?_
  obtain ⟨t, h, q⟩ := hb A outer s H vs Q E hr hsp
  exact ⟨t, h.nox, q⟩
theorem okCG {x ql : Str} {st : Stmt} {f c : Addr} {fd : FuncData} {N ps : List Str} {n : Nat} {sp : Sp}
    (F : FunC K x ql st f fd c) (S : FnScope N ps (defScope st)) (len : ∀ vs H Q E, sp vs H Q E → vs.length = ps.length)
    (hb : ∀ (A : Around) (out : List Env) (s : Shared) (H : Hp) (vs : List V) (Q : VK) (E : XK),
      Free (A.deeper (envOfC ql (defScope st) s.heap.objs.size f (.ref c))) →
      Room n (A.deeper (envOfC ql (defScope st) s.heap.objs.size f (.ref c))) → sp vs H Q E →
      ∃ t, PSs (cxOf CX0 P w K mg base N ql (defScope st) f (.ref c) A out s H E).nox (defBody st) t ∧
        t { nx := fun _ H' => Q .non H', rt := Q } (start N vs) H) :
    FnG P w K mg base CX0 (n + 1) f fd ps sp := by
  obtain ⟨oc, od, kV, dc, pm, an, ct, sl, rfl, lk, hc⟩ := F.ex
  refine FnG.body lk hc S len ?_
  intro A out s H vs Q E g hr hsp
  obtain ⟨t, h, q⟩ := hb A out s H vs Q E g hr hsp
  exact ⟨t, h.nox, q⟩
end
/-- in a lambda's body a call lets out what the lambda may -/
theorem passLam {X : Cx} {A : Around} {outer : List Env} {s : Shared} {H : Hp} {E : XK} {scope : Scope} {f c' : Addr} : Passes (L2.CX X.prog X.w) (lamCx X A outer s H E scope f c') E :=
  passes_call (takes_of rfl rfl rfl rfl) (fun _ _ _ _ h => h)
end Gd
end

section
set_option Elab.async false
set_option linter.all false
set_option maxRecDepth 100000
set_option maxHeartbeats 4000000
namespace Szg
open PySem PySem.Spec PyProof.Rows L2 Gd
/-! sizes of data -/
structure Sm (w n : Nat) (d : PyData) : Prop where
  lf : d.leavesShort 100 = true
  sh : d.showable = true
  wt : d.weight ≤ w
  dp : d.depth ≤ n
structure Sms (w n : Nat) (ds : List PyData) : Prop where
  lf : PyData.leavesShortAll 100 ds = true
  sh : PyData.showableAll ds = true
  wt : PyData.weightAll ds ≤ w
  dp : PyData.depthAll ds ≤ n
theorem Sm.mono {w n w' n' : Nat} {d : PyData} (h : Sm w n d) (a : w ≤ w') (b : n ≤ n') : Sm w' n' d := ⟨h.lf, h.sh, Nat.le_trans h.wt a, Nat.le_trans h.dp b⟩
theorem Sms.mono {w n w' n' : Nat} {ds : List PyData} (h : Sms w n ds) (a : w ≤ w') (b : n ≤ n') : Sms w' n' ds := ⟨h.lf, h.sh, Nat.le_trans h.wt a, Nat.le_trans h.dp b⟩
theorem Sms.nil {n : Nat} : Sms 0 n [] := ⟨rfl, rfl, Nat.le_refl _, Nat.zero_le _⟩
theorem Sms.cons {w v n : Nat} {d : PyData} {ds : List PyData} (h : Sm w n d) (g : Sms v n ds) : Sms (w + 1 + v) n (d :: ds) := by
  refine ⟨?_, ?_, ?_, ?_⟩
  · simp only [PyData.leavesShortAll, h.lf, g.lf, Bool.and_self]
  · simp only [PyData.showableAll, h.sh, g.sh, Bool.and_self]
  · have := h.wt
    have := g.wt
    simp only [PyData.weightAll]
    omega
  · have := h.dp
    have := g.dp
    simp only [PyData.depthAll]
    omega
theorem Sms.tup {w n : Nat} {ds : List PyData} (g : Sms w n ds) : Sm (w + 1) (n + 1) (.tuple ds) := by
  refine ⟨by simp only [PyData.leavesShort, g.lf], by simp only [PyData.showable, g.sh], ?_, ?_⟩
  · have := g.wt
    simp only [PyData.weight]
    omega
  · have := g.dp
    simp only [PyData.depth]
    omega
theorem Sms.lst {w n : Nat} {ds : List PyData} (g : Sms w n ds) : Sm (w + 1) (n + 1) (.list ds) := by
  refine ⟨by simp only [PyData.leavesShort, g.lf], by simp only [PyData.showable, g.sh], ?_, ?_⟩
  · have := g.wt
    simp only [PyData.weight]
    omega
  · have := g.dp
    simp only [PyData.depth]
    omega
theorem Sm.shown {w n : Nat} {d : PyData} (h : Sm w n d) (a : w ≤ 160000) (b : n ≤ 60) : d.showable = true ∧ d.shown.length ≤ sizeLine ∧ d.depth ≤ 60 := by
  have x := PyData.shown_le 100 (by decide) d h.lf
  have y := h.wt
  have z : sizeLine = 16777216 := rfl
  exact ⟨h.sh, by omega, Nat.le_trans h.dp b⟩
theorem sm_none : Sm 5 0 .none := ⟨rfl, rfl, by decide, by decide⟩
theorem sm_bool (b : Bool) : Sm 5 0 (.bool b) := by cases b <;> exact ⟨rfl, rfl, by decide, by decide⟩
theorem int_log {i : Int} (h : i.natAbs ≤ 10 ^ 62) : i.natAbs.log2 < 207 := by
  by_cases z : i.natAbs = 0
  · rw [z]; decide
  · exact (Nat.log2_lt z).mpr (Nat.lt_of_le_of_lt h (by decide +kernel))
theorem sm_int {i : Int} (h : i.natAbs ≤ 10 ^ 62) : Sm 212 0 (.int i) := by
  have h1 : i.natAbs < 10 ^ 63 := Nat.lt_of_le_of_lt h (by decide)
  have hl := int_log h
  refine ⟨?_, ?_, ?_, Nat.le_refl _⟩
  · have e := int_text_length_le10 (k := 63) (by decide) h1
    have e2 : (PyData.int i).shown.length = (toString i).length := by
      show (Str.ofString (toString i)).length = _
      rw [PySem.ofString_length]
    simp only [PyData.leavesShort, decide_eq_true_eq]
    omega
  · have : i.natAbs.log2 < 1920 := by omega
    simpa [PyData.showable] using this
  · simp only [PyData.weight]
    split <;> omega
/-- a plain text: codes under 128, no longer than 30 -/
def Pl (s : Str) : Prop := (∀ c ∈ s.cps.toList, c < 128) ∧ s.length ≤ 30
theorem sm_str {s : Str} (h : Pl s) : Sm 30 0 (.str s) := by
  refine ⟨?_, ?_, ?_, Nat.le_refl _⟩
  · simp only [PyData.leavesShort, List.all_eq_true, decide_eq_true_eq]
    intro c hc
    exact Nat.lt_of_lt_of_le (h.1 c hc) (by decide)
  · simp [PyData.showable]
  · have w : (PyData.str s).weight = s.length := by simp only [PyData.weight]; rfl
    have := h.2
    omega
theorem Sms.all {w n : Nat} {ds : List PyData} (h : ∀ d ∈ ds, Sm w n d) : Sms ((w + 1) * ds.length) n ds := by
  induction ds with
  | nil => exact Sms.nil
  | cons d ds ih =>
    refine (Sms.cons (h d (by simp)) (ih fun e m => h e (by simp [m]))).mono ?_ (Nat.le_refl _)
    rw [List.length_cons, Nat.mul_add]
    omega
end Szg
end

section
set_option Elab.async false
set_option linter.all false
set_option maxRecDepth 100000
set_option maxHeartbeats 4000000
namespace Szh
open PySem PySem.Spec PyProof.Rows L2 Gd
/-! sizes of data -/
structure Sm (w n : Nat) (d : PyData) : Prop where
  lf : d.leavesShort 400 = true
  sh : d.showable = true
  wt : d.weight ≤ w
  dp : d.depth ≤ n
structure Sms (w n : Nat) (ds : List PyData) : Prop where
  lf : PyData.leavesShortAll 400 ds = true
  sh : PyData.showableAll ds = true
  wt : PyData.weightAll ds ≤ w
  dp : PyData.depthAll ds ≤ n
theorem Sm.mono {w n w' n' : Nat} {d : PyData} (h : Sm w n d) (a : w ≤ w') (b : n ≤ n') : Sm w' n' d := ⟨h.lf, h.sh, Nat.le_trans h.wt a, Nat.le_trans h.dp b⟩
theorem Sms.mono {w n w' n' : Nat} {ds : List PyData} (h : Sms w n ds) (a : w ≤ w') (b : n ≤ n') : Sms w' n' ds := ⟨h.lf, h.sh, Nat.le_trans h.wt a, Nat.le_trans h.dp b⟩
theorem Sms.nil {n : Nat} : Sms 0 n [] := ⟨rfl, rfl, Nat.le_refl _, Nat.zero_le _⟩
theorem Sms.cons {w v n : Nat} {d : PyData} {ds : List PyData} (h : Sm w n d) (g : Sms v n ds) : Sms (w + 1 + v) n (d :: ds) := by
  refine ⟨?_, ?_, ?_, ?_⟩
  · simp only [PyData.leavesShortAll, h.lf, g.lf, Bool.and_self]
  · simp only [PyData.showableAll, h.sh, g.sh, Bool.and_self]
  · have := h.wt
    have := g.wt
    simp only [PyData.weightAll]
    omega
  · have := h.dp
    have := g.dp
    simp only [PyData.depthAll]
    omega
theorem Sms.tup {w n : Nat} {ds : List PyData} (g : Sms w n ds) : Sm (w + 1) (n + 1) (.tuple ds) := by
  refine ⟨by simp only [PyData.leavesShort, g.lf], by simp only [PyData.showable, g.sh], ?_, ?_⟩
  · have := g.wt
    simp only [PyData.weight]
    omega
  · have := g.dp
    simp only [PyData.depth]
    omega
theorem Sms.lst {w n : Nat} {ds : List PyData} (g : Sms w n ds) : Sm (w + 1) (n + 1) (.list ds) := by
  refine ⟨by simp only [PyData.leavesShort, g.lf], by simp only [PyData.showable, g.sh], ?_, ?_⟩
  · have := g.wt
    simp only [PyData.weight]
    omega
  · have := g.dp
    simp only [PyData.depth]
    omega
theorem Sm.shown {w n : Nat} {d : PyData} (h : Sm w n d) (a : w ≤ 40000) (b : n ≤ 60) : d.showable = true ∧ d.shown.length ≤ sizeLine ∧ d.depth ≤ 60 := by
  have x := PyData.shown_le 400 (by decide) d h.lf
  have y := h.wt
  have z : sizeLine = 16777216 := rfl
  exact ⟨h.sh, by omega, Nat.le_trans h.dp b⟩
theorem sm_none : Sm 5 0 .none := ⟨rfl, rfl, by decide, by decide⟩
theorem sm_bool (b : Bool) : Sm 5 0 (.bool b) := by cases b <;> exact ⟨rfl, rfl, by decide, by decide⟩
theorem int_log {i : Int} (h : i.natAbs ≤ 10 ^ 62) : i.natAbs.log2 < 207 := by
  by_cases z : i.natAbs = 0
  · rw [z]; decide
  · exact (Nat.log2_lt z).mpr (Nat.lt_of_le_of_lt h (by decide +kernel))
theorem sm_int {i : Int} (h : i.natAbs ≤ 10 ^ 62) : Sm 212 0 (.int i) := by
  have h1 : i.natAbs < 10 ^ 63 := Nat.lt_of_le_of_lt h (by decide)
  have hl := int_log h
  refine ⟨?_, ?_, ?_, Nat.le_refl _⟩
  · have e := int_text_length_le10 (k := 63) (by decide) h1
    have e2 : (PyData.int i).shown.length = (toString i).length := by
      show (Str.ofString (toString i)).length = _
      rw [PySem.ofString_length]
    simp only [PyData.leavesShort, decide_eq_true_eq]
    omega
  · have : i.natAbs.log2 < 1920 := by omega
    simpa [PyData.showable] using this
  · simp only [PyData.weight]
    split <;> omega
/-- a plain text: codes under 128, no longer than 30 -/
def Pl (s : Str) : Prop := (∀ c ∈ s.cps.toList, c < 128) ∧ s.length ≤ 30
theorem sm_str {s : Str} (h : Pl s) : Sm 30 0 (.str s) := by
  refine ⟨?_, ?_, ?_, Nat.le_refl _⟩
  · simp only [PyData.leavesShort, List.all_eq_true, decide_eq_true_eq]
    intro c hc
    exact Nat.lt_of_lt_of_le (h.1 c hc) (by decide)
  · simp [PyData.showable]
  · have w : (PyData.str s).weight = s.length := by simp only [PyData.weight]; rfl
    have := h.2
    omega
theorem Sms.all {w n : Nat} {ds : List PyData} (h : ∀ d ∈ ds, Sm w n d) : Sms ((w + 1) * ds.length) n ds := by
  induction ds with
  | nil => exact Sms.nil
  | cons d ds ih =>
    refine (Sms.cons (h d (by simp)) (ih fun e m => h e (by simp [m]))).mono ?_ (Nat.le_refl _)
    rw [List.length_cons, Nat.mul_add]
    omega
theorem sm_big {i : Int} (h : i.natAbs < 2 ^ 1300) : Sm 1301 0 (.int i) := by
  have h1 : i.natAbs < 10 ^ 395 := Nat.lt_trans h (by decide +kernel)
  have hl : i.natAbs.log2 < 1300 := by
    by_cases z : i.natAbs = 0
    · rw [z]; decide
    · exact (Nat.log2_lt z).mpr h
  refine ⟨?_, ?_, ?_, Nat.le_refl _⟩
  · have e := int_text_length_le10 (k := 395) (by decide) h1
    have e2 : (PyData.int i).shown.length = (toString i).length := by
      show (Str.ofString (toString i)).length = _
      rw [PySem.ofString_length]
    simp only [PyData.leavesShort, decide_eq_true_eq]
    omega
  · have : i.natAbs.log2 < 1920 := by omega
    simpa [PyData.showable] using this
  · simp only [PyData.weight]
    split <;> omega
end Szh
end

section
set_option Elab.async false
set_option linter.all false
set_option maxRecDepth 100000
set_option maxHeartbeats 4000000
namespace K03
open PySem PySem.Spec PyProof.Rows L2 Gd
theorem lab_pl {x : Str} (h : isLab x = true) : Szg.Pl x := by
  obtain ⟨a, b⟩ := isLab_ascii h
  rw [List.all_eq_true] at b
  exact ⟨fun c hc => of_decide_eq_true (b c hc), by omega⟩
theorem sign_pl {w : Str} (h : w ∈ signs) : Szg.Pl w := by
  have key : ∀ s : Str, (s.cps.toList.all fun c => decide (c < 128)) = true → s.length ≤ 30 → Szg.Pl s := fun s a b => ⟨fun c hc => of_decide_eq_true (List.all_eq_true.mp a c hc), b⟩
  simp only [signs, List.mem_cons, List.not_mem_nil, or_false] at h
  rcases h with rfl | rfl | rfl | rfl <;> exact key _ (by decide +kernel) (by decide +kernel)
theorem word_pl : Szg.Pl "cell" ∧ Szg.Pl "number" := by
  have key : ∀ s : Str, (s.cps.toList.all fun c => decide (c < 128)) = true → s.length ≤ 30 → Szg.Pl s := fun s a b => ⟨fun c hc => of_decide_eq_true (List.all_eq_true.mp a c hc), b⟩
  exact ⟨key _ (by decide +kernel) (by decide +kernel), key _ (by decide +kernel) (by decide +kernel)⟩
open Szg in
/-- a piece's size -/
theorem pz_sm : ∀ {z : Pz}, pzOk z → Sm (300 * pzMany z) (pzDeep z) (pzD z)
  | .cell x y, h => (Sms.cons (sm_str word_pl.1) (Sms.cons (sm_str (lab_pl h.1)) (Sms.cons (sm_str (lab_pl h.2)) Sms.nil))).tup.mono (by show _ ≤ 300 * 1; decide) (by show 1 ≤ 1; decide)
  | .num i, h => (Sms.cons (sm_str word_pl.2) (Sms.cons (sm_int (i := i) (by
      have h : -(10 ^ 30 : Int) < i ∧ i < 10 ^ 30 := h
      have e : (10 : Nat) ^ 30 ≤ 10 ^ 62 := by decide
      have : i.natAbs ≤ 10 ^ 30 := by omega
      exact Nat.le_trans this e)) Sms.nil)).tup.mono (by show _ ≤ 300 * 1; decide) (by show 1 ≤ 1; decide)
  | .op w a b, h => by
    obtain ⟨hw, ha, hb⟩ : w ∈ signs ∧ pzOk a ∧ pzOk b := h
    have sa := (pz_sm ha).mono (Nat.le_refl _) (Nat.le_max_left (pzDeep a) (pzDeep b))
    have sb := (pz_sm hb).mono (Nat.le_refl _) (Nat.le_max_right (pzDeep a) (pzDeep b))
    have g := (Sms.cons ((sm_str (sign_pl hw)).mono (Nat.le_refl _) (Nat.zero_le (max (pzDeep a) (pzDeep b)))) (Sms.cons sa (Sms.cons sb Sms.nil))).tup
    refine g.mono ?_ (Nat.le_refl _)
    show 30 + 1 + (300 * pzMany a + 1 + (300 * pzMany b + 1 + 0)) + 1 ≤ 300 * (1 + pzMany a + pzMany b)
    omega
open Szg in
theorem look_kv : ∀ {L : Lk}, numsL L → labsL L → PyData.leavesShortKv 100 (L.map fun p => (cellD p.1, wD p.2)) = true ∧ PyData.showableKv (L.map fun p => (cellD p.1, wD p.2)) = true ∧
    PyData.weightKv (L.map fun p => (cellD p.1, wD p.2)) ≤ 300 * L.length ∧ PyData.depthKv (L.map fun p => (cellD p.1, wD p.2)) ≤ 1
  | [], _, _ => ⟨rfl, rfl, Nat.le_refl _, Nat.zero_le _⟩
  | p :: L, n, l => by
    obtain ⟨a, b, c, d⟩ := look_kv (L := L) (fun q h => n q (by simp [h])) (fun q h => l q (by simp [h]))
    obtain ⟨l1, l2⟩ := l p (by simp)
    have k : Sm 63 1 (cellD p.1) := (Sms.cons (sm_str (lab_pl l1)) (Sms.cons (sm_str (lab_pl l2)) Sms.nil)).tup
    have v : Sm 212 0 (wD p.2) := by
      cases e : p.2 with
      | none => exact sm_none.mono (by decide) (Nat.le_refl _)
      | some i => exact sm_int (Nat.le_trans (n p (by simp) i e) (by decide))
    refine ⟨?_, ?_, ?_, ?_⟩
    · simp only [List.map_cons, PyData.leavesShortKv, k.lf, v.lf, a, Bool.and_self]
    · simp only [List.map_cons, PyData.showableKv, k.sh, v.sh, b, Bool.and_self]
    · have := k.wt
      have := v.wt
      simp only [List.map_cons, PyData.weightKv, List.length_cons]
      omega
    · have := k.dp
      have := v.dp
      simp only [List.map_cons, PyData.depthKv]
      omega
open Szg in
theorem pair_shown {z : Pz} {L : Lk} (ok : pzOk z) (h5 : pzDeep z ≤ 5) (h31 : pzMany z ≤ 31) (n : numsL L) (l : labsL L) (l40 : L.length ≤ 40) : (pairD z L).showable = true ∧ (pairD z L).shown.length ≤ sizeLine ∧ (pairD z L).depth ≤ 60 := by
  obtain ⟨a, b, c, d⟩ := look_kv n l
  have k : Sm 12001 2 (lookD L) := by
    refine ⟨?_, ?_, ?_, ?_⟩
    · simpa only [lookD, PyData.leavesShort] using a
    · simpa only [lookD, PyData.showable] using b
    · simp only [lookD, PyData.weight]
      omega
    · simp only [lookD, PyData.depth]
      omega
  have g := (Sms.cons ((pz_sm ok).mono (Nat.le_refl _) (show pzDeep z ≤ 5 from h5)) (Sms.cons (k.mono (Nat.le_refl _) (show 2 ≤ 5 by decide)) Sms.nil)).tup
  exact g.shown (by omega) (by decide)
theorem res_shown {L : Lk} {z : Pz} (hL : numsL L) (ok : pzOk z) (h8 : lv z ≤ 8) : (resD (tellP L z)).showable = true ∧ (resD (tellP L z)).shown.length ≤ sizeLine ∧ (resD (tellP L z)).depth ≤ 60 := by
  have key : ∀ s : Str, (s.cps.toList.all fun c => decide (c < 128)) = true → s.length ≤ 30 → Szh.Pl s := fun s a b => ⟨fun c hc => of_decide_eq_true (List.all_eq_true.mp a c hc), b⟩
  have k1 : Szh.Pl "fault" := key _ (by decide +kernel) (by decide +kernel)
  have k2 : Szh.Pl "told" := key _ (by decide +kernel) (by decide +kernel)
  cases e : tellP L z with
  | none => exact (Szh.Sms.cons (Szh.sm_str k1) (Szh.Sms.cons (Szh.sm_none) Szh.Sms.nil)).tup.shown (by decide) (by decide)
  | some o =>
    cases o with
    | none => exact (Szh.Sms.cons (Szh.sm_str k2) (Szh.Sms.cons (Szh.sm_none) Szh.Sms.nil)).tup.shown (by decide) (by decide)
    | some i =>
      have b := tell_big hL ok e
      have b2 : i.natAbs < 2 ^ 1300 := Nat.lt_of_le_of_lt (Nat.le_trans b (pow_mono h8)) (by decide +kernel)
      exact (Szh.Sms.cons (Szh.sm_str k2) (Szh.Sms.cons (Szh.sm_big b2) Szh.Sms.nil)).tup.shown (by decide) (by decide)
end K03
end

section
set_option Elab.async false
set_option linter.all false
set_option maxRecDepth 100000
set_option maxHeartbeats 4000000
namespace K03
open PySem PySem.Spec PyProof.Rows L2 Gd LamX
abbrev sRi : Stmt := topS 36
abbrev nRi : List Str := ["_law_piece_here", "_law_worths_here", "_law_held", "_law_due", "_law_turn"]
theorem scRi : FnScope nRi ["_law_piece_here", "_law_worths_here"] (defScope sRi) := ⟨rfl, rfl, rfl, by decide +kernel, rfl, by decide +kernel, by decide +kernel⟩
def qRi : Str := (envOfC "_law_right" (defScope sRi) 0 0 .none).qual ++ "<lambda>"
def tabs1 (P1 : Addr) : List (Addr × Str) := [(P1, qRi)]
/-- a part that may be told by a look -/
structure PL (z : Pz) (L : Lk) : Prop where
  nu : numsL L
  la : labsL L
  l40 : L.length ≤ 40
  ok : pzOk z
  d5 : pzDeep z ≤ 5
  m31 : pzMany z ≤ 31
  l8 : lv z ≤ 8
  ce : ∀ x ∈ cells z, hasL L x
def spRi (K : PySem.W.Frag) (P1 : Addr) : Sp := fun vs H Q _ => ∃ (v : V) (a : Addr) (z : Pz) (L : Lk), vs = [v, .ref a] ∧ PL z L ∧ LookAt H a L ∧ Dp K H v (pzD z) ∧ Tabs (tabs1 P1) H ∧ ∀ H', ExtN H H' → Tabs (tabs1 P1) H' → Q (.bl true) H'
theorem tups_ext {K : PySem.W.Frag} {H H' : Hp} (e : ExtN H H') : Tups K H H' := fun b xs z => by
  rcases z with (z | ⟨o, z⟩) | z
  · exact .inl (.inl (e _ _ z (fun _ y => nomatch y)))
  · exact .inl (.inr ⟨o, e _ _ z (fun _ y => nomatch y)⟩)
  · exact .inr z
theorem walk_upto {n : Nat} : Walk (Itr 0 n) n (fun _ => True) (YFn fun i => .int ((i : Nat) : Int)) :=
  walk_range.mono (fun _ _ => trivial) (fun i H x H' _ _ y => ⟨y.1, y.2.trans (by show V.int (0 + ((i : Nat) : Int)) = V.int ((i : Nat) : Int); rw [Int.zero_add])⟩)
section
variable {P : Program} {w : World} {K : PySem.W.Frag} {mg : Str → Option Value} {base : Heap} {f g c1 fTb fTd P1 : Addr} {fd dH dTb dTd : FuncData} {cs : Nat → Addr}
theorem ok_ri (F : FunC K "_law_right" "_law_right" sRi f fd c1) (TB : TabB base mg c1 P1) (mv : mg "ValueError" = none) (mp : mg "repr" = none) (mr : mg "range" = none) (C : Cls03 K mg cs)
    (FH : Fun K "_law_heard" "_law_heard" sHeard g dH) (gH : mg "_law_heard" = some (.ref g)) (bH : Binds K dH ["_law_ask_now"] [])
    (FTb : Fun K "told_by" "told_by" sTb fTb dTb) (GTb : FnOk P w K mg base (L2.CX P w) 6 fTb dTb ["part", "look"] (spTb K cs 5)) (gTb : mg "told_by" = some (.ref fTb)) (bTb : Binds K dTb ["part", "look"] []) (kTb : KBinds K dTb ["part", "look"] ["look", "part"] back2 back2)
    (FTd : Fun K "_law_told" "_law_told" sTd fTd dTd) (GTd : FnOk P w K mg base CX0 7 fTd dTd ["_law_piece_here", "_law_worths_here"] (spTd K 5)) (gTd : mg "_law_told" = some (.ref fTd)) (bTd : Binds K dTd ["_law_piece_here", "_law_worths_here"] []) :
    FnG P w K mg base CX0 9 f fd ["_law_piece_here", "_law_worths_here"] (spRi K P1) := by
  refine okCG F scRi (fun vs H Q E h => ?_) (fun A outer s H vs Q E hg hr h => ?_)
  · obtain ⟨v, a, z, L, rfl, _⟩ := h
    rfl
  obtain ⟨v, a, z, L, rfl, pl, hL, hd, hT, q⟩ := h
  have nd := scRi.nd
  obtain ⟨oc, od, kV, doc, pm, an, cdv, ct, osl, edH, lk, hcg⟩ := FH.ex
  subst edH
  have hU : ∀ q ∈ tabs1 P1, q.1 = P1 → q.2 = qRi := fun q hq e => by
    simp only [tabs1, List.mem_cons, List.not_mem_nil, or_false] at hq
    rw [hq]
  refine ⟨_, pss_cons (ps_set (i := 2) nd rfl (.inl rfl) (pe_callB (call_reprP hg hr.units) (by rfl) mp (by decide +kernel) (pa_cons (pe_tup (pa_cons (pv 0) (pa_cons (pv 1) pa_nil))) pa_nil)))
    (pss_cons (ps_set (i := 3) nd rfl (.inl rfl) (pe_callB (call_repr hg hr.units) (by rfl) mp (by decide +kernel) (pa_cons (pe_call GTd (hr.mono (by decide)) (by rfl) gTd FTd.kp bTd .nil pass0 (pa_cons (pv 0) (pa_cons (pv 1) pa_nil))) pa_nil)))
    (pss_cons (ps_for PassesOwn.never rfl (pi_range1 (by rfl) mr (pa_cons pe_int pa_nil)) (pg_name (i := 4) nd rfl (.inl rfl))
      (pss_one (ps_if (PW.pt (pw_or (pt_cmpR op_ne (pe_callB (call_repr hg hr.units) (by rfl) mp (by decide +kernel) (pa_cons (pe_lamcall (T := tabs1 P1) (TT := TBoth K cs) (a := "_law_ask_now") (k := 6) (P := P1) (Ng := nHeard) (by rfl) gH FH.kp lk hcg bH scHeard rfl (.inl rfl) (heard_both C mv) TB rfl (List.mem_cons_self) hU hr (lamS_by (by show lamSB (defScope sRi) _ = true; decide +kernel)) rfl (fun _ _ _ _ _ => rfl)
        (fun A outer s H E f c' hr' => pe_call GTb hr' (by rfl) gTb FTb.kp bTb .nil passLam (pa_cons (pv 0) (pa_cons (pv 1) pa_nil)))) pa_nil)) (pv 3) (nomark _)) (pw_or1 (pt_cmpR op_ne (pe_callB (call_reprP hg hr.units) (by rfl) mp (by decide +kernel) (pa_cons (pe_tup (pa_cons (pv 0) (pa_cons (pv 1) pa_nil))) pa_nil)) (pv 2) (nomark _))))) (pss_one (ps_ret pe_bl)) pss_nil)))
    (pss_one (ps_ret (pe_cmpR op_eq (pe_callB (call_repr hg hr.units) (by rfl) mp (by decide +kernel) (pa_cons (pe_lamcall (T := tabs1 P1) (TT := TBoth K cs) (a := "_law_ask_now") (k := 6) (P := P1) (Ng := nHeard) (by rfl) gH FH.kp lk hcg bH scHeard rfl (.inl rfl) (heard_both C mv) TB rfl (List.mem_cons_self) hU hr (lamS_by (by show lamSB (defScope sRi) _ = true; decide +kernel)) rfl (fun _ _ _ _ _ => rfl)
        (fun A outer s H E f c' hr' => pe_kw2 GTb hr' (by rfl) gTb FTb.kp kTb passLam (pk_cons (pv 1) (pk_cons (pv 0) pk_nil)))) pa_nil)) (pv 3) (nomark _)))))), ?_⟩
  obtain ⟨t1, t2, t3⟩ := pair_shown pl.ok pl.d5 pl.m31 pl.nu pl.la pl.l40
  obtain ⟨u1, u2, u3⟩ := res_shown (L := L) pl.nu pl.ok pl.l8
  have l8 := pl.l8
  refine ⟨_, rfl, _, rfl, (by show 2 ≤ sizeLine; decide), fun x1 nx1 => ?_⟩
  have j1 := new_same (o := .tup [v, .ref a]) nx1
  have hL1 := j1 _ _ hL
  have hd1 := Dp.same j1 _ hd
  have hT1 := hT.ext j1
  have ex1 : upd H x1 (.tup [v, .ref a]) x1 = some (.tup [v, .ref a]) := upd_same
  have E1 : ExtN H (upd H x1 (.tup [v, .ref a])) := ExtN.of j1
  generalize upd H x1 (.tup [v, .ref a]) = H1 at j1 hL1 hd1 hT1 ex1 E1 ⊢
  refine ⟨x1, v, a, z, L, rfl, SqT.of ex1, hd1, hL1, t1, t2, t3, ?_⟩
  obtain ⟨tp, htp⟩ : ∃ tp, tp = (pairD z L).shown := ⟨_, rfl⟩
  rw [← htp]
  refine ⟨_, rfl, _, rfl, v, a, z, L, rfl, hL1, pl.nu, hd1, pl.ok, pl.d5, by omega, pl.ce, fun r2 H2 s2 e2 => ?_⟩
  refine ⟨_, resD (tellP L z), rfl, dp_res e2, u1, u2, u3, ?_⟩
  obtain ⟨tr, htr⟩ : ∃ tr, tr = (resD (tellP L z)).shown := ⟨_, rfl⟩
  rw [← htr]
  have E2 := E1.trans (ExtN.of s2)
  have hT2 := hT1.ext s2
  -- heard
  have told : ∀ {G : Hp} {R : VK} {tl : XK → Hp → VK → Prop}, (∀ Ech H' Q', spTb K cs 5 [v, .ref a] H' Q' Ech → tl Ech H' Q') → ExtN H G → (∀ (t : Addr) (G' : Hp), Same G G' → G' t = some (.tup (resV (tellP L z))) → R (.ref t) G') → TBoth K cs tl G R := fun {G R tl} htl e k => by
    have hLG : LookAt G a L := e _ _ hL (fun _ y => nomatch y)
    have hdG : Dp K G v (pzD z) := Dp.tups (tups_ext e) _ (pz_only z) hd
    cases et : tellP L z with
    | none =>
      rw [et] at k
      refine .inl fun Qn => htl _ _ _ ⟨v, a, z, L, rfl, hLG, pl.nu, hdG, pl.ok, pl.d5, by omega, pl.ce, fun _ H' s' => ⟨rfl, rfl, fun H'' s'' b nb => ?_⟩, fun o eo => ?_⟩
      · exact k b _ ((s'.trans s'').trans (new_same nb)) upd_same
      · rw [et] at eo
        cases eo
    | some o =>
      rw [et] at k
      refine .inr fun Q' hQ => htl _ _ _ ⟨v, a, z, L, rfl, hLG, pl.nu, hdG, pl.ok, pl.d5, by omega, pl.ce, fun en => ?_, fun o' eo H' s' => ?_⟩
      · rw [et] at en
        cases en
      · rw [et] at eo
        cases eo
        exact hQ _ _ fun b nb => k b _ (s'.trans (new_same nb)) upd_same
  refine ⟨_, rfl, by decide, by decide, for_it (walk_upto (n := 2)) (fun i σ G => (∃ v4, σ = [some v, some (.ref a), some (.str tp), some (.str tr), v4]) ∧ ExtN H G ∧ Tabs (tabs1 P1) G) ⟨⟨_, rfl⟩, E2, hT2⟩ (fun _ _ _ _ _ => trivial) ?_ ?_⟩
  · rintro i x σ G G0 hi ⟨⟨v4, rfl⟩, eG, tG⟩ ⟨rfl, rfl⟩
    refine ⟨tG, fun G3 e3 t3' => ?_⟩
    refine told (fun Ech H' Q' h => ⟨_, rfl, _, rfl, h⟩) (eG.trans e3) fun t G4 s4 e4 => ?_
    have E4 := (eG.trans e3).trans (ExtN.of s4)
    have T4 := t3'.ext s4
    refine ⟨_, resD (tellP L z), rfl, dp_res e4, u1, u2, u3, _, rfl, ?_⟩
    rw [← htr]
    refine ⟨rfl, _, rfl, ite2 (fun z => absurd z (by simp)) (fun _ => ?_)⟩
    refine ⟨_, rfl, _, rfl, (by show 2 ≤ sizeLine; decide), fun x2 nx2 => ?_⟩
    have j5 := new_same (o := .tup [v, .ref a]) nx2
    have hL5 := j5 _ _ (E4 _ _ hL (fun _ y => nomatch y))
    have hd5 := Dp.same j5 _ (Dp.tups (tups_ext E4) _ (pz_only z) hd)
    have ex5 : upd G4 x2 (.tup [v, .ref a]) x2 = some (.tup [v, .ref a]) := upd_same
    have T5 := T4.ext j5
    have E5 := E4.trans (ExtN.of j5)
    generalize upd G4 x2 (.tup [v, .ref a]) = G5 at hL5 hd5 ex5 T5 E5 ⊢
    refine ⟨x2, v, a, z, L, rfl, SqT.of ex5, hd5, hL5, t1, t2, t3, _, rfl, ?_⟩
    rw [← htp]
    exact ⟨rfl, _, rfl, ite2 (fun z => absurd z (by simp)) (fun _ => ⟨⟨_, rfl⟩, E5, T5⟩)⟩
  · rintro σ G ⟨⟨v4, rfl⟩, eG, tG⟩
    refine ⟨tG, fun G3 e3 t3' => ?_⟩
    refine told (fun Ech H' Q' h => ⟨_, rfl, _, rfl, h⟩) (eG.trans e3) fun t G4 s4 e4 => ?_
    refine ⟨_, resD (tellP L z), rfl, dp_res e4, u1, u2, u3, _, rfl, ?_⟩
    rw [← htr]
    have fin := q G4 ((eG.trans e3).trans (ExtN.of s4)) (t3'.ext s4)
    refine ⟨rfl, ?_⟩
    simpa using fin
end
end K03
end

section
set_option Elab.async false
set_option linter.all false
set_option maxRecDepth 100000
set_option maxHeartbeats 4000000
namespace K03
open PySem PySem.Spec PyProof.Rows L2 Gd LamX
abbrev sLaw : Stmt := topS 37
abbrev nLaw : List Str := ["_law_script", "_law_k", "_law_feed_here", "_law_turn", "_law_piece_here", "_law_again", "_law_one", "_law_other", "_law_none", "_law_worths_here", "_law_nought", "_law_fixed", "_law_name"]
theorem scLaw : FnScope nLaw ["_law_script"] (defScope sLaw) := ⟨rfl, rfl, rfl, by decide +kernel, rfl, by decide +kernel, by decide +kernel⟩
def spLaw (K : PySem.W.Frag) (cs : List (Addr × Addr)) : Sp := fun vs H Q _ => ∃ (a : Addr) (ns : List Int), vs = [.ref a] ∧ SqL K H a (ns.map V.int) ∧ ns.length ≤ 63 ∧ (∀ p ∈ cs, H p.2 = some (.tbl #[])) ∧ ∀ H', Q (.bl true) H'
/-- all but the feed and the tables stay -/
def ExP (p : Addr) (H H' : Hp) : Prop := ∀ b o, b ≠ p → H b = some o → (∀ ps, o ≠ .tbl ps) → H' b = some o
theorem ExP.refl (p : Addr) (H : Hp) : ExP p H H := fun _ _ _ h _ => h
theorem ExP.trans {p : Addr} {H H1 H2 : Hp} (a : ExP p H H1) (b : ExP p H1 H2) : ExP p H H2 := fun x o n h t => b x o n (a x o n h t) t
theorem ExP.of1 {p : Addr} {H H' : Hp} (a : Ex1 p H H') : ExP p H H' := fun x o n h _ => a x o n h
theorem ExP.ofN {p : Addr} {H H' : Hp} (a : ExtN H H') : ExP p H H' := fun x o _ h t => a x o h t
theorem exP_seq {K : PySem.W.Frag} {H H' : Hp} {p a : Addr} {xs : List V} (n : H p = none) (x : ExP p H H') (h : SqL K H a xs) : SqL K H' a xs := by
  rcases h with (h | ⟨o, h⟩) | h
  · exact .inl (.inl (x _ _ (ne_of_none h n) h (fun _ z => nomatch z)))
  · exact .inl (.inr ⟨o, x _ _ (ne_of_none h n) h (fun _ z => nomatch z)⟩)
  · exact .inr h
theorem feed_same {H H' : Hp} {p : Addr} {S : Int} (F : Feed H p S) (s : Same H H') : Feed H' p S := by
  obtain ⟨g, x, z, ep, a, b⟩ := F
  exact ⟨g, x, z, s _ _ ep, a, b⟩
theorem feed_extN {H H' : Hp} {p : Addr} {S : Int} (F : Feed H p S) (s : ExtN H H') : Feed H' p S := by
  obtain ⟨g, x, z, ep, a, b⟩ := F
  exact ⟨g, x, z, s _ _ ep (fun _ y => nomatch y), a, b⟩
theorem ex1_off {H H' : Hp} {p q : Addr} {o : HO} (n : H q = none) (x : Ex2 p q (upd H q o) H') : Ex1 p H H' := fun b u nb e => x b u nb (ne_of_none e n) (by rw [upd_ne (ne_of_none e n)]; exact e)
theorem pc_pz {d : PyData} {c : Nat} (h : Pc 5 c d) : ∃ z, d = pzD z ∧ pzOk z ∧ pzDeep z ≤ 5 ∧ pzMany z = c := by
  have e := h.cnt
  have b := h.pos
  obtain ⟨z, e1, e2, e3, e4⟩ := pz_of 5 d (by omega)
  exact ⟨z, e1, e2, e3, by omega⟩
theorem tabs_feed {T : List (Addr × Str)} {H H' : Hp} {p : Addr} {S : Int} (t : Tabs T H) (F : Feed H p S) (x : Ex1 p H H') : Tabs T H' := fun q hq => by
  obtain ⟨g, y, z, ep, _⟩ := F
  obtain ⟨ps, h1, h2, h3⟩ := t q hq
  refine ⟨ps, x _ _ (fun e => by rw [e, ep] at h1; exact nomatch h1) h1, h2, fun pos cv hc => ?_⟩
  obtain ⟨c, e1, e2⟩ := h3 pos cv hc
  exact ⟨c, e1, x _ _ (fun e => by rw [e, ep] at e2; exact nomatch e2) e2⟩
theorem tabs_lst {T : List (Addr × Str)} {H : Hp} {p : Addr} {xs ys : List V} (t : Tabs T H) (ep : H p = some (.lst xs)) : Tabs T (upd H p (.lst ys)) := fun q hq => by
  obtain ⟨ps, h1, h2, h3⟩ := t q hq
  refine ⟨ps, by rw [upd_ne (fun e => by rw [e, ep] at h1; exact nomatch h1)]; exact h1, h2, fun pos cv hc => ?_⟩
  obtain ⟨c, e1, e2⟩ := h3 pos cv hc
  exact ⟨c, e1, by rw [upd_ne (fun e => by rw [e, ep] at e2; exact nomatch e2)]; exact e2⟩
/-- the fixed look -/
def fixL : Lk := putL (putL (putL (putL [] ("a", "one") (some 7)) ("a", "other") (some (-2))) ("a", "none") none) ("b", "one") (some 0)
def fixE : List (List Key × V) := [(keyOf ("a", "one"), .int 7), (keyOf ("a", "other"), .int (-2)), (keyOf ("a", "none"), .non), (keyOf ("b", "one"), .int 0)]
theorem fix_merge : mergeT [] fixE = encL fixL := by
  have e : mergeT [] fixE = putK (putK (putK (putK (encL []) (keyOf ("a", "one")) (wV (some 7))) (keyOf ("a", "other")) (wV (some (-2)))) (keyOf ("a", "none")) (wV none)) (keyOf ("b", "one")) (wV (some 0)) := rfl
  rw [e, enc_put, enc_put, enc_put, enc_put]
  rfl
theorem fix_mem {p : (Str × Str) × Option Int} (h : p ∈ fixL) : p = ((("a" : Str), ("one" : Str)), (some 7 : Option Int)) ∨ p = ((("a" : Str), ("other" : Str)), (some (-2) : Option Int)) ∨ p = ((("a" : Str), ("none" : Str)), (none : Option Int)) ∨ p = ((("b" : Str), ("one" : Str)), (some 0 : Option Int)) := by
  rcases put_mem h with h | h
  · rcases put_mem h with h | h
    · rcases put_mem h with h | h
      · rcases put_mem h with h | h
        · exact nomatch h
        · exact .inl h
      · exact .inr (.inl h)
    · exact .inr (.inr (.inl h))
  · exact .inr (.inr (.inr h))
theorem fix_nums : numsL fixL := by
  intro p hp i hi
  rcases fix_mem hp with rfl | rfl | rfl | rfl
  · cases hi; decide
  · cases hi; decide
  · cases hi
  · cases hi; decide
theorem fix_labs : labsL fixL := by
  intro p hp
  rcases fix_mem hp with rfl | rfl | rfl | rfl
  · exact ⟨by decide +kernel, by decide +kernel⟩
  · exact ⟨by decide +kernel, by decide +kernel⟩
  · exact ⟨by decide +kernel, by decide +kernel⟩
  · exact ⟨by decide +kernel, by decide +kernel⟩
theorem fix_len : fixL.length ≤ 40 := by
  have h1 := put_len (putL (putL (putL [] ("a", "one") (some 7)) ("a", "other") (some (-2))) ("a", "none") none) ("b", "one") (some 0)
  have h2 := put_len (putL (putL [] ("a", "one") (some 7)) ("a", "other") (some (-2))) ("a", "none") none
  have h3 := put_len (putL [] ("a", "one") (some 7)) ("a", "other") (some (-2))
  have h4 := put_len [] ("a", "one") (some 7)
  unfold fixL
  simp only [List.length_nil] at h4
  omega
theorem fix_has : hasL fixL ("a", "one") ∧ hasL fixL ("a", "other") ∧ hasL fixL ("a", "none") :=
  ⟨has_put (.inl (has_put (.inl (has_put (.inl (has_put (.inr rfl))))))), has_put (.inl (has_put (.inl (has_put (.inr rfl))))), has_put (.inl (has_put (.inr rfl)))⟩
/-- the fixed parts -/
def fixedZ : List Pz := [
  .op "over" (.cell "a" "one") (.cell "a" "other"),
  .op "over" (.cell "a" "other") (.cell "a" "one"),
  .op "over" (.op "over" (.cell "a" "one") (.cell "a" "other")) (.cell "a" "other"),
  .op "over" (.cell "a" "one") (.op "less" (.cell "a" "one") (.cell "a" "one")),
  .op "over" (.cell "a" "none") (.op "less" (.cell "a" "one") (.cell "a" "one")),
  .op "over" (.cell "a" "none") (.cell "a" "one"),
  .op "over" (.op "less" (.cell "a" "one") (.cell "a" "one")) (.cell "a" "none"),
  .op "times" (.op "less" (.cell "a" "one") (.cell "a" "one")) (.cell "a" "none"),
  .op "plus" (.cell "a" "none") (.op "over" (.cell "a" "one") (.op "less" (.cell "a" "one") (.cell "a" "one"))),
  .op "plus" (.op "over" (.cell "a" "one") (.op "less" (.cell "a" "one") (.cell "a" "one"))) (.cell "a" "none"),
  .cell "a" "none",
  .op "over" (.op "less" (.cell "a" "one") (.cell "a" "one")) (.cell "a" "one"),
  .op "over" (.num (-7)) (.num 2),
  .op "over" (.num (1 - 10 ^ (30 : Int).toNat)) (.num 10)]
def pzB : Pz → Bool
  | .cell x y => isLab x && isLab y && decide ((x, y) = (("a", "one") : Str × Str) ∨ (x, y) = (("a", "other") : Str × Str) ∨ (x, y) = (("a", "none") : Str × Str))
  | .num i => decide (-(10 ^ 30 : Int) < i) && decide (i < 10 ^ 30)
  | .op w a b => decide (w ∈ signs) && pzB a && pzB b
theorem pzB_ok : ∀ {z : Pz}, pzB z = true → pzOk z ∧ ∀ x ∈ cells z, hasL fixL x
  | .cell x y, h => by
    simp only [pzB, Bool.and_eq_true, decide_eq_true_eq] at h
    refine ⟨h.1, fun c hc => ?_⟩
    have e : c = (x, y) := by simpa [cells] using hc
    rw [e]
    rcases h.2 with e | e | e
    · rw [e]; exact fix_has.1
    · rw [e]; exact fix_has.2.1
    · rw [e]; exact fix_has.2.2
  | .num i, h => by
    simp only [pzB, Bool.and_eq_true, decide_eq_true_eq] at h
    exact ⟨h, fun c hc => by simp [cells] at hc⟩
  | .op w a b, h => by
    simp only [pzB, Bool.and_eq_true, decide_eq_true_eq] at h
    obtain ⟨a1, a2⟩ := pzB_ok h.1.2
    obtain ⟨b1, b2⟩ := pzB_ok h.2
    refine ⟨⟨h.1.1, a1, b1⟩, fun c hc => ?_⟩
    have e : c ∈ cells a ∨ c ∈ cells b := by simpa [cells] using hc
    rcases e with e | e
    · exact a2 _ e
    · exact b2 _ e
theorem fixed_pl : ∀ z ∈ fixedZ, PL z fixL := by
  intro z hz
  have all : (fixedZ.all fun z => pzB z && decide (pzDeep z ≤ 5) && decide (pzMany z ≤ 31) && decide (lv z ≤ 8)) = true := by decide +kernel
  have h := List.all_eq_true.mp all z hz
  simp only [Bool.and_eq_true, decide_eq_true_eq] at h
  obtain ⟨k1, k2⟩ := pzB_ok h.1.1.1
  exact ⟨fix_nums, fix_labs, fix_len, k1, h.1.1.2, h.1.2, h.2, k2⟩
theorem only_cells : ∀ l : List Str, tupOnlyAll (l.map fun x => pzD (.cell "a" x)) = true
  | [] => rfl
  | x :: l => by
    show (tupOnly (pzD (.cell "a" x)) && tupOnlyAll (l.map fun x => pzD (.cell "a" x))) = true
    rw [pz_only, only_cells l]
    rfl
section
variable {P : Program} {w : World} {K : PySem.W.Frag} {mg : Str → Option Value} {base : Heap} {f fF fT fC fW fR c1 P1 : Addr} {fd dF dT dC dW dR : FuncData}
theorem ok_law (F : Fun K "law" "law" sLaw f fd) (mn : mg "len" = none) (mr : mg "range" = none) (mi : mg "min" = none) (ma : mg "max" = none)
    (FF : Fun K "_law_feed" "_law_feed" sFeed fF dF) (GF : FnOk P w K mg base CX0 1 fF dF ["_law_script", "_law_k"] (spFeed K)) (bF : Binds K dF ["_law_script", "_law_k"] []) (gF : mg "_law_feed" = some (.ref fF))
    (FT : Fun K "_law_take" "_law_take" sTake fT dT) (GT : FnOk P w K mg base CX0 1 fT dT ["_law_feed_here", "_law_many"] spTake) (bT : Binds K dT ["_law_feed_here", "_law_many"] []) (gT : mg "_law_take" = some (.ref fT))
    (FC : Fun K "_law_piece" "_law_piece" sPiece fC dC) (GC : FnOk P w K mg base CX0 7 fC dC ["_law_feed_here", "_law_deep", "_law_room"] (spPiece K 5)) (bC : Binds K dC ["_law_feed_here", "_law_deep", "_law_room"] []) (gC : mg "_law_piece" = some (.ref fC))
    (FW : Fun K "_law_worths" "_law_worths" sWo fW dW) (GW : FnOk P w K mg base CX0 7 fW dW ["_law_feed_here", "_law_piece_here"] (spWo K)) (bW : Binds K dW ["_law_feed_here", "_law_piece_here"] []) (gW : mg "_law_worths" = some (.ref fW))
    (FR : Fun K "_law_right" "_law_right" sRi fR dR) (GR : FnG P w K mg base CX0 9 fR dR ["_law_piece_here", "_law_worths_here"] (spRi K P1)) (bR : Binds K dR ["_law_piece_here", "_law_worths_here"] []) (gR : mg "_law_right" = some (.ref fR)) :
    FnG P w K mg base CX0 10 f fd ["_law_script"] (spLaw K [(c1, P1)]) := by
  refine okG F scLaw (fun vs H Q E h => ?_) (fun cv A out s H vs Q E gd hr h => ?_)
  · obtain ⟨a, ns, rfl, _⟩ := h
    rfl
  obtain ⟨a, ns, rfl, hS, hl, hT0, q⟩ := h
  have nd := scLaw.nd
  have hu := hu_of hr
  have zl : sizeLine = 16777216 := rfl
  refine ⟨_, (C8.pss_cut (ps_for PassesOwn.never rfl (pi_range1 (by rfl) mr (pa_cons (pe_callB (call_max2 rfl) (by rfl) ma (by decide +kernel) (pa_cons pe_int (pa_cons (pe_callB (call_min2 rfl) (by rfl) mi (by decide +kernel) (pa_cons pe_int (pa_cons (pe_callB call_len_seq (by rfl) mn PySem.boot_len (pa_cons (pv 0) pa_nil)) pa_nil))) pa_nil))) pa_nil)) (pg_name (i := 1) nd rfl (.inl rfl))
      (pss_cons (ps_set (i := 2) nd rfl (.inl rfl) (pe_call GF (hr.mono (by decide)) (by rfl) gF FF.kp bF .nil pass0 (pa_cons (pv 0) (pa_cons (pv 1) pa_nil))))
      (pss_one (ps_for PassesOwn.never rfl (pi_range1 (by rfl) mr (pa_cons (pe_ix ix_list (pe_lst (pa_cons pe_int (pa_cons pe_int (pa_cons pe_int (pa_cons pe_int (pa_cons pe_int (pa_cons pe_int (pa_cons pe_int (pa_cons pe_int pa_nil))))))))) (pe_call GT (hr.mono (by decide)) (by rfl) gT FT.kp bT .nil pass0 (pa_cons (pv 2) (pa_cons pe_int pa_nil))) (fun _ _ => rfl)) pa_nil)) (pg_name (i := 3) nd rfl (.inl rfl))
        (pss_cons (ps_set (i := 4) nd rfl (.inl rfl) (pe_call GC (hr.mono (by decide)) (by rfl) gC FC.kp bC .nil pass0 (pa_cons (pv 2) (pa_cons pe_int (pa_cons (pe_lst (pa_cons pe_int pa_nil)) pa_nil)))))
        (pss_one (ps_for PassesOwn.never rfl (pi_range1 (by rfl) mr (pa_cons pe_int pa_nil)) (pg_name (i := 5) nd rfl (.inl rfl)) (pss_one (ps_if (pt_not (pt_val (pe_callG GR gd (hr.mono (by decide)) (by rfl) gR FR.kp bR .nil pass0 (pa_cons (pv 4) (pa_cons (pe_call GW (hr.mono (by decide)) (by rfl) gW FW.kp bW .nil pass0 (pa_cons (pv 2) (pa_cons (pv 4) pa_nil))) pa_nil))))) pss_never pss_nil)))))))))
    (pss_cons (ps_asg (pe_lc (own := [("_law_name", 12)]) (g := gName 12) (tt := tYes) rfl nd (pi_tup (pe_tup (pa_cons pe_str (pa_cons pe_str (pa_cons pe_str pa_nil))))) (blkOk_by (N := nLaw) (sc := defScope sLaw) (by decide +kernel)) (fun _ _ _ _ _ => pg_name (i := 12) nd rfl (Or.inl rfl)) (fun _ _ _ _ _ => pts_nil) (fun _ _ _ _ _ => (pe_tup (pa_cons pe_str (pa_cons pe_str (pa_cons (pv 12) pa_nil))))))
        (pg_lst (n := 3) rfl (pgs_cons (pg_name (i := 6) nd rfl (.inl rfl)) (pgs_cons (pg_name (i := 7) nd rfl (.inl rfl)) (pgs_cons (pg_name (i := 8) nd rfl (.inl rfl)) pgs_nil)))))
    (pss_cons (ps_set (i := 9) nd rfl (.inr rfl) (pe_dispT hu (pps_cons (pe_tup (pa_cons pe_str (pa_cons pe_str pa_nil))) pe_int (pps_cons (pe_tup (pa_cons pe_str (pa_cons pe_str pa_nil))) (pe_un un_neg pe_int) (pps_cons (pe_tup (pa_cons pe_str (pa_cons pe_str pa_nil))) pe_non (pps_cons (pe_tup (pa_cons pe_str (pa_cons pe_str pa_nil))) pe_int pps_nil)))) (by rfl) (by rfl) (by simp) (by decide)))
    (pss_cons (ps_set (i := 10) nd rfl (.inl rfl) (pe_tup (pa_cons pe_str (pa_cons (pv 6) (pa_cons (pv 6) pa_nil)))))
    (pss_cons (ps_set (i := 11) nd rfl (.inl rfl) (pe_lst (pa_cons (pe_tup (pa_cons pe_str (pa_cons (pv 6) (pa_cons (pv 7) pa_nil)))) (pa_cons (pe_tup (pa_cons pe_str (pa_cons (pv 7) (pa_cons (pv 6) pa_nil)))) (pa_cons (pe_tup (pa_cons pe_str (pa_cons (pe_tup (pa_cons pe_str (pa_cons (pv 6) (pa_cons (pv 7) pa_nil)))) (pa_cons (pv 7) pa_nil)))) (pa_cons (pe_tup (pa_cons pe_str (pa_cons (pv 6) (pa_cons (pv 10) pa_nil)))) pa_nil))))))
    (pss_cons (ps_set (i := 11) nd rfl (.inl rfl) (pe_op op_cat (pv 11) (pe_lst (pa_cons (pe_tup (pa_cons pe_str (pa_cons (pv 8) (pa_cons (pv 10) pa_nil)))) (pa_cons (pe_tup (pa_cons pe_str (pa_cons (pv 8) (pa_cons (pv 6) pa_nil)))) (pa_cons (pe_tup (pa_cons pe_str (pa_cons (pv 10) (pa_cons (pv 8) pa_nil)))) (pa_cons (pe_tup (pa_cons pe_str (pa_cons (pv 10) (pa_cons (pv 8) pa_nil)))) pa_nil)))))))
    (pss_cons (ps_set (i := 11) nd rfl (.inl rfl) (pe_op op_cat (pv 11) (pe_lst (pa_cons (pe_tup (pa_cons pe_str (pa_cons (pv 8) (pa_cons (pe_tup (pa_cons pe_str (pa_cons (pv 6) (pa_cons (pv 10) pa_nil)))) pa_nil)))) (pa_cons (pe_tup (pa_cons pe_str (pa_cons (pe_tup (pa_cons pe_str (pa_cons (pv 6) (pa_cons (pv 10) pa_nil)))) (pa_cons (pv 8) pa_nil)))) pa_nil)))))
    (pss_cons (ps_set (i := 11) nd rfl (.inl rfl) (pe_op op_cat (pv 11) (pe_lst (pa_cons (pv 8) (pa_cons (pe_tup (pa_cons pe_str (pa_cons (pv 10) (pa_cons (pv 6) pa_nil)))) (pa_cons (pe_tup (pa_cons pe_str (pa_cons (pe_tup (pa_cons pe_str (pa_cons (pe_un un_neg pe_int) pa_nil))) (pa_cons (pe_tup (pa_cons pe_str (pa_cons pe_int pa_nil))) pa_nil)))) pa_nil))))))
    (pss_cons (ps_expr (pe_bm PySem.F.plainAttrs_list PySem.F.slot_list_append PySem.F.type_list_append mt_append (pv 11) (pa_cons (pe_tup (pa_cons pe_str (pa_cons (pe_tup (pa_cons pe_str (pa_cons (pe_op op_sub pe_int (pe_op op_pow pe_int pe_int)) pa_nil))) (pa_cons (pe_tup (pa_cons pe_str (pa_cons pe_int pa_nil))) pa_nil)))) pa_nil)))
    (pss_one (ps_ret (pe_cmpR (op_eqL0 hr.units0) (pe_lc (own := [("_law_piece_here", 4)]) (g := gName 4) rfl nd (pi_list (pv 11)) (blkOk_by (N := nLaw) (sc := defScope sLaw) (by decide +kernel)) (fun _ _ _ _ _ => pg_name (i := 4) nd rfl (Or.inl rfl)) (fun _ _ _ _ _ => pts_one (pt_not (pt_val (pe_callG GR gd (hr.mono (by decide)) (by rfl) gR FR.kp bR .nil pass0 (pa_cons (pv 4) (pa_cons (pv 9) pa_nil)))))) (fun _ _ _ _ _ => pv 4)) (pe_lst pa_nil) (nomark _))))))))))))), ?_⟩
  refine ⟨fun σ' H' => Tabs (tabs1 P1) H' ∧ ∃ x1 x2 x3 x4 x5, σ' = [some (.ref a), x1, x2, x3, x4, x5, none, none, none, none, none, none, none], ?_, ?_⟩
  · have hT : Tabs (tabs1 P1) H := fun t ht => by
      simp only [tabs1, List.mem_cons, List.not_mem_nil, or_false] at ht
      subst ht
      exact TabS.nil (hT0 (c1, P1) (by simp))
    have lo5 : ∀ m : Int, 0 ≤ m → 0 ≤ (if m < 5 then m else 5) ∧ (if m < 5 then m else 5) ≤ 5 := by
      intro m h0
      split <;> omega
    obtain ⟨b0, b5⟩ := lo5 ((ns.map V.int).length : Int) (by omega)
    generalize hmm : (if ((ns.map V.int).length : Int) < 5 then ((ns.map V.int).length : Int) else 5) = mn at b0 b5
    have hi1 : ∀ m : Int, 0 ≤ m → m ≤ 5 → 0 ≤ (if m > 1 then m else 1) ∧ (if m > 1 then m else 1) ≤ 5 := by
      intro m h0 h5
      split <;> omega
    obtain ⟨c0, c5⟩ := hi1 mn b0 b5
    refine ⟨_, rfl, a, _, rfl, .inl hS, 5, _, rfl, 1, _, rfl, ?_⟩
    rw [hmm]
    refine ⟨_, rfl, by omega, by omega, ?_⟩
    refine for_range (lo := 0) (fun i σ H' => SqL K H' a (ns.map V.int) ∧ Tabs (tabs1 P1) H' ∧ ∃ x1 x2 x3 x4 x5, σ = [some (.ref a), x1, x2, x3, x4, x5, none, none, none, none, none, none, none]) ⟨hS, hT, _, _, _, _, _, rfl⟩ ?_ ?_
    · rintro i σ H1 hi ⟨hS1, hT1, x1, x2, x3, x4, x5, rfl⟩
      have hi5 : (i : Int) < 5 := by omega
      refine ⟨_, rfl, _, rfl, a, ns, 0 + i, rfl, hS1, by omega, by omega, fun p fs np hF => ?_⟩
      have xp : Ex1 p H1 (upd H1 p (.lst fs)) := .at
      have hT2 := hT1.ext (new_same (o := .lst fs) np)
      generalize upd H1 p (.lst fs) = H2 at hF xp hT2 ⊢
      refine ⟨(by show 8 ≤ sizeLine; decide), fun z8 n8 => ?_⟩
      have jz := new_same (o := .lst [.int 3, .int 1, .int 4, .int 1, .int 8, .int 2, .int 5, .int 3]) n8
      refine ⟨_, rfl, p, 8, 0, rfl, feed_same hF jz, by omega, by omega, by omega, fun r H3 r0 r1 F3 y3 => ?_⟩
      have hT3 := tabs_feed (hT2.ext jz) (feed_same hF jz) y3
      have ez := y3 z8 _ (hF.ne n8) upd_same
      obtain ⟨nt, hnt, ea⟩ := at_map (f := V.int) (xs := [3, 1, 4, 1, 8, 2, 5, 3]) (r := r) r0 r1
      have ntb : 0 ≤ nt ∧ nt ≤ 8 := by
        simp only [List.mem_cons, List.not_mem_nil, or_false] at hnt
        rcases hnt with rfl | rfl | rfl | rfl | rfl | rfl | rfl | rfl <;> omega
      refine ⟨z8, _, r, .int nt, rfl, rfl, SqL.of ez, ea, nt, rfl, by omega, by omega, ?_⟩
      have X3 : ExP p H1 H3 := ExP.of1 (xp.trans ((Ex1.new n8).trans y3))
      refine for_range (lo := 0) (n := nt.toNat) (fun j σ H' => ExP p H1 H' ∧ Tabs (tabs1 P1) H' ∧ Feed H' p (1 + 3000 * j) ∧ ∃ x3 x4 x5, σ = [some (.ref a), some (.int (0 + i)), some (.ref p), x3, x4, x5, none, none, none, none, none, none, none]) ⟨X3, hT3, F3.le (by omega), _, _, _, rfl⟩ ?_ ?_
      · rintro j σ H' hj ⟨XX, TT, FF', y3, y4, y5, rfl⟩
        have hj8 : (j : Int) < 8 := by omega
        have r5 : room 5 = 2046 := by decide
        refine ⟨_, rfl, (by show 1 ≤ sizeLine; decide), fun qr nqr => ?_⟩
        refine ⟨p, qr, 5, 1 + 3000 * j, 15, rfl, rfl, by omega, by omega, FF'.ne nqr, FF'.stays nqr, by omega, upd_same, by omega, by omega, fun v d c H4 x4 F4 e4 D4 P4 le4 => ?_⟩
        have Y4 := ex1_off nqr x4
        have X4 : ExP p H1 H4 := XX.trans (ExP.of1 Y4)
        have T4 := tabs_feed TT FF' Y4
        obtain ⟨z, rfl, zok, zd, zm⟩ := pc_pz P4
        have zm15 : pzMany z ≤ 15 := by omega
        have zl8 : lv z ≤ 8 := by have := lv_many z; omega
        refine ⟨_, rfl, by decide, by decide, ?_⟩
        refine for_range (lo := 0) (n := 3) (fun k σ H' => ExP p H1 H' ∧ Tabs (tabs1 P1) H' ∧ Feed H' p (1 + 3000 * j + 2046 + 200 * k) ∧ Dp K H' v (pzD z) ∧ ∃ x5, σ = [some (.ref a), some (.int (0 + i)), some (.ref p), some (.int (0 + j)), some v, x5, none, none, none, none, none, none, none]) ⟨X4, T4, F4.le (by omega), D4, _, rfl⟩ ?_ ?_
        · rintro k σ H5 hk ⟨X5, T5, F5, D5, y5, rfl⟩
          have hk3 : (k : Int) < 3 := by omega
          refine ⟨_, rfl, _, rfl, _, rfl, p, v, z, _, rfl, F5, by omega, D5, zok, zd, by omega, fun l L H6 x6 nl hL6 nu la ce l40 F6 => ?_⟩
          obtain ⟨xs5, ep5⟩ := F5.lst
          have D6 := Dp.tups (Ex1.tups (K := K) x6 ep5) _ (pz_only z) D5
          have T6 := tabs_feed T5 F5 x6
          refine ⟨v, l, z, L, rfl, ⟨nu, la, l40, zok, zd, by omega, zl8, ce⟩, hL6, D6, T6, fun H7 x7 T7 => ⟨_, rfl, iteF ?_⟩⟩
          exact ⟨X5.trans ((ExP.of1 x6).trans (ExP.ofN x7)), T7, (feed_extN F6 x7).le (by omega), Dp.tups (tups_ext x7) _ (pz_only z) D6, _, rfl⟩
        · rintro σ H5 ⟨X5, T5, F5, D5, y5, rfl⟩
          exact ⟨X5, T5, F5.le (by omega), _, _, _, rfl⟩
      · rintro σ H' ⟨XX, TT, _, y3, y4, y5, rfl⟩
        exact ⟨exP_seq np XX hS1, TT, _, _, _, _, _, rfl⟩
    · rintro σ H1 ⟨hS1, hT1, x1, x2, x3, x4, x5, rfl⟩
      exact ⟨hT1, _, _, _, _, _, rfl⟩
  rintro σ' H1 ⟨hT, x1, x2, x3, x4, x5, rfl⟩
  -- the three cells
  refine ⟨(by show 3 ≤ sizeLine; decide), fun t1 n1 => ?_⟩
  have j1 := new_same (o := .tup [.str "one", .str "other", .str "none"]) n1
  have e1 : upd H1 t1 (.tup [.str "one", .str "other", .str "none"]) t1 = some (.tup [.str "one", .str "other", .str "none"]) := upd_same
  have hT2 := hT.ext j1
  generalize upd H1 t1 (.tup [.str "one", .str "other", .str "none"]) = H2 at e1 hT2 ⊢
  refine ⟨t1, rfl, ⟨_, SqT.of e1⟩, fun D nD => ?_⟩
  refine lc_tup (K := K) (a := t1) (xs := (["one", "other", "none"] : List Str).map V.str) (fun i H' => Same H2 H' ∧ ∃ acc, H' D = some (.lst acc) ∧ acc.length = i ∧ DpAll K H' acc (((["one", "other", "none"] : List Str).take i).map fun x => pzD (.cell "a" x))) ⟨new_same nD, [], upd_same, rfl, .nil⟩ (fun i H' _ y => SqT.of (y.1 _ _ e1)) ?_ ?_
  · rintro i x H' hx ⟨sm, acc, eD, la, dA⟩
    rw [List.getElem?_map, Option.map_eq_some_iff] at hx
    obtain ⟨nm, hnm, rfl⟩ := hx
    refine ⟨rfl, ?_⟩
    refine ⟨_, rfl, (by show 3 ≤ sizeLine; decide), fun t nt => ?_⟩
    have jt := new_same (o := .tup [.str "cell", .str "a", .str nm]) nt
    have dt : Dp K (upd H' t (.tup [.str "cell", .str "a", .str nm])) (.ref t) (pzD (.cell "a" nm)) := .tup (SqT.of upd_same) (.cons (.str _) (.cons (.str _) (.cons (.str _) .nil)))
    have dA2 := DpAll.same jt _ dA
    have eD2 := jt _ _ eD
    generalize upd H' t (.tup [.str "cell", .str "a", .str nm]) = H'' at jt dt dA2 eD2 ⊢
    have hi : i < 3 := by
      have := (List.getElem?_eq_some_iff.mp hnm).1
      simpa using this
    have tp : Tups K H'' (upd H'' D (.lst (acc ++ [.ref t]))) := .upd_lst eD2
    refine ⟨acc, eD2, by omega, fun b u e => ?_, acc ++ [.ref t], upd_same, by rw [List.length_append, la]; rfl, ?_⟩
    · rw [upd_ne (ne_of_none e nD)]
      exact jt _ _ (sm _ _ e)
    · rw [List.take_add_one, hnm, List.map_append]
      refine DpAll.snoc (DpAll.tups tp _ ?_ dA2) (Dp.tups tp _ (pz_only _) dt)
      exact only_cells _
  rintro H3 ⟨sm, acc, eD, la, dA⟩
  have la3 : acc.length = 3 := by simpa using la
  have dA3 : DpAll K H3 acc [pzD (.cell "a" "one"), pzD (.cell "a" "other"), pzD (.cell "a" "none")] := by simpa using dA
  have hT3 := hT2.ext sm
  cases dA3 with
  | @cons v1 _ _ _ d1 dA3 =>
  cases dA3 with
  | @cons v2 _ _ _ d2 dA3 =>
  cases dA3 with
  | @cons v3 _ _ _ d3 dA3 =>
  cases dA3
  refine ⟨D, _, rfl, SqL.of eD, rfl, _, _, rfl, _, _, rfl, _, _, rfl, rfl, ?_⟩
  clear dA la la3 sm e1 hT hT2 j1
  -- the look
  intro aD naD
  have eK0 : upd H3 aD (.dT []) aD = some (.dT []) := upd_same
  have s0 := new_same (o := .dT []) naD
  generalize upd H3 aD (.dT []) = K0 at eK0 s0 ⊢
  refine ⟨(by show 2 ≤ sizeLine; decide), fun k1 nk1 => ?_⟩
  have jk1 := new_same (o := .tup [.str "a", .str "one"]) nk1
  have ek1 : upd K0 k1 (.tup [.str "a", .str "one"]) k1 = some (.tup [.str "a", .str "one"]) := upd_same
  have eK1 := jk1 _ _ eK0
  have s1 := s0.trans jk1
  clear eK0 s0
  generalize upd K0 k1 (.tup [.str "a", .str "one"]) = K1 at jk1 eK1 s1 ek1 ⊢
  refine ⟨(by show 2 ≤ sizeLine; decide), fun k2 nk2 => ?_⟩
  have jk2 := new_same (o := .tup [.str "a", .str "other"]) nk2
  have ek2 : upd K1 k2 (.tup [.str "a", .str "other"]) k2 = some (.tup [.str "a", .str "other"]) := upd_same
  have ek1 := jk2 _ _ ek1
  have eK2 := jk2 _ _ eK1
  have s2 := s1.trans jk2
  clear eK1 s1
  generalize upd K1 k2 (.tup [.str "a", .str "other"]) = K2 at jk2 eK2 s2 ek1 ek2 ⊢
  refine ⟨_, rfl, (by show 2 ≤ sizeLine; decide), fun k3 nk3 => ?_⟩
  have jk3 := new_same (o := .tup [.str "a", .str "none"]) nk3
  have ek3 : upd K2 k3 (.tup [.str "a", .str "none"]) k3 = some (.tup [.str "a", .str "none"]) := upd_same
  have ek1 := jk3 _ _ ek1
  have ek2 := jk3 _ _ ek2
  have eK3 := jk3 _ _ eK2
  have s3 := s2.trans jk3
  clear eK2 s2
  generalize upd K2 k3 (.tup [.str "a", .str "none"]) = K3 at jk3 eK3 s3 ek1 ek2 ek3 ⊢
  refine ⟨(by show 2 ≤ sizeLine; decide), fun k4 nk4 => ?_⟩
  have jk4 := new_same (o := .tup [.str "b", .str "one"]) nk4
  have ek4 : upd K3 k4 (.tup [.str "b", .str "one"]) k4 = some (.tup [.str "b", .str "one"]) := upd_same
  have ek1 := jk4 _ _ ek1
  have ek2 := jk4 _ _ ek2
  have ek3 := jk4 _ _ ek3
  have eK4 := jk4 _ _ eK3
  have s4 := s3.trans jk4
  clear eK3 s3
  generalize upd K3 k4 (.tup [.str "b", .str "one"]) = K4 at jk4 eK4 s4 ek1 ek2 ek3 ek4 ⊢
  refine ⟨eK4, fixE, .cons ⟨⟨k1, rfl, ek1⟩, rfl⟩ (.cons ⟨⟨k2, rfl, ek2⟩, rfl⟩ (.cons ⟨⟨k3, rfl, ek3⟩, rfl⟩ (.cons ⟨⟨k4, rfl, ek4⟩, rfl⟩ .nil))), by decide, ?_⟩
  have sL : Same H3 (upd K4 aD (.dT (mergeT [] fixE))) := fun b o e => by
    rw [upd_ne (ne_of_none e naD)]
    exact s4 _ _ e
  have hLk : upd K4 aD (.dT (mergeT [] fixE)) aD = some (.dT (encL fixL)) := by rw [upd_same, fix_merge]
  generalize upd K4 aD (.dT (mergeT [] fixE)) = H0 at sL hLk ⊢
  have d1 := Dp.same sL _ d1
  have d2 := Dp.same sL _ d2
  have d3 := Dp.same sL _ d3
  have hTb := hT3.ext sL
  clear s4 sL eK4 ek1 ek2 ek3 ek4
  refine ⟨_, rfl, _, rfl, (by show 3 ≤ sizeLine; decide), fun q1 n1 => ?_⟩
  have j1 := new_same (o := .tup [.str "less", v1, v1]) n1
  have x1 : Dp K (upd H0 q1 (.tup [.str "less", v1, v1])) (.ref q1) (pzD (.op "less" (.cell "a" "one") (.cell "a" "one"))) := .tup (SqT.of upd_same) (.cons (.str _) (.cons (Dp.same j1 _ d1) (.cons (Dp.same j1 _ d1) .nil)))
  have d1 := Dp.same j1 _ d1
  have d2 := Dp.same j1 _ d2
  have d3 := Dp.same j1 _ d3
  have hLk := j1 _ _ hLk
  generalize upd H0 q1 (.tup [.str "less", v1, v1]) = G1 at j1 x1 d1 d2 d3 hLk ⊢
  refine ⟨_, rfl, _, rfl, (by show 3 ≤ sizeLine; decide), fun q2 n2 => ?_⟩
  have j2 := new_same (o := .tup [.str "over", v1, v2]) n2
  have x2 : Dp K (upd G1 q2 (.tup [.str "over", v1, v2])) (.ref q2) (pzD (.op "over" (.cell "a" "one") (.cell "a" "other"))) := .tup (SqT.of upd_same) (.cons (.str _) (.cons (Dp.same j2 _ d1) (.cons (Dp.same j2 _ d2) .nil)))
  have d1 := Dp.same j2 _ d1
  have d2 := Dp.same j2 _ d2
  have d3 := Dp.same j2 _ d3
  have x1 := Dp.same j2 _ x1
  have hLk := j2 _ _ hLk
  generalize upd G1 q2 (.tup [.str "over", v1, v2]) = G2 at j2 x2 d1 d2 d3 x1 hLk ⊢
  refine ⟨_, rfl, _, rfl, (by show 3 ≤ sizeLine; decide), fun q3 n3 => ?_⟩
  have j3 := new_same (o := .tup [.str "over", v2, v1]) n3
  have x3 : Dp K (upd G2 q3 (.tup [.str "over", v2, v1])) (.ref q3) (pzD (.op "over" (.cell "a" "other") (.cell "a" "one"))) := .tup (SqT.of upd_same) (.cons (.str _) (.cons (Dp.same j3 _ d2) (.cons (Dp.same j3 _ d1) .nil)))
  have d1 := Dp.same j3 _ d1
  have d2 := Dp.same j3 _ d2
  have d3 := Dp.same j3 _ d3
  have x1 := Dp.same j3 _ x1
  have x2 := Dp.same j3 _ x2
  have hLk := j3 _ _ hLk
  generalize upd G2 q3 (.tup [.str "over", v2, v1]) = G3 at j3 x3 d1 d2 d3 x1 x2 hLk ⊢
  refine ⟨_, rfl, _, rfl, (by show 3 ≤ sizeLine; decide), fun q4 n4 => ?_⟩
  have j4 := new_same (o := .tup [.str "over", v1, v2]) n4
  have x4 : Dp K (upd G3 q4 (.tup [.str "over", v1, v2])) (.ref q4) (pzD (.op "over" (.cell "a" "one") (.cell "a" "other"))) := .tup (SqT.of upd_same) (.cons (.str _) (.cons (Dp.same j4 _ d1) (.cons (Dp.same j4 _ d2) .nil)))
  have d1 := Dp.same j4 _ d1
  have d2 := Dp.same j4 _ d2
  have d3 := Dp.same j4 _ d3
  have x1 := Dp.same j4 _ x1
  have x2 := Dp.same j4 _ x2
  have x3 := Dp.same j4 _ x3
  have hLk := j4 _ _ hLk
  generalize upd G3 q4 (.tup [.str "over", v1, v2]) = G4 at j4 x4 d1 d2 d3 x1 x2 x3 hLk ⊢
  refine ⟨_, rfl, (by show 3 ≤ sizeLine; decide), fun q5 n5 => ?_⟩
  have j5 := new_same (o := .tup [.str "over", .ref q4, v2]) n5
  have x5 : Dp K (upd G4 q5 (.tup [.str "over", .ref q4, v2])) (.ref q5) (pzD (.op "over" (.op "over" (.cell "a" "one") (.cell "a" "other")) (.cell "a" "other"))) := .tup (SqT.of upd_same) (.cons (.str _) (.cons (Dp.same j5 _ x4) (.cons (Dp.same j5 _ d2) .nil)))
  have d1 := Dp.same j5 _ d1
  have d2 := Dp.same j5 _ d2
  have d3 := Dp.same j5 _ d3
  have x1 := Dp.same j5 _ x1
  have x2 := Dp.same j5 _ x2
  have x3 := Dp.same j5 _ x3
  have x4 := Dp.same j5 _ x4
  have hLk := j5 _ _ hLk
  generalize upd G4 q5 (.tup [.str "over", .ref q4, v2]) = G5 at j5 x5 d1 d2 d3 x1 x2 x3 x4 hLk ⊢
  refine ⟨_, rfl, _, rfl, (by show 3 ≤ sizeLine; decide), fun q6 n6 => ?_⟩
  have j6 := new_same (o := .tup [.str "over", v1, .ref q1]) n6
  have x6 : Dp K (upd G5 q6 (.tup [.str "over", v1, .ref q1])) (.ref q6) (pzD (.op "over" (.cell "a" "one") (.op "less" (.cell "a" "one") (.cell "a" "one")))) := .tup (SqT.of upd_same) (.cons (.str _) (.cons (Dp.same j6 _ d1) (.cons (Dp.same j6 _ x1) .nil)))
  have d1 := Dp.same j6 _ d1
  have d2 := Dp.same j6 _ d2
  have d3 := Dp.same j6 _ d3
  have x1 := Dp.same j6 _ x1
  have x2 := Dp.same j6 _ x2
  have x3 := Dp.same j6 _ x3
  have x4 := Dp.same j6 _ x4
  have x5 := Dp.same j6 _ x5
  have hLk := j6 _ _ hLk
  generalize upd G5 q6 (.tup [.str "over", v1, .ref q1]) = G6 at j6 x6 d1 d2 d3 x1 x2 x3 x4 x5 hLk ⊢
  refine ⟨(by show 4 ≤ sizeLine; decide), fun q7 n7 => ?_⟩
  have j7 := new_same (o := .lst [.ref q2, .ref q3, .ref q5, .ref q6]) n7
  have e7 : upd G6 q7 (.lst [.ref q2, .ref q3, .ref q5, .ref q6]) q7 = some (.lst [.ref q2, .ref q3, .ref q5, .ref q6]) := upd_same
  have d1 := Dp.same j7 _ d1
  have d2 := Dp.same j7 _ d2
  have d3 := Dp.same j7 _ d3
  have x1 := Dp.same j7 _ x1
  have x2 := Dp.same j7 _ x2
  have x3 := Dp.same j7 _ x3
  have x4 := Dp.same j7 _ x4
  have x5 := Dp.same j7 _ x5
  have x6 := Dp.same j7 _ x6
  have hLk := j7 _ _ hLk
  generalize upd G6 q7 (.lst [.ref q2, .ref q3, .ref q5, .ref q6]) = G7 at j7 e7 d1 d2 d3 x1 x2 x3 x4 x5 x6 hLk ⊢
  refine ⟨_, rfl, _, rfl, _, rfl, (by show 3 ≤ sizeLine; decide), fun q8 n8 => ?_⟩
  have j8 := new_same (o := .tup [.str "over", v3, .ref q1]) n8
  have x8 : Dp K (upd G7 q8 (.tup [.str "over", v3, .ref q1])) (.ref q8) (pzD (.op "over" (.cell "a" "none") (.op "less" (.cell "a" "one") (.cell "a" "one")))) := .tup (SqT.of upd_same) (.cons (.str _) (.cons (Dp.same j8 _ d3) (.cons (Dp.same j8 _ x1) .nil)))
  have d1 := Dp.same j8 _ d1
  have d2 := Dp.same j8 _ d2
  have d3 := Dp.same j8 _ d3
  have x1 := Dp.same j8 _ x1
  have x2 := Dp.same j8 _ x2
  have x3 := Dp.same j8 _ x3
  have x4 := Dp.same j8 _ x4
  have x5 := Dp.same j8 _ x5
  have x6 := Dp.same j8 _ x6
  have hLk := j8 _ _ hLk
  have e7 := j8 _ _ e7
  generalize upd G7 q8 (.tup [.str "over", v3, .ref q1]) = G8 at j8 x8 d1 d2 d3 x1 x2 x3 x4 x5 x6 hLk e7 ⊢
  refine ⟨_, rfl, _, rfl, (by show 3 ≤ sizeLine; decide), fun q9 n9 => ?_⟩
  have j9 := new_same (o := .tup [.str "over", v3, v1]) n9
  have x9 : Dp K (upd G8 q9 (.tup [.str "over", v3, v1])) (.ref q9) (pzD (.op "over" (.cell "a" "none") (.cell "a" "one"))) := .tup (SqT.of upd_same) (.cons (.str _) (.cons (Dp.same j9 _ d3) (.cons (Dp.same j9 _ d1) .nil)))
  have d1 := Dp.same j9 _ d1
  have d2 := Dp.same j9 _ d2
  have d3 := Dp.same j9 _ d3
  have x1 := Dp.same j9 _ x1
  have x2 := Dp.same j9 _ x2
  have x3 := Dp.same j9 _ x3
  have x4 := Dp.same j9 _ x4
  have x5 := Dp.same j9 _ x5
  have x6 := Dp.same j9 _ x6
  have x8 := Dp.same j9 _ x8
  have hLk := j9 _ _ hLk
  have e7 := j9 _ _ e7
  generalize upd G8 q9 (.tup [.str "over", v3, v1]) = G9 at j9 x9 d1 d2 d3 x1 x2 x3 x4 x5 x6 x8 hLk e7 ⊢
  refine ⟨_, rfl, _, rfl, (by show 3 ≤ sizeLine; decide), fun q10 n10 => ?_⟩
  have j10 := new_same (o := .tup [.str "over", .ref q1, v3]) n10
  have x10 : Dp K (upd G9 q10 (.tup [.str "over", .ref q1, v3])) (.ref q10) (pzD (.op "over" (.op "less" (.cell "a" "one") (.cell "a" "one")) (.cell "a" "none"))) := .tup (SqT.of upd_same) (.cons (.str _) (.cons (Dp.same j10 _ x1) (.cons (Dp.same j10 _ d3) .nil)))
  have d1 := Dp.same j10 _ d1
  have d2 := Dp.same j10 _ d2
  have d3 := Dp.same j10 _ d3
  have x1 := Dp.same j10 _ x1
  have x2 := Dp.same j10 _ x2
  have x3 := Dp.same j10 _ x3
  have x4 := Dp.same j10 _ x4
  have x5 := Dp.same j10 _ x5
  have x6 := Dp.same j10 _ x6
  have x8 := Dp.same j10 _ x8
  have x9 := Dp.same j10 _ x9
  have hLk := j10 _ _ hLk
  have e7 := j10 _ _ e7
  generalize upd G9 q10 (.tup [.str "over", .ref q1, v3]) = G10 at j10 x10 d1 d2 d3 x1 x2 x3 x4 x5 x6 x8 x9 hLk e7 ⊢
  refine ⟨_, rfl, _, rfl, (by show 3 ≤ sizeLine; decide), fun q11 n11 => ?_⟩
  have j11 := new_same (o := .tup [.str "times", .ref q1, v3]) n11
  have x11 : Dp K (upd G10 q11 (.tup [.str "times", .ref q1, v3])) (.ref q11) (pzD (.op "times" (.op "less" (.cell "a" "one") (.cell "a" "one")) (.cell "a" "none"))) := .tup (SqT.of upd_same) (.cons (.str _) (.cons (Dp.same j11 _ x1) (.cons (Dp.same j11 _ d3) .nil)))
  have d1 := Dp.same j11 _ d1
  have d2 := Dp.same j11 _ d2
  have d3 := Dp.same j11 _ d3
  have x1 := Dp.same j11 _ x1
  have x2 := Dp.same j11 _ x2
  have x3 := Dp.same j11 _ x3
  have x4 := Dp.same j11 _ x4
  have x5 := Dp.same j11 _ x5
  have x6 := Dp.same j11 _ x6
  have x8 := Dp.same j11 _ x8
  have x9 := Dp.same j11 _ x9
  have x10 := Dp.same j11 _ x10
  have hLk := j11 _ _ hLk
  have e7 := j11 _ _ e7
  generalize upd G10 q11 (.tup [.str "times", .ref q1, v3]) = G11 at j11 x11 d1 d2 d3 x1 x2 x3 x4 x5 x6 x8 x9 x10 hLk e7 ⊢
  refine ⟨(by show 4 ≤ sizeLine; decide), fun q12 n12 => ?_⟩
  have j12 := new_same (o := .lst [.ref q8, .ref q9, .ref q10, .ref q11]) n12
  have e12 : upd G11 q12 (.lst [.ref q8, .ref q9, .ref q10, .ref q11]) q12 = some (.lst [.ref q8, .ref q9, .ref q10, .ref q11]) := upd_same
  have d1 := Dp.same j12 _ d1
  have d2 := Dp.same j12 _ d2
  have d3 := Dp.same j12 _ d3
  have x1 := Dp.same j12 _ x1
  have x2 := Dp.same j12 _ x2
  have x3 := Dp.same j12 _ x3
  have x4 := Dp.same j12 _ x4
  have x5 := Dp.same j12 _ x5
  have x6 := Dp.same j12 _ x6
  have x8 := Dp.same j12 _ x8
  have x9 := Dp.same j12 _ x9
  have x10 := Dp.same j12 _ x10
  have x11 := Dp.same j12 _ x11
  have hLk := j12 _ _ hLk
  have e7 := j12 _ _ e7
  generalize upd G11 q12 (.lst [.ref q8, .ref q9, .ref q10, .ref q11]) = G12 at j12 e12 d1 d2 d3 x1 x2 x3 x4 x5 x6 x8 x9 x10 x11 hLk e7 ⊢
  refine ⟨q7, q12, _, _, rfl, rfl, e7, e12, (by show 8 ≤ sizeLine; decide), fun q13 n13 => ?_⟩
  have j13 := new_same (o := .lst ([.ref q2, .ref q3, .ref q5, .ref q6] ++ [.ref q8, .ref q9, .ref q10, .ref q11])) n13
  have e13 : upd G12 q13 (.lst ([.ref q2, .ref q3, .ref q5, .ref q6] ++ [.ref q8, .ref q9, .ref q10, .ref q11])) q13 = some (.lst ([.ref q2, .ref q3, .ref q5, .ref q6] ++ [.ref q8, .ref q9, .ref q10, .ref q11])) := upd_same
  have d1 := Dp.same j13 _ d1
  have d2 := Dp.same j13 _ d2
  have d3 := Dp.same j13 _ d3
  have x1 := Dp.same j13 _ x1
  have x2 := Dp.same j13 _ x2
  have x3 := Dp.same j13 _ x3
  have x4 := Dp.same j13 _ x4
  have x5 := Dp.same j13 _ x5
  have x6 := Dp.same j13 _ x6
  have x8 := Dp.same j13 _ x8
  have x9 := Dp.same j13 _ x9
  have x10 := Dp.same j13 _ x10
  have x11 := Dp.same j13 _ x11
  have hLk := j13 _ _ hLk
  generalize upd G12 q13 (.lst ([.ref q2, .ref q3, .ref q5, .ref q6] ++ [.ref q8, .ref q9, .ref q10, .ref q11])) = G13 at j13 e13 d1 d2 d3 x1 x2 x3 x4 x5 x6 x8 x9 x10 x11 hLk ⊢
  replace e13 : G13 q13 = some (.lst [.ref q2, .ref q3, .ref q5, .ref q6, .ref q8, .ref q9, .ref q10, .ref q11]) := e13
  refine ⟨_, rfl, _, rfl, _, rfl, _, rfl, (by show 3 ≤ sizeLine; decide), fun q14 n14 => ?_⟩
  have j14 := new_same (o := .tup [.str "over", v1, .ref q1]) n14
  have x14 : Dp K (upd G13 q14 (.tup [.str "over", v1, .ref q1])) (.ref q14) (pzD (.op "over" (.cell "a" "one") (.op "less" (.cell "a" "one") (.cell "a" "one")))) := .tup (SqT.of upd_same) (.cons (.str _) (.cons (Dp.same j14 _ d1) (.cons (Dp.same j14 _ x1) .nil)))
  have d1 := Dp.same j14 _ d1
  have d2 := Dp.same j14 _ d2
  have d3 := Dp.same j14 _ d3
  have x1 := Dp.same j14 _ x1
  have x2 := Dp.same j14 _ x2
  have x3 := Dp.same j14 _ x3
  have x4 := Dp.same j14 _ x4
  have x5 := Dp.same j14 _ x5
  have x6 := Dp.same j14 _ x6
  have x8 := Dp.same j14 _ x8
  have x9 := Dp.same j14 _ x9
  have x10 := Dp.same j14 _ x10
  have x11 := Dp.same j14 _ x11
  have hLk := j14 _ _ hLk
  have e13 := j14 _ _ e13
  generalize upd G13 q14 (.tup [.str "over", v1, .ref q1]) = G14 at j14 x14 d1 d2 d3 x1 x2 x3 x4 x5 x6 x8 x9 x10 x11 hLk e13 ⊢
  refine ⟨(by show 3 ≤ sizeLine; decide), fun q15 n15 => ?_⟩
  have j15 := new_same (o := .tup [.str "plus", v3, .ref q14]) n15
  have x15 : Dp K (upd G14 q15 (.tup [.str "plus", v3, .ref q14])) (.ref q15) (pzD (.op "plus" (.cell "a" "none") (.op "over" (.cell "a" "one") (.op "less" (.cell "a" "one") (.cell "a" "one"))))) := .tup (SqT.of upd_same) (.cons (.str _) (.cons (Dp.same j15 _ d3) (.cons (Dp.same j15 _ x14) .nil)))
  have d1 := Dp.same j15 _ d1
  have d2 := Dp.same j15 _ d2
  have d3 := Dp.same j15 _ d3
  have x1 := Dp.same j15 _ x1
  have x2 := Dp.same j15 _ x2
  have x3 := Dp.same j15 _ x3
  have x4 := Dp.same j15 _ x4
  have x5 := Dp.same j15 _ x5
  have x6 := Dp.same j15 _ x6
  have x8 := Dp.same j15 _ x8
  have x9 := Dp.same j15 _ x9
  have x10 := Dp.same j15 _ x10
  have x11 := Dp.same j15 _ x11
  have x14 := Dp.same j15 _ x14
  have hLk := j15 _ _ hLk
  have e13 := j15 _ _ e13
  generalize upd G14 q15 (.tup [.str "plus", v3, .ref q14]) = G15 at j15 x15 d1 d2 d3 x1 x2 x3 x4 x5 x6 x8 x9 x10 x11 x14 hLk e13 ⊢
  refine ⟨_, rfl, _, rfl, (by show 3 ≤ sizeLine; decide), fun q16 n16 => ?_⟩
  have j16 := new_same (o := .tup [.str "over", v1, .ref q1]) n16
  have x16 : Dp K (upd G15 q16 (.tup [.str "over", v1, .ref q1])) (.ref q16) (pzD (.op "over" (.cell "a" "one") (.op "less" (.cell "a" "one") (.cell "a" "one")))) := .tup (SqT.of upd_same) (.cons (.str _) (.cons (Dp.same j16 _ d1) (.cons (Dp.same j16 _ x1) .nil)))
  have d1 := Dp.same j16 _ d1
  have d2 := Dp.same j16 _ d2
  have d3 := Dp.same j16 _ d3
  have x1 := Dp.same j16 _ x1
  have x2 := Dp.same j16 _ x2
  have x3 := Dp.same j16 _ x3
  have x4 := Dp.same j16 _ x4
  have x5 := Dp.same j16 _ x5
  have x6 := Dp.same j16 _ x6
  have x8 := Dp.same j16 _ x8
  have x9 := Dp.same j16 _ x9
  have x10 := Dp.same j16 _ x10
  have x11 := Dp.same j16 _ x11
  have x14 := Dp.same j16 _ x14
  have x15 := Dp.same j16 _ x15
  have hLk := j16 _ _ hLk
  have e13 := j16 _ _ e13
  generalize upd G15 q16 (.tup [.str "over", v1, .ref q1]) = G16 at j16 x16 d1 d2 d3 x1 x2 x3 x4 x5 x6 x8 x9 x10 x11 x14 x15 hLk e13 ⊢
  refine ⟨_, rfl, (by show 3 ≤ sizeLine; decide), fun q17 n17 => ?_⟩
  have j17 := new_same (o := .tup [.str "plus", .ref q16, v3]) n17
  have x17 : Dp K (upd G16 q17 (.tup [.str "plus", .ref q16, v3])) (.ref q17) (pzD (.op "plus" (.op "over" (.cell "a" "one") (.op "less" (.cell "a" "one") (.cell "a" "one"))) (.cell "a" "none"))) := .tup (SqT.of upd_same) (.cons (.str _) (.cons (Dp.same j17 _ x16) (.cons (Dp.same j17 _ d3) .nil)))
  have d1 := Dp.same j17 _ d1
  have d2 := Dp.same j17 _ d2
  have d3 := Dp.same j17 _ d3
  have x1 := Dp.same j17 _ x1
  have x2 := Dp.same j17 _ x2
  have x3 := Dp.same j17 _ x3
  have x4 := Dp.same j17 _ x4
  have x5 := Dp.same j17 _ x5
  have x6 := Dp.same j17 _ x6
  have x8 := Dp.same j17 _ x8
  have x9 := Dp.same j17 _ x9
  have x10 := Dp.same j17 _ x10
  have x11 := Dp.same j17 _ x11
  have x14 := Dp.same j17 _ x14
  have x15 := Dp.same j17 _ x15
  have x16 := Dp.same j17 _ x16
  have hLk := j17 _ _ hLk
  have e13 := j17 _ _ e13
  generalize upd G16 q17 (.tup [.str "plus", .ref q16, v3]) = G17 at j17 x17 d1 d2 d3 x1 x2 x3 x4 x5 x6 x8 x9 x10 x11 x14 x15 x16 hLk e13 ⊢
  refine ⟨(by show 2 ≤ sizeLine; decide), fun q18 n18 => ?_⟩
  have j18 := new_same (o := .lst [.ref q15, .ref q17]) n18
  have e18 : upd G17 q18 (.lst [.ref q15, .ref q17]) q18 = some (.lst [.ref q15, .ref q17]) := upd_same
  have d1 := Dp.same j18 _ d1
  have d2 := Dp.same j18 _ d2
  have d3 := Dp.same j18 _ d3
  have x1 := Dp.same j18 _ x1
  have x2 := Dp.same j18 _ x2
  have x3 := Dp.same j18 _ x3
  have x4 := Dp.same j18 _ x4
  have x5 := Dp.same j18 _ x5
  have x6 := Dp.same j18 _ x6
  have x8 := Dp.same j18 _ x8
  have x9 := Dp.same j18 _ x9
  have x10 := Dp.same j18 _ x10
  have x11 := Dp.same j18 _ x11
  have x14 := Dp.same j18 _ x14
  have x15 := Dp.same j18 _ x15
  have x16 := Dp.same j18 _ x16
  have x17 := Dp.same j18 _ x17
  have hLk := j18 _ _ hLk
  have e13 := j18 _ _ e13
  generalize upd G17 q18 (.lst [.ref q15, .ref q17]) = G18 at j18 e18 d1 d2 d3 x1 x2 x3 x4 x5 x6 x8 x9 x10 x11 x14 x15 x16 x17 hLk e13 ⊢
  refine ⟨q13, q18, _, _, rfl, rfl, e13, e18, (by show 10 ≤ sizeLine; decide), fun q19 n19 => ?_⟩
  have j19 := new_same (o := .lst ([.ref q2, .ref q3, .ref q5, .ref q6, .ref q8, .ref q9, .ref q10, .ref q11] ++ [.ref q15, .ref q17])) n19
  have e19 : upd G18 q19 (.lst ([.ref q2, .ref q3, .ref q5, .ref q6, .ref q8, .ref q9, .ref q10, .ref q11] ++ [.ref q15, .ref q17])) q19 = some (.lst ([.ref q2, .ref q3, .ref q5, .ref q6, .ref q8, .ref q9, .ref q10, .ref q11] ++ [.ref q15, .ref q17])) := upd_same
  have d1 := Dp.same j19 _ d1
  have d2 := Dp.same j19 _ d2
  have d3 := Dp.same j19 _ d3
  have x1 := Dp.same j19 _ x1
  have x2 := Dp.same j19 _ x2
  have x3 := Dp.same j19 _ x3
  have x4 := Dp.same j19 _ x4
  have x5 := Dp.same j19 _ x5
  have x6 := Dp.same j19 _ x6
  have x8 := Dp.same j19 _ x8
  have x9 := Dp.same j19 _ x9
  have x10 := Dp.same j19 _ x10
  have x11 := Dp.same j19 _ x11
  have x14 := Dp.same j19 _ x14
  have x15 := Dp.same j19 _ x15
  have x16 := Dp.same j19 _ x16
  have x17 := Dp.same j19 _ x17
  have hLk := j19 _ _ hLk
  generalize upd G18 q19 (.lst ([.ref q2, .ref q3, .ref q5, .ref q6, .ref q8, .ref q9, .ref q10, .ref q11] ++ [.ref q15, .ref q17])) = G19 at j19 e19 d1 d2 d3 x1 x2 x3 x4 x5 x6 x8 x9 x10 x11 x14 x15 x16 x17 hLk ⊢
  replace e19 : G19 q19 = some (.lst [.ref q2, .ref q3, .ref q5, .ref q6, .ref q8, .ref q9, .ref q10, .ref q11, .ref q15, .ref q17]) := e19
  refine ⟨_, rfl, _, rfl, _, rfl, _, rfl, (by show 3 ≤ sizeLine; decide), fun q20 n20 => ?_⟩
  have j20 := new_same (o := .tup [.str "over", .ref q1, v1]) n20
  have x20 : Dp K (upd G19 q20 (.tup [.str "over", .ref q1, v1])) (.ref q20) (pzD (.op "over" (.op "less" (.cell "a" "one") (.cell "a" "one")) (.cell "a" "one"))) := .tup (SqT.of upd_same) (.cons (.str _) (.cons (Dp.same j20 _ x1) (.cons (Dp.same j20 _ d1) .nil)))
  have d1 := Dp.same j20 _ d1
  have d2 := Dp.same j20 _ d2
  have d3 := Dp.same j20 _ d3
  have x1 := Dp.same j20 _ x1
  have x2 := Dp.same j20 _ x2
  have x3 := Dp.same j20 _ x3
  have x4 := Dp.same j20 _ x4
  have x5 := Dp.same j20 _ x5
  have x6 := Dp.same j20 _ x6
  have x8 := Dp.same j20 _ x8
  have x9 := Dp.same j20 _ x9
  have x10 := Dp.same j20 _ x10
  have x11 := Dp.same j20 _ x11
  have x14 := Dp.same j20 _ x14
  have x15 := Dp.same j20 _ x15
  have x16 := Dp.same j20 _ x16
  have x17 := Dp.same j20 _ x17
  have hLk := j20 _ _ hLk
  have e19 := j20 _ _ e19
  generalize upd G19 q20 (.tup [.str "over", .ref q1, v1]) = G20 at j20 x20 d1 d2 d3 x1 x2 x3 x4 x5 x6 x8 x9 x10 x11 x14 x15 x16 x17 hLk e19 ⊢
  refine ⟨_, rfl, (by show 2 ≤ sizeLine; decide), fun q21 n21 => ?_⟩
  have j21 := new_same (o := .tup [.str "number", .int (-7)]) n21
  have x21 : Dp K (upd G20 q21 (.tup [.str "number", .int (-7)])) (.ref q21) (pzD (.num (-7))) := .tup (SqT.of upd_same) (.cons (.str _) (.cons (.int _) .nil))
  have d1 := Dp.same j21 _ d1
  have d2 := Dp.same j21 _ d2
  have d3 := Dp.same j21 _ d3
  have x1 := Dp.same j21 _ x1
  have x2 := Dp.same j21 _ x2
  have x3 := Dp.same j21 _ x3
  have x4 := Dp.same j21 _ x4
  have x5 := Dp.same j21 _ x5
  have x6 := Dp.same j21 _ x6
  have x8 := Dp.same j21 _ x8
  have x9 := Dp.same j21 _ x9
  have x10 := Dp.same j21 _ x10
  have x11 := Dp.same j21 _ x11
  have x14 := Dp.same j21 _ x14
  have x15 := Dp.same j21 _ x15
  have x16 := Dp.same j21 _ x16
  have x17 := Dp.same j21 _ x17
  have x20 := Dp.same j21 _ x20
  have hLk := j21 _ _ hLk
  have e19 := j21 _ _ e19
  generalize upd G20 q21 (.tup [.str "number", .int (-7)]) = G21 at j21 x21 d1 d2 d3 x1 x2 x3 x4 x5 x6 x8 x9 x10 x11 x14 x15 x16 x17 x20 hLk e19 ⊢
  refine ⟨(by show 2 ≤ sizeLine; decide), fun q22 n22 => ?_⟩
  have j22 := new_same (o := .tup [.str "number", .int 2]) n22
  have x22 : Dp K (upd G21 q22 (.tup [.str "number", .int 2])) (.ref q22) (pzD (.num 2)) := .tup (SqT.of upd_same) (.cons (.str _) (.cons (.int _) .nil))
  have d1 := Dp.same j22 _ d1
  have d2 := Dp.same j22 _ d2
  have d3 := Dp.same j22 _ d3
  have x1 := Dp.same j22 _ x1
  have x2 := Dp.same j22 _ x2
  have x3 := Dp.same j22 _ x3
  have x4 := Dp.same j22 _ x4
  have x5 := Dp.same j22 _ x5
  have x6 := Dp.same j22 _ x6
  have x8 := Dp.same j22 _ x8
  have x9 := Dp.same j22 _ x9
  have x10 := Dp.same j22 _ x10
  have x11 := Dp.same j22 _ x11
  have x14 := Dp.same j22 _ x14
  have x15 := Dp.same j22 _ x15
  have x16 := Dp.same j22 _ x16
  have x17 := Dp.same j22 _ x17
  have x20 := Dp.same j22 _ x20
  have x21 := Dp.same j22 _ x21
  have hLk := j22 _ _ hLk
  have e19 := j22 _ _ e19
  generalize upd G21 q22 (.tup [.str "number", .int 2]) = G22 at j22 x22 d1 d2 d3 x1 x2 x3 x4 x5 x6 x8 x9 x10 x11 x14 x15 x16 x17 x20 x21 hLk e19 ⊢
  refine ⟨(by show 3 ≤ sizeLine; decide), fun q23 n23 => ?_⟩
  have j23 := new_same (o := .tup [.str "over", .ref q21, .ref q22]) n23
  have x23 : Dp K (upd G22 q23 (.tup [.str "over", .ref q21, .ref q22])) (.ref q23) (pzD (.op "over" (.num (-7)) (.num 2))) := .tup (SqT.of upd_same) (.cons (.str _) (.cons (Dp.same j23 _ x21) (.cons (Dp.same j23 _ x22) .nil)))
  have d1 := Dp.same j23 _ d1
  have d2 := Dp.same j23 _ d2
  have d3 := Dp.same j23 _ d3
  have x1 := Dp.same j23 _ x1
  have x2 := Dp.same j23 _ x2
  have x3 := Dp.same j23 _ x3
  have x4 := Dp.same j23 _ x4
  have x5 := Dp.same j23 _ x5
  have x6 := Dp.same j23 _ x6
  have x8 := Dp.same j23 _ x8
  have x9 := Dp.same j23 _ x9
  have x10 := Dp.same j23 _ x10
  have x11 := Dp.same j23 _ x11
  have x14 := Dp.same j23 _ x14
  have x15 := Dp.same j23 _ x15
  have x16 := Dp.same j23 _ x16
  have x17 := Dp.same j23 _ x17
  have x20 := Dp.same j23 _ x20
  have x21 := Dp.same j23 _ x21
  have x22 := Dp.same j23 _ x22
  have hLk := j23 _ _ hLk
  have e19 := j23 _ _ e19
  generalize upd G22 q23 (.tup [.str "over", .ref q21, .ref q22]) = G23 at j23 x23 d1 d2 d3 x1 x2 x3 x4 x5 x6 x8 x9 x10 x11 x14 x15 x16 x17 x20 x21 x22 hLk e19 ⊢
  refine ⟨(by show 3 ≤ sizeLine; decide), fun q24 n24 => ?_⟩
  have j24 := new_same (o := .lst [v3, .ref q20, .ref q23]) n24
  have e24 : upd G23 q24 (.lst [v3, .ref q20, .ref q23]) q24 = some (.lst [v3, .ref q20, .ref q23]) := upd_same
  have d1 := Dp.same j24 _ d1
  have d2 := Dp.same j24 _ d2
  have d3 := Dp.same j24 _ d3
  have x1 := Dp.same j24 _ x1
  have x2 := Dp.same j24 _ x2
  have x3 := Dp.same j24 _ x3
  have x4 := Dp.same j24 _ x4
  have x5 := Dp.same j24 _ x5
  have x6 := Dp.same j24 _ x6
  have x8 := Dp.same j24 _ x8
  have x9 := Dp.same j24 _ x9
  have x10 := Dp.same j24 _ x10
  have x11 := Dp.same j24 _ x11
  have x14 := Dp.same j24 _ x14
  have x15 := Dp.same j24 _ x15
  have x16 := Dp.same j24 _ x16
  have x17 := Dp.same j24 _ x17
  have x20 := Dp.same j24 _ x20
  have x21 := Dp.same j24 _ x21
  have x22 := Dp.same j24 _ x22
  have x23 := Dp.same j24 _ x23
  have hLk := j24 _ _ hLk
  have e19 := j24 _ _ e19
  generalize upd G23 q24 (.lst [v3, .ref q20, .ref q23]) = G24 at j24 e24 d1 d2 d3 x1 x2 x3 x4 x5 x6 x8 x9 x10 x11 x14 x15 x16 x17 x20 x21 x22 x23 hLk e19 ⊢
  refine ⟨q19, q24, _, _, rfl, rfl, e19, e24, (by show 13 ≤ sizeLine; decide), fun q25 n25 => ?_⟩
  have j25 := new_same (o := .lst ([.ref q2, .ref q3, .ref q5, .ref q6, .ref q8, .ref q9, .ref q10, .ref q11, .ref q15, .ref q17] ++ [v3, .ref q20, .ref q23])) n25
  have e25 : upd G24 q25 (.lst ([.ref q2, .ref q3, .ref q5, .ref q6, .ref q8, .ref q9, .ref q10, .ref q11, .ref q15, .ref q17] ++ [v3, .ref q20, .ref q23])) q25 = some (.lst ([.ref q2, .ref q3, .ref q5, .ref q6, .ref q8, .ref q9, .ref q10, .ref q11, .ref q15, .ref q17] ++ [v3, .ref q20, .ref q23])) := upd_same
  have d1 := Dp.same j25 _ d1
  have d2 := Dp.same j25 _ d2
  have d3 := Dp.same j25 _ d3
  have x1 := Dp.same j25 _ x1
  have x2 := Dp.same j25 _ x2
  have x3 := Dp.same j25 _ x3
  have x4 := Dp.same j25 _ x4
  have x5 := Dp.same j25 _ x5
  have x6 := Dp.same j25 _ x6
  have x8 := Dp.same j25 _ x8
  have x9 := Dp.same j25 _ x9
  have x10 := Dp.same j25 _ x10
  have x11 := Dp.same j25 _ x11
  have x14 := Dp.same j25 _ x14
  have x15 := Dp.same j25 _ x15
  have x16 := Dp.same j25 _ x16
  have x17 := Dp.same j25 _ x17
  have x20 := Dp.same j25 _ x20
  have x21 := Dp.same j25 _ x21
  have x22 := Dp.same j25 _ x22
  have x23 := Dp.same j25 _ x23
  have hLk := j25 _ _ hLk
  generalize upd G24 q25 (.lst ([.ref q2, .ref q3, .ref q5, .ref q6, .ref q8, .ref q9, .ref q10, .ref q11, .ref q15, .ref q17] ++ [v3, .ref q20, .ref q23])) = G25 at j25 e25 d1 d2 d3 x1 x2 x3 x4 x5 x6 x8 x9 x10 x11 x14 x15 x16 x17 x20 x21 x22 x23 hLk ⊢
  replace e25 : G25 q25 = some (.lst [.ref q2, .ref q3, .ref q5, .ref q6, .ref q8, .ref q9, .ref q10, .ref q11, .ref q15, .ref q17, v3, .ref q20, .ref q23]) := e25
  refine ⟨_, rfl, .inl ⟨rfl, _, SqL.of e25⟩, _, _, rfl, rfl, ⟨by decide, by decide, by decide⟩, _, _, rfl, rfl, (by show 2 ≤ sizeLine; decide), fun q26 n26 => ?_⟩
  have j26 := new_same (o := .tup [.str "number", .int (1 - 10 ^ (30 : Int).toNat)]) n26
  have x26 : Dp K (upd G25 q26 (.tup [.str "number", .int (1 - 10 ^ (30 : Int).toNat)])) (.ref q26) (pzD (.num (1 - 10 ^ (30 : Int).toNat))) := .tup (SqT.of upd_same) (.cons (.str _) (.cons (.int _) .nil))
  have d1 := Dp.same j26 _ d1
  have d2 := Dp.same j26 _ d2
  have d3 := Dp.same j26 _ d3
  have x1 := Dp.same j26 _ x1
  have x2 := Dp.same j26 _ x2
  have x3 := Dp.same j26 _ x3
  have x4 := Dp.same j26 _ x4
  have x5 := Dp.same j26 _ x5
  have x6 := Dp.same j26 _ x6
  have x8 := Dp.same j26 _ x8
  have x9 := Dp.same j26 _ x9
  have x10 := Dp.same j26 _ x10
  have x11 := Dp.same j26 _ x11
  have x14 := Dp.same j26 _ x14
  have x15 := Dp.same j26 _ x15
  have x16 := Dp.same j26 _ x16
  have x17 := Dp.same j26 _ x17
  have x20 := Dp.same j26 _ x20
  have x21 := Dp.same j26 _ x21
  have x22 := Dp.same j26 _ x22
  have x23 := Dp.same j26 _ x23
  have hLk := j26 _ _ hLk
  have e25 := j26 _ _ e25
  generalize upd G25 q26 (.tup [.str "number", .int (1 - 10 ^ (30 : Int).toNat)]) = G26 at j26 x26 d1 d2 d3 x1 x2 x3 x4 x5 x6 x8 x9 x10 x11 x14 x15 x16 x17 x20 x21 x22 x23 hLk e25 ⊢
  refine ⟨(by show 2 ≤ sizeLine; decide), fun q27 n27 => ?_⟩
  have j27 := new_same (o := .tup [.str "number", .int 10]) n27
  have x27 : Dp K (upd G26 q27 (.tup [.str "number", .int 10])) (.ref q27) (pzD (.num 10)) := .tup (SqT.of upd_same) (.cons (.str _) (.cons (.int _) .nil))
  have d1 := Dp.same j27 _ d1
  have d2 := Dp.same j27 _ d2
  have d3 := Dp.same j27 _ d3
  have x1 := Dp.same j27 _ x1
  have x2 := Dp.same j27 _ x2
  have x3 := Dp.same j27 _ x3
  have x4 := Dp.same j27 _ x4
  have x5 := Dp.same j27 _ x5
  have x6 := Dp.same j27 _ x6
  have x8 := Dp.same j27 _ x8
  have x9 := Dp.same j27 _ x9
  have x10 := Dp.same j27 _ x10
  have x11 := Dp.same j27 _ x11
  have x14 := Dp.same j27 _ x14
  have x15 := Dp.same j27 _ x15
  have x16 := Dp.same j27 _ x16
  have x17 := Dp.same j27 _ x17
  have x20 := Dp.same j27 _ x20
  have x21 := Dp.same j27 _ x21
  have x22 := Dp.same j27 _ x22
  have x23 := Dp.same j27 _ x23
  have x26 := Dp.same j27 _ x26
  have hLk := j27 _ _ hLk
  have e25 := j27 _ _ e25
  generalize upd G26 q27 (.tup [.str "number", .int 10]) = G27 at j27 x27 d1 d2 d3 x1 x2 x3 x4 x5 x6 x8 x9 x10 x11 x14 x15 x16 x17 x20 x21 x22 x23 x26 hLk e25 ⊢
  refine ⟨(by show 3 ≤ sizeLine; decide), fun q28 n28 => ?_⟩
  have j28 := new_same (o := .tup [.str "over", .ref q26, .ref q27]) n28
  have x28 : Dp K (upd G27 q28 (.tup [.str "over", .ref q26, .ref q27])) (.ref q28) (pzD (.op "over" (.num (1 - 10 ^ (30 : Int).toNat)) (.num 10))) := .tup (SqT.of upd_same) (.cons (.str _) (.cons (Dp.same j28 _ x26) (.cons (Dp.same j28 _ x27) .nil)))
  have d1 := Dp.same j28 _ d1
  have d2 := Dp.same j28 _ d2
  have d3 := Dp.same j28 _ d3
  have x1 := Dp.same j28 _ x1
  have x2 := Dp.same j28 _ x2
  have x3 := Dp.same j28 _ x3
  have x4 := Dp.same j28 _ x4
  have x5 := Dp.same j28 _ x5
  have x6 := Dp.same j28 _ x6
  have x8 := Dp.same j28 _ x8
  have x9 := Dp.same j28 _ x9
  have x10 := Dp.same j28 _ x10
  have x11 := Dp.same j28 _ x11
  have x14 := Dp.same j28 _ x14
  have x15 := Dp.same j28 _ x15
  have x16 := Dp.same j28 _ x16
  have x17 := Dp.same j28 _ x17
  have x20 := Dp.same j28 _ x20
  have x21 := Dp.same j28 _ x21
  have x22 := Dp.same j28 _ x22
  have x23 := Dp.same j28 _ x23
  have x26 := Dp.same j28 _ x26
  have x27 := Dp.same j28 _ x27
  have hLk := j28 _ _ hLk
  have e25 := j28 _ _ e25
  generalize upd G27 q28 (.tup [.str "over", .ref q26, .ref q27]) = G28 at j28 x28 d1 d2 d3 x1 x2 x3 x4 x5 x6 x8 x9 x10 x11 x14 x15 x16 x17 x20 x21 x22 x23 x26 x27 hLk e25 ⊢
  have eF : upd G28 q25 (.lst ([.ref q2, .ref q3, .ref q5, .ref q6, .ref q8, .ref q9, .ref q10, .ref q11, .ref q15, .ref q17, v3, .ref q20, .ref q23] ++ [.ref q28])) q25 = some (.lst [.ref q2, .ref q3, .ref q5, .ref q6, .ref q8, .ref q9, .ref q10, .ref q11, .ref q15, .ref q17, v3, .ref q20, .ref q23, .ref q28]) := upd_same
  have hTc := tabs_lst (ys := ([.ref q2, .ref q3, .ref q5, .ref q6, .ref q8, .ref q9, .ref q10, .ref q11, .ref q15, .ref q17, v3, .ref q20, .ref q23] ++ [.ref q28])) (hTb.ext (j1.trans (j2.trans (j3.trans (j4.trans (j5.trans (j6.trans (j7.trans (j8.trans (j9.trans (j10.trans (j11.trans (j12.trans (j13.trans (j14.trans (j15.trans (j16.trans (j17.trans (j18.trans (j19.trans (j20.trans (j21.trans (j22.trans (j23.trans (j24.trans (j25.trans (j26.trans (j27.trans j28)))))))))))))))))))))))))))) e25
  refine ⟨q25, _, _, rfl, rfl, e25, (by show 13 < sizeLine; decide), ?_⟩
  have tF : Tups K G28 (upd G28 q25 (.lst ([.ref q2, .ref q3, .ref q5, .ref q6, .ref q8, .ref q9, .ref q10, .ref q11, .ref q15, .ref q17, v3, .ref q20, .ref q23] ++ [.ref q28]))) := .upd_lst e25
  have x2 := Dp.tups tF _ (pz_only _) x2
  have x3 := Dp.tups tF _ (pz_only _) x3
  have x5 := Dp.tups tF _ (pz_only _) x5
  have x6 := Dp.tups tF _ (pz_only _) x6
  have x8 := Dp.tups tF _ (pz_only _) x8
  have x9 := Dp.tups tF _ (pz_only _) x9
  have x10 := Dp.tups tF _ (pz_only _) x10
  have x11 := Dp.tups tF _ (pz_only _) x11
  have x15 := Dp.tups tF _ (pz_only _) x15
  have x17 := Dp.tups tF _ (pz_only _) x17
  have d3 := Dp.tups tF _ (pz_only _) d3
  have x20 := Dp.tups tF _ (pz_only _) x20
  have x23 := Dp.tups tF _ (pz_only _) x23
  have x28 := Dp.tups tF _ (pz_only _) x28
  have hL2 : LookAt (upd G28 q25 (.lst ([.ref q2, .ref q3, .ref q5, .ref q6, .ref q8, .ref q9, .ref q10, .ref q11, .ref q15, .ref q17, v3, .ref q20, .ref q23] ++ [.ref q28]))) aD fixL := by
    show upd G28 q25 (.lst ([.ref q2, .ref q3, .ref q5, .ref q6, .ref q8, .ref q9, .ref q10, .ref q11, .ref q15, .ref q17, v3, .ref q20, .ref q23] ++ [.ref q28])) aD = _
    rw [upd_ne (ne_of hLk e25 (fun z => nomatch z))]
    exact hLk
  have all : DpAll K (upd G28 q25 (.lst ([.ref q2, .ref q3, .ref q5, .ref q6, .ref q8, .ref q9, .ref q10, .ref q11, .ref q15, .ref q17, v3, .ref q20, .ref q23] ++ [.ref q28]))) ([.ref q2, .ref q3, .ref q5, .ref q6, .ref q8, .ref q9, .ref q10, .ref q11, .ref q15, .ref q17, v3, .ref q20, .ref q23] ++ [.ref q28]) (fixedZ.map pzD) := (.cons x2 (.cons x3 (.cons x5 (.cons x6 (.cons x8 (.cons x9 (.cons x10 (.cons x11 (.cons x15 (.cons x17 (.cons d3 (.cons x20 (.cons x23 (.cons x28 .nil))))))))))))))
  generalize upd G28 q25 (.lst ([.ref q2, .ref q3, .ref q5, .ref q6, .ref q8, .ref q9, .ref q10, .ref q11, .ref q15, .ref q17, v3, .ref q20, .ref q23] ++ [.ref q28])) = HF at eF hL2 all hTc ⊢
  refine ⟨_, rfl, q25, rfl, ⟨_, SqL.of eF⟩, fun E0 nE => ?_⟩
  refine lc_list (K := K) (a := q25) (fun i H' => ExtN HF H' ∧ Tabs (tabs1 P1) H' ∧ H' E0 = some (.lst [])) ⟨ExtN.of (new_same nE), hTc.ext (new_same nE), upd_same⟩ (fun i H' _ y => SqL.of (y.1 _ _ eF (fun _ z => nomatch z))) ?_ ?_
  · rintro i x H20 hx ⟨s20, t20, eE⟩
    obtain ⟨d, ed, hd⟩ := DpAll.at_ all hx
    rw [List.getElem?_map, Option.map_eq_some_iff] at ed
    obtain ⟨z, ez, rfl⟩ := ed
    refine ⟨rfl, ?_⟩
    refine ⟨_, rfl, _, rfl, x, aD, z, fixL, rfl, fixed_pl z (List.mem_of_getElem? ez), s20 _ _ hL2 (fun _ y => nomatch y), Dp.tups (tups_ext s20) _ (pz_only z) hd, t20, fun H21 s21 t21 => ⟨_, rfl, iteF ⟨s20.trans s21, t21, s21 _ _ eE (fun _ y => nomatch y)⟩⟩⟩
  · rintro H20 ⟨s20, t20, eE⟩
    refine ⟨Nat.zero_le _, fun e0 ne0 => ?_⟩
    exact ⟨E0, e0, [], rfl, rfl, SqL.of (new_same ne0 _ _ eE), SqL.of upd_same, q _⟩
end
end K03
end

section
set_option Elab.async false
set_option linter.all false
set_option maxRecDepth 100000
set_option maxHeartbeats 8000000
namespace K03
open PySem PySem.Spec PyProof.Rows L2 Gd LamX
structure ClP (K : PySem.W.Frag) (C : Addr) : Prop where
  ev : EvC K C
  sa : PySem.W.findIn K (.ref C) "__setattr__" = some (some (.builtin "object.__setattr__"))
  ty : PySem.W.typeIn K (.ref C) = some (.type "type")
  kp : PySem.W.keepIn K (.ref C) = true
  cl : (PySem.W.clsIn K C).isSome = true
theorem ClP.tyb {K : PySem.W.Frag} {C : Addr} (h : ClP K C) : ((PySem.W.clsIn K C).isSome && PySem.W.typeIn K (.ref C) == some (.type "type")) = true := by
  rw [h.cl, h.ty]
  simp
abbrev vTail : List Value := [.type "ValueError", .type "Exception", .type "BaseException", .type "object"]
theorem refs_v (c : Addr) : PySem.HandSPX.refsVE (.ref c :: vTail) = true ∧ PySem.HandSPX.refsVE vTail = true := ⟨by rfl, by rfl⟩
section
variable {K : PySem.W.Frag} {C N : Addr} {nm q : Str} {bs bm : List Value} {hdct : Bool} {sn : List Str} {sub : List Value} {ab : Bool} {col : Option Bool}
  {dd : Option Addr} {k0 k1 k2 k3 k5 : Option Value} {nw : String}
theorem cls_of (h : K.lookup C = some (excClassObj nm q C N bs bm hdct sn sub ab col dd k0 k1 k2 k3 k5 nw)) :
    ∃ cd, PySem.W.clsIn K C = some cd ∧ cd.mro = .ref C :: bm := by
  unfold PySem.W.clsIn
  rw [h]
  exact ⟨_, rfl, rfl⟩
theorem some_of (h : K.lookup C = some (excClassObj nm q C N bs bm hdct sn sub ab col dd k0 k1 k2 k3 k5 nw)) : (PySem.W.clsIn K C).isSome = true := by
  unfold PySem.W.clsIn
  rw [h]
  rfl
theorem oex_of (h : K.lookup C = some (excClassObj nm q C N bs bm true sn sub ab col dd k0 k1 k2 k3 k5 "ValueError.__new__"))
    (r : PySem.HandSPX.refsVE bm = true) (p : ClP K C) : OexC K C :=
  ⟨⟨_, _, _, _, _, _, _, _, _, _, _, _, _, _, _, h, r⟩, p.sa, p.ev.sub, p.ty, p.kp⟩
end
theorem tyb_of {K : PySem.W.Frag} {C : Addr} (h : (PySem.W.clsIn K C).isSome = true) (t : PySem.W.typeIn K (.ref C) = some (.type "type")) : ((PySem.W.clsIn K C).isSome && PySem.W.typeIn K (.ref C) == some (.type "type")) = true := by
  rw [h, t]
  simp
theorem all_mk {l : PySem.W.OpenLaw} {w : World} {K : PySem.W.Frag} {h : Heap} {mg : Str → Option Value} {fa : Addr} {cc1 P1 f0 f1 f2 f3 f4 f5 f6 f7 f8 f9 f10 f11 f12 f13 C0 N0 C1 N1 C2 N2 C3 N3 C4 N4 C5 N5 C6 N6 C7 N7 C8 N8 C9 N9 C10 N10 C11 N11 C12 N12 C13 N13 C14 N14 C15 N15 C16 N16 C17 N17 C18 N18 C19 N19 : Addr} (X : K.In h) (G : h.Ns mainGlobals mg) (hfa : mg "law" = some (.ref fa))
    {ed1 od0 an0 od1 an1 od2 an2 od3 an3 od4 an4 od5 an5 od6 an6 od7 an7 od8 an8 od9 an9 od10 an10 od11 an11 od12 an12 od13 an13 : Option Addr} {es1 sl0 sl1 sl2 sl3 sl4 sl5 sl6 sl7 sl8 sl9 sl10 sl11 sl12 sl13 : Array (Option Value)} {vs1 : Array Value} {ec1 oc0 kV0 dc0 pm0 ct0 cd0 oc1 kV1 dc1 pm1 ct1 cd1 oc2 kV2 dc2 pm2 ct2 cd2 oc3 kV3 dc3 pm3 ct3 cd3 oc4 kV4 dc4 pm4 ct4 cd4 oc5 kV5 dc5 pm5 ct5 cd5 oc6 kV6 dc6 pm6 ct6 cd6 oc7 kV7 dc7 pm7 ct7 cd7 oc8 kV8 dc8 pm8 ct8 cd8 oc9 kV9 dc9 pm9 ct9 cd9 oc10 kV10 dc10 pm10 ct10 cd10 oc11 kV11 dc11 pm11 ct11 cd11 oc12 kV12 dc12 pm12 ct12 oc13 kV13 dc13 pm13 ct13 cd13 : Value}
    {nm0 q0 nm1 q1 nm2 q2 nm3 q3 nm4 q4 nm5 q5 nm6 q6 nm7 q7 nm8 q8 nm9 q9 nm10 q10 nm11 q11 nm12 q12 nm13 q13 nm14 q14 nm15 q15 nm16 q16 nm17 q17 nm18 q18 nm19 q19 : Str} {bs0 su0 bs1 su1 bs2 su2 bm2 bs3 su3 bm3 bs4 su4 bm4 bs5 su5 bm5 bs6 su6 bm6 bs7 su7 bm7 bs8 su8 bm8 bs9 su9 bm9 bs10 su10 bm10 bs11 su11 bm11 bs12 su12 bm12 bs13 su13 bm13 bs14 su14 bm14 bs15 su15 bm15 bs16 su16 bm16 bs17 su17 bm17 bs18 su18 bm18 bs19 su19 bm19 : List Value} {sn0 sn1 sn2 sn3 sn4 sn5 sn6 sn7 sn8 sn9 sn10 sn11 sn12 sn13 sn14 sn15 sn16 sn17 sn18 sn19 : List Str} {ab0 ab1 ab2 ab3 ab4 ab5 ab6 ab7 ab8 ab9 ab10 ab11 ab12 ab13 ab14 ab15 ab16 ab17 ab18 ab19 : Bool} {nw2 nw3 nw4 nw5 nw6 nw7 nw8 nw9 nw10 nw11 nw12 nw13 nw14 nw15 nw16 nw17 nw18 nw19 : String}
    {co0 co1 co2 co3 co4 co5 co6 co7 co8 co9 co10 co11 co12 co13 co14 co15 co16 co17 co18 co19 : Option Bool} {dd0 dd1 dd2 dd3 dd4 dd5 dd6 dd7 dd8 dd9 dd10 dd11 dd12 dd13 dd14 dd15 dd16 dd17 dd18 dd19 : Option Addr} {a0_0 a0_1 a0_2 a0_3 a0_5 a1_0 a1_1 a1_2 a1_3 a1_5 a2_0 a2_1 a2_2 a2_3 a2_5 a3_0 a3_1 a3_2 a3_3 a3_5 a4_0 a4_1 a4_2 a4_3 a4_5 a5_0 a5_1 a5_2 a5_3 a5_5 a6_0 a6_1 a6_2 a6_3 a6_5 a7_0 a7_1 a7_2 a7_3 a7_5 a8_0 a8_1 a8_2 a8_3 a8_5 a9_0 a9_1 a9_2 a9_3 a9_5 a10_0 a10_1 a10_2 a10_3 a10_5 a11_0 a11_1 a11_2 a11_3 a11_5 a12_0 a12_1 a12_2 a12_3 a12_5 a13_0 a13_1 a13_2 a13_3 a13_5 a14_0 a14_1 a14_2 a14_3 a14_5 a15_0 a15_1 a15_2 a15_3 a15_5 a16_0 a16_1 a16_2 a16_3 a16_5 a17_0 a17_1 a17_2 a17_3 a17_5 a18_0 a18_1 a18_2 a18_3 a18_5 a19_0 a19_1 a19_2 a19_3 a19_5 : Option Value}
    (aF0 : PySem.W.nsIn K mainGlobals "told_by" = some (some (.ref f0)))
    (lF0 : K.lookup f0 = some ⟨oc0, od0, .func (PySem.W.fnOf "told_by" "told_by" (defArgs sTb) (defBody sTb) (defScope sTb) .none kV0 dc0 pm0 an0 cd0 ct0), sl0⟩)
    (cF0 : PySem.W.codeIn K cd0 "told_by" = true)
    (kF0 : PySem.W.keepIn K (.ref f0) = true)
    (aF1 : PySem.W.nsIn K mainGlobals "_joined_by" = some (some (.ref f1)))
    (lF1 : K.lookup f1 = some ⟨oc1, od1, .func (PySem.W.fnOf "_joined_by" "_joined_by" (defArgs sJb) (defBody sJb) (defScope sJb) .none kV1 dc1 pm1 an1 cd1 ct1), sl1⟩)
    (cF1 : PySem.W.codeIn K cd1 "_joined_by" = true)
    (kF1 : PySem.W.keepIn K (.ref f1) = true)
    (aF2 : PySem.W.nsIn K mainGlobals "_law_feed" = some (some (.ref f2)))
    (lF2 : K.lookup f2 = some ⟨oc2, od2, .func (PySem.W.fnOf "_law_feed" "_law_feed" (defArgs sFeed) (defBody sFeed) (defScope sFeed) .none kV2 dc2 pm2 an2 cd2 ct2), sl2⟩)
    (cF2 : PySem.W.codeIn K cd2 "_law_feed" = true)
    (kF2 : PySem.W.keepIn K (.ref f2) = true)
    (aF3 : PySem.W.nsIn K mainGlobals "_law_take" = some (some (.ref f3)))
    (lF3 : K.lookup f3 = some ⟨oc3, od3, .func (PySem.W.fnOf "_law_take" "_law_take" (defArgs sTake) (defBody sTake) (defScope sTake) .none kV3 dc3 pm3 an3 cd3 ct3), sl3⟩)
    (cF3 : PySem.W.codeIn K cd3 "_law_take" = true)
    (kF3 : PySem.W.keepIn K (.ref f3) = true)
    (aF4 : PySem.W.nsIn K mainGlobals "_law_label" = some (some (.ref f4)))
    (lF4 : K.lookup f4 = some ⟨oc4, od4, .func (PySem.W.fnOf "_law_label" "_law_label" (defArgs sLabel) (defBody sLabel) (defScope sLabel) .none kV4 dc4 pm4 an4 cd4 ct4), sl4⟩)
    (cF4 : PySem.W.codeIn K cd4 "_law_label" = true)
    (kF4 : PySem.W.keepIn K (.ref f4) = true)
    (aF5 : PySem.W.nsIn K mainGlobals "_law_number" = some (some (.ref f5)))
    (lF5 : K.lookup f5 = some ⟨oc5, od5, .func (PySem.W.fnOf "_law_number" "_law_number" (defArgs sNum) (defBody sNum) (defScope sNum) .none kV5 dc5 pm5 an5 cd5 ct5), sl5⟩)
    (cF5 : PySem.W.codeIn K cd5 "_law_number" = true)
    (kF5 : PySem.W.keepIn K (.ref f5) = true)
    (aF6 : PySem.W.nsIn K mainGlobals "_law_piece" = some (some (.ref f6)))
    (lF6 : K.lookup f6 = some ⟨oc6, od6, .func (PySem.W.fnOf "_law_piece" "_law_piece" (defArgs sPiece) (defBody sPiece) (defScope sPiece) .none kV6 dc6 pm6 an6 cd6 ct6), sl6⟩)
    (cF6 : PySem.W.codeIn K cd6 "_law_piece" = true)
    (kF6 : PySem.W.keepIn K (.ref f6) = true)
    (aF7 : PySem.W.nsIn K mainGlobals "_law_all" = some (some (.ref f7)))
    (lF7 : K.lookup f7 = some ⟨oc7, od7, .func (PySem.W.fnOf "_law_all" "_law_all" (defArgs sAl) (defBody sAl) (defScope sAl) .none kV7 dc7 pm7 an7 cd7 ct7), sl7⟩)
    (cF7 : PySem.W.codeIn K cd7 "_law_all" = true)
    (kF7 : PySem.W.keepIn K (.ref f7) = true)
    (aF8 : PySem.W.nsIn K mainGlobals "_law_worths" = some (some (.ref f8)))
    (lF8 : K.lookup f8 = some ⟨oc8, od8, .func (PySem.W.fnOf "_law_worths" "_law_worths" (defArgs sWo) (defBody sWo) (defScope sWo) .none kV8 dc8 pm8 an8 cd8 ct8), sl8⟩)
    (cF8 : PySem.W.codeIn K cd8 "_law_worths" = true)
    (kF8 : PySem.W.keepIn K (.ref f8) = true)
    (aF9 : PySem.W.nsIn K mainGlobals "_law_quotient" = some (some (.ref f9)))
    (lF9 : K.lookup f9 = some ⟨oc9, od9, .func (PySem.W.fnOf "_law_quotient" "_law_quotient" (defArgs sQt) (defBody sQt) (defScope sQt) .none kV9 dc9 pm9 an9 cd9 ct9), sl9⟩)
    (cF9 : PySem.W.codeIn K cd9 "_law_quotient" = true)
    (kF9 : PySem.W.keepIn K (.ref f9) = true)
    (aF10 : PySem.W.nsIn K mainGlobals "_law_told" = some (some (.ref f10)))
    (lF10 : K.lookup f10 = some ⟨oc10, od10, .func (PySem.W.fnOf "_law_told" "_law_told" (defArgs sTd) (defBody sTd) (defScope sTd) .none kV10 dc10 pm10 an10 cd10 ct10), sl10⟩)
    (cF10 : PySem.W.codeIn K cd10 "_law_told" = true)
    (kF10 : PySem.W.keepIn K (.ref f10) = true)
    (aF11 : PySem.W.nsIn K mainGlobals "_law_heard" = some (some (.ref f11)))
    (lF11 : K.lookup f11 = some ⟨oc11, od11, .func (PySem.W.fnOf "_law_heard" "_law_heard" (defArgs sHeard) (defBody sHeard) (defScope sHeard) .none kV11 dc11 pm11 an11 cd11 ct11), sl11⟩)
    (cF11 : PySem.W.codeIn K cd11 "_law_heard" = true)
    (kF11 : PySem.W.keepIn K (.ref f11) = true)
    (aF12 : PySem.W.nsIn K mainGlobals "_law_right" = some (some (.ref f12)))
    (lF12 : K.lookup f12 = some ⟨oc12, od12, .func (PySem.W.fnOf "_law_right" "_law_right" (defArgs sRi) (defBody sRi) (defScope sRi) .none kV12 dc12 pm12 an12 (.ref cc1) ct12), sl12⟩)
    (cF12 : PySem.W.codeIn K (.ref cc1) "_law_right" = true)
    (kF12 : PySem.W.keepIn K (.ref f12) = true)
    (aF13 : PySem.W.nsIn K mainGlobals "law" = some (some (.ref f13)))
    (lF13 : K.lookup f13 = some ⟨oc13, od13, .func (PySem.W.fnOf "law" "law" (defArgs sLaw) (defBody sLaw) (defScope sLaw) .none kV13 dc13 pm13 an13 cd13 ct13), sl13⟩)
    (cF13 : PySem.W.codeIn K cd13 "law" = true)
    (kF13 : PySem.W.keepIn K (.ref f13) = true)
    (lK1 : K.lookup cc1 = some ⟨ec1, ed1, .fields vs1, es1⟩)
    (pK1 : vs1[11]? = some (.ref P1))
    (nK1 : K.lookup P1 = none)
    (aC0 : PySem.W.nsIn K mainGlobals "NoWorth" = some (some (.ref C0)))
    (xC0 : K.lookup C0 = some (excClassObj nm0 q0 C0 N0 bs0 (.ref C1 :: vTail) true sn0 su0 ab0 co0 dd0 a0_0 a0_1 a0_2 a0_3 a0_5 "ValueError.__new__"))
    (b1C0 : PySem.W.findIn K (.ref C0) "__getattribute__" = some (some (.builtin "BaseException.__getattribute__")))
    (b2C0 : PySem.W.findIn K (.ref C0) "__getattr__" = some none)
    (b3C0 : PySem.W.subIn K (.ref C0) (.type "BaseException") = some true)
    (b4C0 : PySem.W.hasDictIn K C0 = true)
    (b5C0 : PySem.W.findIn K (.ref C0) "__class__" = some (some (.builtin "object.__class__")))
    (b6C0 : PySem.W.mroIn K C0 (.type "object") = some true)
    (b7C0 : PySem.W.findIn K (.ref C0) "__setattr__" = some (some (.builtin "object.__setattr__")))
    (b9C0 : PySem.W.keepIn K (.ref C0) = true)
    (b8C0 : PySem.W.typeIn K (.ref C0) = some (.type "type"))
    (iC0 : PySem.W.findIn K (.ref C0) "__init__" = some (some (.builtin "ValueError.__init__")))
    (aC1 : PySem.W.nsIn K mainGlobals "PlanError" = some (some (.ref C1)))
    (xC1 : K.lookup C1 = some (excClassObj nm1 q1 C1 N1 bs1 (vTail) true sn1 su1 ab1 co1 dd1 a1_0 a1_1 a1_2 a1_3 a1_5 "ValueError.__new__"))
    (b1C1 : PySem.W.findIn K (.ref C1) "__getattribute__" = some (some (.builtin "BaseException.__getattribute__")))
    (b2C1 : PySem.W.findIn K (.ref C1) "__getattr__" = some none)
    (b3C1 : PySem.W.subIn K (.ref C1) (.type "BaseException") = some true)
    (b4C1 : PySem.W.hasDictIn K C1 = true)
    (b5C1 : PySem.W.findIn K (.ref C1) "__class__" = some (some (.builtin "object.__class__")))
    (b6C1 : PySem.W.mroIn K C1 (.type "object") = some true)
    (b7C1 : PySem.W.findIn K (.ref C1) "__setattr__" = some (some (.builtin "object.__setattr__")))
    (b9C1 : PySem.W.keepIn K (.ref C1) = true)
    (b8C1 : PySem.W.typeIn K (.ref C1) = some (.type "type"))
    (aC2 : PySem.W.nsIn K mainGlobals "Unknown" = some (some (.ref C2)))
    (xC2 : K.lookup C2 = some (excClassObj nm2 q2 C2 N2 bs2 (bm2) true sn2 su2 ab2 co2 dd2 a2_0 a2_1 a2_2 a2_3 a2_5 nw2))
    (b1C2 : PySem.W.findIn K (.ref C2) "__getattribute__" = some (some (.builtin "BaseException.__getattribute__")))
    (b2C2 : PySem.W.findIn K (.ref C2) "__getattr__" = some none)
    (b3C2 : PySem.W.subIn K (.ref C2) (.type "BaseException") = some true)
    (b4C2 : PySem.W.hasDictIn K C2 = true)
    (b5C2 : PySem.W.findIn K (.ref C2) "__class__" = some (some (.builtin "object.__class__")))
    (b6C2 : PySem.W.mroIn K C2 (.type "object") = some true)
    (b7C2 : PySem.W.findIn K (.ref C2) "__setattr__" = some (some (.builtin "object.__setattr__")))
    (b9C2 : PySem.W.keepIn K (.ref C2) = true)
    (b8C2 : PySem.W.typeIn K (.ref C2) = some (.type "type"))
    (aC3 : PySem.W.nsIn K mainGlobals "Busy" = some (some (.ref C3)))
    (xC3 : K.lookup C3 = some (excClassObj nm3 q3 C3 N3 bs3 (bm3) true sn3 su3 ab3 co3 dd3 a3_0 a3_1 a3_2 a3_3 a3_5 nw3))
    (b8C3 : PySem.W.typeIn K (.ref C3) = some (.type "type"))
    (aC4 : PySem.W.nsIn K mainGlobals "Done" = some (some (.ref C4)))
    (xC4 : K.lookup C4 = some (excClassObj nm4 q4 C4 N4 bs4 (bm4) true sn4 su4 ab4 co4 dd4 a4_0 a4_1 a4_2 a4_3 a4_5 nw4))
    (b8C4 : PySem.W.typeIn K (.ref C4) = some (.type "type"))
    (aC5 : PySem.W.nsIn K mainGlobals "NoAsk" = some (some (.ref C5)))
    (xC5 : K.lookup C5 = some (excClassObj nm5 q5 C5 N5 bs5 (bm5) true sn5 su5 ab5 co5 dd5 a5_0 a5_1 a5_2 a5_3 a5_5 nw5))
    (b8C5 : PySem.W.typeIn K (.ref C5) = some (.type "type"))
    (aC6 : PySem.W.nsIn K mainGlobals "NoDeed" = some (some (.ref C6)))
    (xC6 : K.lookup C6 = some (excClassObj nm6 q6 C6 N6 bs6 (bm6) true sn6 su6 ab6 co6 dd6 a6_0 a6_1 a6_2 a6_3 a6_5 nw6))
    (b8C6 : PySem.W.typeIn K (.ref C6) = some (.type "type"))
    (aC7 : PySem.W.nsIn K mainGlobals "NoLine" = some (some (.ref C7)))
    (xC7 : K.lookup C7 = some (excClassObj nm7 q7 C7 N7 bs7 (bm7) true sn7 su7 ab7 co7 dd7 a7_0 a7_1 a7_2 a7_3 a7_5 nw7))
    (b8C7 : PySem.W.typeIn K (.ref C7) = some (.type "type"))
    (aC8 : PySem.W.nsIn K mainGlobals "NoName" = some (some (.ref C8)))
    (xC8 : K.lookup C8 = some (excClassObj nm8 q8 C8 N8 bs8 (bm8) true sn8 su8 ab8 co8 dd8 a8_0 a8_1 a8_2 a8_3 a8_5 nw8))
    (b8C8 : PySem.W.typeIn K (.ref C8) = some (.type "type"))
    (aC9 : PySem.W.nsIn K mainGlobals "NoPlace" = some (some (.ref C9)))
    (xC9 : K.lookup C9 = some (excClassObj nm9 q9 C9 N9 bs9 (bm9) true sn9 su9 ab9 co9 dd9 a9_0 a9_1 a9_2 a9_3 a9_5 nw9))
    (b8C9 : PySem.W.typeIn K (.ref C9) = some (.type "type"))
    (aC10 : PySem.W.nsIn K mainGlobals "NoPlaces" = some (some (.ref C10)))
    (xC10 : K.lookup C10 = some (excClassObj nm10 q10 C10 N10 bs10 (bm10) true sn10 su10 ab10 co10 dd10 a10_0 a10_1 a10_2 a10_3 a10_5 nw10))
    (b8C10 : PySem.W.typeIn K (.ref C10) = some (.type "type"))
    (aC11 : PySem.W.nsIn K mainGlobals "NoRoom" = some (some (.ref C11)))
    (xC11 : K.lookup C11 = some (excClassObj nm11 q11 C11 N11 bs11 (bm11) true sn11 su11 ab11 co11 dd11 a11_0 a11_1 a11_2 a11_3 a11_5 nw11))
    (b8C11 : PySem.W.typeIn K (.ref C11) = some (.type "type"))
    (aC12 : PySem.W.nsIn K mainGlobals "NoRule" = some (some (.ref C12)))
    (xC12 : K.lookup C12 = some (excClassObj nm12 q12 C12 N12 bs12 (bm12) true sn12 su12 ab12 co12 dd12 a12_0 a12_1 a12_2 a12_3 a12_5 nw12))
    (b8C12 : PySem.W.typeIn K (.ref C12) = some (.type "type"))
    (aC13 : PySem.W.nsIn K mainGlobals "NoStand" = some (some (.ref C13)))
    (xC13 : K.lookup C13 = some (excClassObj nm13 q13 C13 N13 bs13 (bm13) true sn13 su13 ab13 co13 dd13 a13_0 a13_1 a13_2 a13_3 a13_5 nw13))
    (b8C13 : PySem.W.typeIn K (.ref C13) = some (.type "type"))
    (aC14 : PySem.W.nsIn K mainGlobals "NotDone" = some (some (.ref C14)))
    (xC14 : K.lookup C14 = some (excClassObj nm14 q14 C14 N14 bs14 (bm14) true sn14 su14 ab14 co14 dd14 a14_0 a14_1 a14_2 a14_3 a14_5 nw14))
    (b8C14 : PySem.W.typeIn K (.ref C14) = some (.type "type"))
    (aC15 : PySem.W.nsIn K mainGlobals "NoText" = some (some (.ref C15)))
    (xC15 : K.lookup C15 = some (excClassObj nm15 q15 C15 N15 bs15 (bm15) true sn15 su15 ab15 co15 dd15 a15_0 a15_1 a15_2 a15_3 a15_5 nw15))
    (b8C15 : PySem.W.typeIn K (.ref C15) = some (.type "type"))
    (aC16 : PySem.W.nsIn K mainGlobals "Spent" = some (some (.ref C16)))
    (xC16 : K.lookup C16 = some (excClassObj nm16 q16 C16 N16 bs16 (bm16) true sn16 su16 ab16 co16 dd16 a16_0 a16_1 a16_2 a16_3 a16_5 nw16))
    (b8C16 : PySem.W.typeIn K (.ref C16) = some (.type "type"))
    (aC17 : PySem.W.nsIn K mainGlobals "Taken" = some (some (.ref C17)))
    (xC17 : K.lookup C17 = some (excClassObj nm17 q17 C17 N17 bs17 (bm17) true sn17 su17 ab17 co17 dd17 a17_0 a17_1 a17_2 a17_3 a17_5 nw17))
    (b8C17 : PySem.W.typeIn K (.ref C17) = some (.type "type"))
    (aC18 : PySem.W.nsIn K mainGlobals "TooMany" = some (some (.ref C18)))
    (xC18 : K.lookup C18 = some (excClassObj nm18 q18 C18 N18 bs18 (bm18) true sn18 su18 ab18 co18 dd18 a18_0 a18_1 a18_2 a18_3 a18_5 nw18))
    (b8C18 : PySem.W.typeIn K (.ref C18) = some (.type "type"))
    (aC19 : PySem.W.nsIn K mainGlobals "Unlike" = some (some (.ref C19)))
    (xC19 : K.lookup C19 = some (excClassObj nm19 q19 C19 N19 bs19 (bm19) true sn19 su19 ab19 co19 dd19 a19_0 a19_1 a19_2 a19_3 a19_5 nw19))
    (b8C19 : PySem.W.typeIn K (.ref C19) = some (.type "type"))
    (vb1 : PySem.W.specialIn K (.builtin "object.__class__") "__get__" = some (some (.builtin "getset_descriptor.__get__")))
    (vb2 : PySem.W.takesIn K (.builtin "object.__class__") = some true)
    (z_len : PySem.W.nsIn K mainGlobals "len" = some none)
    (z_abs : PySem.W.nsIn K mainGlobals "abs" = some none)
    (z_range : PySem.W.nsIn K mainGlobals "range" = some none)
    (z_repr : PySem.W.nsIn K mainGlobals "repr" = some none)
    (z_int : PySem.W.nsIn K mainGlobals "int" = some none)
    (z_min : PySem.W.nsIn K mainGlobals "min" = some none)
    (z_max : PySem.W.nsIn K mainGlobals "max" = some none)
    (z_ValueError : PySem.W.nsIn K mainGlobals "ValueError" = some none)
    (z_isinstance : PySem.W.nsIn K mainGlobals "isinstance" = some none)
    (apart : ([C0, C1, C2, C3, C4, C5, C6, C7, C8, C9, C10, C11, C12, C13, C14, C15, C16, C17, C18, C19] : List Addr).Nodup) :
    ∃ (fd : FuncData) (cs : List (Addr × Addr)), (∀ p ∈ cs, TabIn K mg ["_law_right"] p) ∧ (∀ (s : Shared) (v : Value), BindsTo s fd ⟨[v], []⟩ [("_law_script", v)]) ∧
      ∀ base : Heap, K.In base → base.Ns mainGlobals mg → (∀ p ∈ cs, TabB base mg p.1 p.2) → FnG l.prog w K mg base CX0 10 fa fd ["_law_script"] (spLaw K cs) := by
  have e := hfa.symm.trans (PySem.W.mg_of X G aF13)
  cases e
  have F0 := fun_mk (st := sTb) lF0 cF0 kF0
  have b0 := F0.binds (ps := ["part", "look"]) fun _ _ _ _ _ _ us hl => match us, hl with | [_, _], _ => rfl
  have m0 := PySem.W.mg_of X G aF0
  have F1 := fun_mk (st := sJb) lF1 cF1 kF1
  have b1 := F1.binds (ps := ["word", "first", "second"]) fun _ _ _ _ _ _ us hl => match us, hl with | [_, _, _], _ => rfl
  have m1 := PySem.W.mg_of X G aF1
  have F2 := fun_mk (st := sFeed) lF2 cF2 kF2
  have b2 := F2.binds (ps := ["_law_script", "_law_k"]) fun _ _ _ _ _ _ us hl => match us, hl with | [_, _], _ => rfl
  have m2 := PySem.W.mg_of X G aF2
  have F3 := fun_mk (st := sTake) lF3 cF3 kF3
  have b3 := F3.binds (ps := ["_law_feed_here", "_law_many"]) fun _ _ _ _ _ _ us hl => match us, hl with | [_, _], _ => rfl
  have m3 := PySem.W.mg_of X G aF3
  have F4 := fun_mk (st := sLabel) lF4 cF4 kF4
  have b4 := F4.binds (ps := ["_law_feed_here"]) fun _ _ _ _ _ _ us hl => match us, hl with | [_], _ => rfl
  have m4 := PySem.W.mg_of X G aF4
  have F5 := fun_mk (st := sNum) lF5 cF5 kF5
  have b5 := F5.binds (ps := ["_law_feed_here"]) fun _ _ _ _ _ _ us hl => match us, hl with | [_], _ => rfl
  have m5 := PySem.W.mg_of X G aF5
  have F6 := fun_mk (st := sPiece) lF6 cF6 kF6
  have b6 := F6.binds (ps := ["_law_feed_here", "_law_deep", "_law_room"]) fun _ _ _ _ _ _ us hl => match us, hl with | [_, _, _], _ => rfl
  have m6 := PySem.W.mg_of X G aF6
  have F7 := fun_mk (st := sAl) lF7 cF7 kF7
  have b7 := F7.binds (ps := ["_law_piece_here"]) fun _ _ _ _ _ _ us hl => match us, hl with | [_], _ => rfl
  have m7 := PySem.W.mg_of X G aF7
  have F8 := fun_mk (st := sWo) lF8 cF8 kF8
  have b8 := F8.binds (ps := ["_law_feed_here", "_law_piece_here"]) fun _ _ _ _ _ _ us hl => match us, hl with | [_, _], _ => rfl
  have m8 := PySem.W.mg_of X G aF8
  have F9 := fun_mk (st := sQt) lF9 cF9 kF9
  have b9 := F9.binds (ps := ["_law_first", "_law_last"]) fun _ _ _ _ _ _ us hl => match us, hl with | [_, _], _ => rfl
  have m9 := PySem.W.mg_of X G aF9
  have F10 := fun_mk (st := sTd) lF10 cF10 kF10
  have b10 := F10.binds (ps := ["_law_piece_here", "_law_worths_here"]) fun _ _ _ _ _ _ us hl => match us, hl with | [_, _], _ => rfl
  have m10 := PySem.W.mg_of X G aF10
  have F11 := fun_mk (st := sHeard) lF11 cF11 kF11
  have b11 := F11.binds (ps := ["_law_ask_now"]) fun _ _ _ _ _ _ us hl => match us, hl with | [_], _ => rfl
  have m11 := PySem.W.mg_of X G aF11
  have F12 := fun_mk (st := sRi) lF12 cF12 kF12
  have Fc12 : FunC K "_law_right" "_law_right" sRi f12 _ cc1 := ⟨⟨_, _, _, _, _, _, _, _, rfl, lF12, cF12⟩, kF12⟩
  have b12 := F12.binds (ps := ["_law_piece_here", "_law_worths_here"]) fun _ _ _ _ _ _ us hl => match us, hl with | [_, _], _ => rfl
  have m12 := PySem.W.mg_of X G aF12
  have F13 := fun_mk (st := sLaw) lF13 cF13 kF13
  have m13 := PySem.W.mg_of X G aF13
  have y_len := PySem.W.mg_none_of X G z_len
  have y_abs := PySem.W.mg_none_of X G z_abs
  have y_range := PySem.W.mg_none_of X G z_range
  have y_repr := PySem.W.mg_none_of X G z_repr
  have y_int := PySem.W.mg_none_of X G z_int
  have y_min := PySem.W.mg_none_of X G z_min
  have y_max := PySem.W.mg_none_of X G z_max
  have y_ValueError := PySem.W.mg_none_of X G z_ValueError
  have y_isinstance := PySem.W.mg_none_of X G z_isinstance
  have p0 : ClP K C0 := ⟨⟨b1C0, b2C0, b3C0, b4C0, b5C0, b6C0⟩, b7C0, b8C0, b9C0, some_of xC0⟩
  have p1 : ClP K C1 := ⟨⟨b1C1, b2C1, b3C1, b4C1, b5C1, b6C1⟩, b7C1, b8C1, b9C1, some_of xC1⟩
  have p2 : ClP K C2 := ⟨⟨b1C2, b2C2, b3C2, b4C2, b5C2, b6C2⟩, b7C2, b8C2, b9C2, some_of xC2⟩
  have o0 := oex_of xC0 (refs_v C1).1 p0
  have inj : ∀ i j : Nat, i < 20 → j < 20 → (fun i => ([C0, C1, C2, C3, C4, C5, C6, C7, C8, C9, C10, C11, C12, C13, C14, C15, C16, C17, C18, C19] : List Addr).getD i 0) i = (fun i => ([C0, C1, C2, C3, C4, C5, C6, C7, C8, C9, C10, C11, C12, C13, C14, C15, C16, C17, C18, C19] : List Addr).getD i 0) j → i = j := by
    intro i j hi hj e
    have e' : ([C0, C1, C2, C3, C4, C5, C6, C7, C8, C9, C10, C11, C12, C13, C14, C15, C16, C17, C18, C19] : List Addr)[i]'hi = [C0, C1, C2, C3, C4, C5, C6, C7, C8, C9, C10, C11, C12, C13, C14, C15, C16, C17, C18, C19][j]'hj := by
      have g : ∀ k (hk : k < 20), ([C0, C1, C2, C3, C4, C5, C6, C7, C8, C9, C10, C11, C12, C13, C14, C15, C16, C17, C18, C19] : List Addr).getD k 0 = [C0, C1, C2, C3, C4, C5, C6, C7, C8, C9, C10, C11, C12, C13, C14, C15, C16, C17, C18, C19][k]'hk := fun k hk => by
        rw [List.getD_eq_getElem?_getD, List.getElem?_eq_getElem hk]
        rfl
      rw [← g i hi, ← g j hj]
      exact e
    exact (List.getElem_inj apart).mp e'
  have ev3 : ∀ i : Nat, i < 3 → EvC K ((fun i => ([C0, C1, C2, C3, C4, C5, C6, C7, C8, C9, C10, C11, C12, C13, C14, C15, C16, C17, C18, C19] : List Addr).getD i 0) i) := by
    intro i hi
    have hh : i = 0 ∨ i = 1 ∨ i = 2 := by omega
    rcases hh with rfl | rfl | rfl
    · exact p0.ev
    · exact p1.ev
    · exact p2.ev
  have ty20 : ∀ i : Nat, i < 20 → ((PySem.W.clsIn K ((fun i => ([C0, C1, C2, C3, C4, C5, C6, C7, C8, C9, C10, C11, C12, C13, C14, C15, C16, C17, C18, C19] : List Addr).getD i 0) i)).isSome && PySem.W.typeIn K (.ref ((fun i => ([C0, C1, C2, C3, C4, C5, C6, C7, C8, C9, C10, C11, C12, C13, C14, C15, C16, C17, C18, C19] : List Addr).getD i 0) i)) == some (.type "type")) = true := by
    intro i hi
    have hh : i = 0 ∨ i = 1 ∨ i = 2 ∨ i = 3 ∨ i = 4 ∨ i = 5 ∨ i = 6 ∨ i = 7 ∨ i = 8 ∨ i = 9 ∨ i = 10 ∨ i = 11 ∨ i = 12 ∨ i = 13 ∨ i = 14 ∨ i = 15 ∨ i = 16 ∨ i = 17 ∨ i = 18 ∨ i = 19 := by omega
    rcases hh with rfl | rfl | rfl | rfl | rfl | rfl | rfl | rfl | rfl | rfl | rfl | rfl | rfl | rfl | rfl | rfl | rfl | rfl | rfl | rfl
    · exact tyb_of (some_of xC0) b8C0
    · exact tyb_of (some_of xC1) b8C1
    · exact tyb_of (some_of xC2) b8C2
    · exact tyb_of (some_of xC3) b8C3
    · exact tyb_of (some_of xC4) b8C4
    · exact tyb_of (some_of xC5) b8C5
    · exact tyb_of (some_of xC6) b8C6
    · exact tyb_of (some_of xC7) b8C7
    · exact tyb_of (some_of xC8) b8C8
    · exact tyb_of (some_of xC9) b8C9
    · exact tyb_of (some_of xC10) b8C10
    · exact tyb_of (some_of xC11) b8C11
    · exact tyb_of (some_of xC12) b8C12
    · exact tyb_of (some_of xC13) b8C13
    · exact tyb_of (some_of xC14) b8C14
    · exact tyb_of (some_of xC15) b8C15
    · exact tyb_of (some_of xC16) b8C16
    · exact tyb_of (some_of xC17) b8C17
    · exact tyb_of (some_of xC18) b8C18
    · exact tyb_of (some_of xC19) b8C19
  have c03 : Cls03 K mg (fun i => ([C0, C1, C2, C3, C4, C5, C6, C7, C8, C9, C10, C11, C12, C13, C14, C15, C16, C17, C18, C19] : List Addr).getD i 0) := ⟨PySem.W.mg_of X G aC0, PySem.W.mg_of X G aC1, PySem.W.mg_of X G aC2, PySem.W.mg_of X G aC3, PySem.W.mg_of X G aC4, PySem.W.mg_of X G aC5, PySem.W.mg_of X G aC6, PySem.W.mg_of X G aC7, PySem.W.mg_of X G aC8, PySem.W.mg_of X G aC9, PySem.W.mg_of X G aC10, PySem.W.mg_of X G aC11, PySem.W.mg_of X G aC12, PySem.W.mg_of X G aC13, PySem.W.mg_of X G aC14, PySem.W.mg_of X G aC15, PySem.W.mg_of X G aC16, PySem.W.mg_of X G aC17, PySem.W.mg_of X G aC18, PySem.W.mg_of X G aC19, inj, ev3, ty20, cls_of xC0, ⟨vb1, vb2⟩, y_isinstance⟩
  have T : Txt K (fun i => ([C0, C1, C2, C3, C4, C5, C6, C7, C8, C9, C10, C11, C12, C13, C14, C15, C16, C17, C18, C19] : List Addr).getD i 0) := ⟨o0, iC0⟩
  have kTb := back2_of F0 (p0 := "part") (p1 := "look") fun _ _ _ _ _ _ _ _ => rfl
  refine ⟨PySem.W.fnOf "law" "law" (defArgs sLaw) (defBody sLaw) (defScope sLaw) .none kV13 dc13 pm13 an13 cd13 ct13, [(cc1, P1)], ?_, fun s v => .of_eq rfl, fun base _ _ TB => ?_⟩
  · intro p hp
    simp only [List.mem_cons, List.not_mem_nil, or_false] at hp
    subst hp
    exact ⟨"_law_right", f12, _, _, _, _, _, _, _, _, by simp, m12, lF12, rfl, lK1, pK1, nK1⟩
  have gJb := ok_jb (P := l.prog) (w := w) (base := base) F1 T c03
  have gTb := ok_tb (P := l.prog) (w := w) (base := base) F0 b0 m0 F1 gJb b1 m1 5
  have gFeed := ok_feed (P := l.prog) (w := w) (base := base) F2 y_len y_abs
  have gTake := ok_take (P := l.prog) (w := w) (base := base) (K := K) (mg := mg) F3
  have gLab := ok_label (P := l.prog) (w := w) (base := base) F4 F3 b3 m3 y_range
  have gNum := ok_num (P := l.prog) (w := w) (base := base) F5 F3 b3 m3
  have gPc := ok_piece (P := l.prog) (w := w) (base := base) F6 b6 m6 F3 b3 m3 gLab F4 b4 m4 gNum F5 b5 m5 5
  have gAl := ok_al (P := l.prog) (w := w) (base := base) (mg := mg) F7 b7 m7 5
  have gWo := ok_wo (P := l.prog) (w := w) (base := base) F8 y_int F3 gTake m3 b3 F5 gNum m5 b5 F7 gAl m7 b7
  have gQt := ok_qt (P := l.prog) (w := w) (base := base) F9 y_abs y_int
  have gTd := ok_td (P := l.prog) (w := w) (base := base) F10 b10 m10 F9 gQt b9 m9 5
  have gRi := ok_ri (P := l.prog) (w := w) (base := base) (c1 := cc1) (P1 := P1) Fc12 (TB (cc1, P1) (by simp)) y_ValueError y_repr y_range c03 F11 m11 b11 F0 gTb m0 b0 kTb F10 gTd m10 b10
  exact ok_law (c1 := cc1) (P1 := P1) F13 y_len y_range y_min y_max F2 gFeed b2 m2 F3 gTake b3 m3 F6 gPc b6 m6 F8 gWo b8 m8 F12 gRi b12 m12
end K03
open PySem PySem.W PyProof.Rows
set_option maxRecDepth 100000 in
set_option maxHeartbeats 0 in
theorem PySem.Challenge.cw_plansamid_k03_what_parts_tell_holds : PySem.Challenge.rw_plansamid_k03_what_parts_tell.Holds := by
  w_on; o_law; k_head; (case hw => w_witness2)
  k_fill
  refine Gd.walkT (l := PySem.Challenge.rw_plansamid_k03_what_parts_tell) (m := 63) (n := 10) (x := "_law_script") (ys := ["_law_right"]) (sp := K03.spLaw) rfl (by decide) rfl ⟨rfl, by decide, by decide⟩ (fun w h Y => PySem.W.km_in_of Y) ?H ?F ?S
  case H => rfl
  case S =>
    intro K cs H a ns h1 _ h3 h4
    exact ⟨a, ns, rfl, h4, h1, h3, fun _ => rfl⟩
  case F =>
    intro w mg fa h KX G hmg
    refine' K03.all_mk KX G hmg ?aF0 ?lF0 ?cF0 ?kF0 ?aF1 ?lF1 ?cF1 ?kF1 ?aF2 ?lF2 ?cF2 ?kF2 ?aF3 ?lF3 ?cF3 ?kF3 ?aF4 ?lF4 ?cF4 ?kF4 ?aF5 ?lF5 ?cF5 ?kF5 ?aF6 ?lF6 ?cF6 ?kF6 ?aF7 ?lF7 ?cF7 ?kF7 ?aF8 ?lF8 ?cF8 ?kF8 ?aF9 ?lF9 ?cF9 ?kF9 ?aF10 ?lF10 ?cF10 ?kF10 ?aF11 ?lF11 ?cF11 ?kF11 ?aF12 ?lF12 ?cF12 ?kF12 ?aF13 ?lF13 ?cF13 ?kF13 ?lK1 ?pK1 ?nK1 ?aC0 ?xC0 ?b1C0 ?b2C0 ?b3C0 ?b4C0 ?b5C0 ?b6C0 ?b7C0 ?b9C0 ?b8C0 ?iC0 ?aC1 ?xC1 ?b1C1 ?b2C1 ?b3C1 ?b4C1 ?b5C1 ?b6C1 ?b7C1 ?b9C1 ?b8C1 ?aC2 ?xC2 ?b1C2 ?b2C2 ?b3C2 ?b4C2 ?b5C2 ?b6C2 ?b7C2 ?b9C2 ?b8C2 ?aC3 ?xC3 ?b8C3 ?aC4 ?xC4 ?b8C4 ?aC5 ?xC5 ?b8C5 ?aC6 ?xC6 ?b8C6 ?aC7 ?xC7 ?b8C7 ?aC8 ?xC8 ?b8C8 ?aC9 ?xC9 ?b8C9 ?aC10 ?xC10 ?b8C10 ?aC11 ?xC11 ?b8C11 ?aC12 ?xC12 ?b8C12 ?aC13 ?xC13 ?b8C13 ?aC14 ?xC14 ?b8C14 ?aC15 ?xC15 ?b8C15 ?aC16 ?xC16 ?b8C16 ?aC17 ?xC17 ?b8C17 ?aC18 ?xC18 ?b8C18 ?aC19 ?xC19 ?b8C19 ?vb1 ?vb2 ?z_len ?z_abs ?z_range ?z_repr ?z_int ?z_min ?z_max ?z_ValueError ?z_isinstance ?apart
    (case aF0 => k_is)
    (case lF0 => k_is)
    (case cF0 => k_is)
    (case kF0 => k_is)
    (case aF1 => k_is)
    (case lF1 => k_is)
    (case cF1 => k_is)
    (case kF1 => k_is)
    (case aF2 => k_is)
    (case lF2 => k_is)
    (case cF2 => k_is)
    (case kF2 => k_is)
    (case aF3 => k_is)
    (case lF3 => k_is)
    (case cF3 => k_is)
    (case kF3 => k_is)
    (case aF4 => k_is)
    (case lF4 => k_is)
    (case cF4 => k_is)
    (case kF4 => k_is)
    (case aF5 => k_is)
    (case lF5 => k_is)
    (case cF5 => k_is)
    (case kF5 => k_is)
    (case aF6 => k_is)
    (case lF6 => k_is)
    (case cF6 => k_is)
    (case kF6 => k_is)
    (case aF7 => k_is)
    (case lF7 => k_is)
    (case cF7 => k_is)
    (case kF7 => k_is)
    (case aF8 => k_is)
    (case lF8 => k_is)
    (case cF8 => k_is)
    (case kF8 => k_is)
    (case aF9 => k_is)
    (case lF9 => k_is)
    (case cF9 => k_is)
    (case kF9 => k_is)
    (case aF10 => k_is)
    (case lF10 => k_is)
    (case cF10 => k_is)
    (case kF10 => k_is)
    (case aF11 => k_is)
    (case lF11 => k_is)
    (case cF11 => k_is)
    (case kF11 => k_is)
    (case aF12 => k_is)
    (case lF12 => k_is)
    (case cF12 => k_is)
    (case kF12 => k_is)
    (case aF13 => k_is)
    (case lF13 => k_is)
    (case cF13 => k_is)
    (case kF13 => k_is)
    (case lK1 => k_is)
    (case pK1 => rfl)
    (case nK1 => rfl)
    (case aC0 => k_is)
    (case xC0 => k_is)
    (case b1C0 => k_is)
    (case b2C0 => k_is)
    (case b3C0 => k_is)
    (case b4C0 => k_is)
    (case b5C0 => k_is)
    (case b6C0 => k_is)
    (case b7C0 => k_is)
    (case b9C0 => k_is)
    (case b8C0 => k_is)
    (case iC0 => k_is)
    (case aC1 => k_is)
    (case xC1 => k_is)
    (case b1C1 => k_is)
    (case b2C1 => k_is)
    (case b3C1 => k_is)
    (case b4C1 => k_is)
    (case b5C1 => k_is)
    (case b6C1 => k_is)
    (case b7C1 => k_is)
    (case b9C1 => k_is)
    (case b8C1 => k_is)
    (case aC2 => k_is)
    (case xC2 => k_is)
    (case b1C2 => k_is)
    (case b2C2 => k_is)
    (case b3C2 => k_is)
    (case b4C2 => k_is)
    (case b5C2 => k_is)
    (case b6C2 => k_is)
    (case b7C2 => k_is)
    (case b9C2 => k_is)
    (case b8C2 => k_is)
    (case aC3 => k_is)
    (case xC3 => k_is)
    (case b8C3 => k_is)
    (case aC4 => k_is)
    (case xC4 => k_is)
    (case b8C4 => k_is)
    (case aC5 => k_is)
    (case xC5 => k_is)
    (case b8C5 => k_is)
    (case aC6 => k_is)
    (case xC6 => k_is)
    (case b8C6 => k_is)
    (case aC7 => k_is)
    (case xC7 => k_is)
    (case b8C7 => k_is)
    (case aC8 => k_is)
    (case xC8 => k_is)
    (case b8C8 => k_is)
    (case aC9 => k_is)
    (case xC9 => k_is)
    (case b8C9 => k_is)
    (case aC10 => k_is)
    (case xC10 => k_is)
    (case b8C10 => k_is)
    (case aC11 => k_is)
    (case xC11 => k_is)
    (case b8C11 => k_is)
    (case aC12 => k_is)
    (case xC12 => k_is)
    (case b8C12 => k_is)
    (case aC13 => k_is)
    (case xC13 => k_is)
    (case b8C13 => k_is)
    (case aC14 => k_is)
    (case xC14 => k_is)
    (case b8C14 => k_is)
    (case aC15 => k_is)
    (case xC15 => k_is)
    (case b8C15 => k_is)
    (case aC16 => k_is)
    (case xC16 => k_is)
    (case b8C16 => k_is)
    (case aC17 => k_is)
    (case xC17 => k_is)
    (case b8C17 => k_is)
    (case aC18 => k_is)
    (case xC18 => k_is)
    (case b8C18 => k_is)
    (case aC19 => k_is)
    (case xC19 => k_is)
    (case b8C19 => k_is)
    (case vb1 => k_is)
    (case vb2 => k_is)
    (case z_len => k_is)
    (case z_abs => k_is)
    (case z_range => k_is)
    (case z_repr => k_is)
    (case z_int => k_is)
    (case z_min => k_is)
    (case z_max => k_is)
    (case z_ValueError => k_is)
    (case z_isinstance => k_is)
    (case apart => decide)
end
