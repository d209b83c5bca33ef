import PyProof.Rows.All
import Wide.All
import OpenK.AllK
import Wide.FinOn
import HandS.ForMost
import HandS.ForExc
import HandS.EndBits
import HandS.IsInst
import PyProof.ReprRoads
import PyProof.ReprLen
import HandS.TupAny
import PyProof.Rows.IntBool
import KE.KRevSl
import HandS.Style
import PyProof.FitsInt
import PyProof.NeKinds
import KE.SortData
import HandS.Text
import HandS.Codes
import HandS.Conv
import HandS.Walk
import KE.LtData
import HandS.Deep
import HandS.TupSets
import PySem.Challenge.RW_plansamid_k02_cells_and_faults_of_parts

section
set_option Elab.async false
set_option linter.all false
set_option maxRecDepth 100000
set_option maxHeartbeats 4000000
/-! A def's promise where no text of a container is being put together around it (so that repr is served). -/
namespace Gd
open PySem PySem.Spec PyProof.Rows L2

/-- no container is amid its own text -/
def Free (A : Around) : Prop := A.guards = some []

structure FnG (P : Program) (w : World) (K : PySem.W.Frag) (mg : Str → Option Value)
    (base : Heap) (cx : CXT) (n : Nat) (f : Addr) (fd : FuncData) (ps : List Str) (sp : Sp) : Prop where
  len : ∀ vs H Q E, sp vs H Q E → vs.length = ps.length
  run : ∀ (A : Around) (out : List Env) (s : Shared) (H : Hp) (args : Args) (us : List Value)
      (vs : List V) (Q : VK) (E : XK), Free A → Room n A → Env0 P w K mg base A out s H →
      BindsTo s fd args (ps.zip us) → Vals vs us → sp vs H Q E →
      codeAny (model P w) A (.call (.ref f) args) (CR cx out P w H s Q E) s

section
variable {P : Program} {w : World} {K : PySem.W.Frag} {mg : Str → Option Value} {base : Heap} {cx : CXT}
theorem FnG.ofOk {n : Nat} {f : Addr} {fd : FuncData} {ps : List Str} {sp : Sp}
    (F : FnOk P w K mg base cx n f fd ps sp) : FnG P w K mg base cx n f fd ps sp :=
  ⟨F.len, fun A out s H args us vs Q E _ => F.run A out s H args us vs Q E⟩
theorem FnG.mono {m n : Nat} {f : Addr} {fd : FuncData} {ps : List Str} {sp : Sp}
    (F : FnG P w K mg base cx m f fd ps sp) (h : m ≤ n) : FnG P w K mg base cx n f fd ps sp :=
  ⟨F.len, fun A out s H args us vs Q E g r => F.run A out s H args us vs Q E g (r.mono h)⟩
end

section
variable {X : Cx} {cx : CXT} {n : Nat} {f : Addr} {fd : FuncData} {ps : List Str} {sp : Sp}
  {dvs : List V} {ds : List Value} {E : XK} {x : Str} {p pos : Pos} {e : Expr} {es : List Expr} {t : TA}

theorem run_g {pins : List (Addr × Obj)} {σ : L2.St} {H : Hp} {s : Shared} {Q : VK} {us : List Value} {vs : List V}
    (F : FnG X.prog X.w X.K X.mg X.base cx n f fd ps sp) (g : Free X.A) (hr : Room n X.A)
    (hb : Binds X.K fd ps ds) (hd : Vals dvs ds) (hx : Passes cx X E)
    (I : Inv X pins σ H s) (r : Vals vs us) (h : sp (vs ++ dvs) H Q E) :
    wpAny (model X.prog X.w) X.A (call (.ref f) us) (EP X pins σ Q) X.xe s := by
  have rr : Vals (vs ++ dvs) (us ++ ds) := r.append hd
  have hl : (us ++ ds).length = ps.length := (Paired.length rr).symm.trans (F.len _ _ _ _ h)
  have all := F.run X.A X.stack s H ⟨us, []⟩ (us ++ ds) (vs ++ dvs) Q E g hr I.env0 (hb s us I.kIn hl) rr h
  refine wpAny_call (codeAny_mono all ?_)
  intro o s' z
  cases o with
  | error er => exact hx pins σ H s er s' I z
  | ok fl =>
    cases fl with
    | ret u => exact I.after z
    | _ => exact False.elim z

theorem pe_callG (F : FnG X.prog X.w X.K X.mg X.base cx n f fd ps sp) (g : Free X.A) (hr : Room n X.A)
    (hg : Gl X x) (hm : X.mg x = some (.ref f)) (hk : PySem.W.keepIn X.K (.ref f) = true)
    (hb : Binds X.K fd ps ds) (hd : Vals dvs ds) (hx : Passes cx X E) (ha : PA X (e :: es) t)
    (hdb : (x == ("__debug__" : Str)) = false := by decide)
    (he : starEach (e :: es) X.env = (false, eval e X.env) :: starEach es X.env := by rfl)
    (hpl : (backTo pos (starEach es X.env)).any (·.1) = false := by rfl) :
    PE X (.Call (.Name x p) (e :: es) [] pos) (tCall sp dvs E t) := by
  constructor
  intro pins s σ H Q I h
  refine wpAny_Call_Name_kw (ld_glob I hg hm ?_ hdb)
  have args := ha.run pos pins s σ H _ I h
  refine PySem.W.callWith_K (h₀ := X.base) I.ok.mod.kin hk (thn args ?_) he hpl
  rintro us s1 ⟨vs, H1, J, r, q⟩
  exact ⟨J.kIn, run_g F g hr hb hd hx J r q⟩
end

/-! ### by the body -/
section
variable {P : Program} {w : World} {K : PySem.W.Frag} {mg : Str → Option Value} {base : Heap}
theorem FnG.body {cx : CXT} {n : Nat} {f : Addr} {nm ql : Str} {pr : Arguments} {bd : List Stmt} {sc : Scope}
    {dV kV dc pm cv ct oc : Value} {an od : Option Addr} {sl : Array (Option Value)} {N ps : List Str} {sp : Sp}
    (lk : K.lookup f = some ⟨oc, od, .func (PySem.W.fnOf nm ql pr bd sc dV kV dc pm an cv ct), sl⟩)
    (hc : PySem.W.codeIn K cv ql = true) (S : FnScope N ps sc) (len : ∀ vs H Q E, sp vs H Q E → vs.length = ps.length)
    (hb : ∀ (A : Around) (out : List Env) (s : Shared) (H : Hp) (vs : List V) (Q : VK) (E : XK),
      Free (A.deeper (envOfC ql sc s.heap.objs.size f cv)) → Room n (A.deeper (envOfC ql sc s.heap.objs.size f cv)) →
      sp vs H Q E → ∃ t, PSs (cxOf cx P w K mg base N ql sc f cv A out s H E) bd t ∧
        t { nx := fun _ H' => Q .non H', rt := Q } (start N vs) H) :
    FnG P w K mg base cx (n + 1) f (PySem.W.fnOf nm ql pr bd sc dV kV dc pm an cv ct) ps sp := by
  refine ⟨len, ?_⟩
  intro A out s H args us vs Q E g hr e0 hbd r hsp
  have hl := len _ _ _ _ hsp
  have KX : K.In s.heap := e0.mod.kin.keeps fun b o e => (e0.bs b o e).1
  have lim : s.heap.NoLimit := e0.mod.nolimit.keeps fun b o e => (e0.bs b o e).1
  have kinds : ∀ y ∈ ps.zip us, sc.names.lookup y.1 = some .local ∨
      (sc.names.lookup y.1 = some .cell ∧
        ((cellsFrom (s.heap.objs.size + 1) sc.names []).lookup y.1).isSome = true) := by
    rintro ⟨y, v⟩ hy
    rcases S.par y (List.of_mem_zip hy).1 with q | q
    · left; exact q
    · right; exact ⟨q, PySem.W.cellsFrom_some _ _ _ (.inl q)⟩
  have code := PySem.W.codeRec_of KX hc
  refine codeAny_call_function hr.depth (KX _ _ lk) rfl S.co S.gen rfl code (hbd _ _ _ _ ?_)
  refine wpAny_newFunctionEnv_cells S.kind kinds ?_
  intro env he s1 x
  subst he
  refine ⟨lim.keeps x.toInCall.keep, codeAny_func ?_⟩
  obtain ⟨t, ht, hq⟩ := hb A out s H vs Q E g (hr.deeper _) hsp
  have I := inv_start (CX := cx) (P := P) (w := w) (E := E) S hr.hd e0 hl r x
  refine wpAny_mono (ht.run [] s1 (start N vs) H _ I hq) ?_ fun er s' z => z
  intro fl s' z
  cases fl with
  | ret u =>
    obtain ⟨v, σ', H', J, rv, q⟩ := z
    exact ⟨v, H', J.os, J.bare, J.base, J.hok, rv, q⟩
  | next =>
    obtain ⟨σ', H', J, q⟩ := z
    exact ⟨V.non, H', J.os, J.bare, J.base, J.hok, rfl, q⟩
  | brk =>
    obtain ⟨_, _, _, q⟩ := z
    exact q.elim
  | cont =>
    obtain ⟨_, _, _, q⟩ := z
    exact q.elim

theorem okG {x ql : Str} {st : Stmt} {f : Addr} {fd : FuncData} {N ps : List Str} {n : Nat} {sp : Sp}
    (F : Fun K x ql st f fd) (S : FnScope N ps (defScope st)) (len : ∀ vs H Q E, sp vs H Q E → vs.length = ps.length)
    (hb : ∀ (cv : Value) (A : Around) (out : List Env) (s : Shared) (H : Hp) (vs : List V) (Q : VK) (E : XK),
      Free (A.deeper (envOfC ql (defScope st) s.heap.objs.size f cv)) →
      Room n (A.deeper (envOfC ql (defScope st) s.heap.objs.size f cv)) → sp vs H Q E →
      ∃ t, PSs (cxOf CX0 P w K mg base N ql (defScope st) f cv A out s H E).nox (defBody st) t ∧
        t { nx := fun _ H' => Q .non H', rt := Q } (start N vs) H) :
    FnG P w K mg base CX0 (n + 1) f fd ps sp := by
  obtain ⟨oc, od, kV, dc, pm, an, cv, ct, sl, rfl, lk, hc⟩ := F.ex
  refine FnG.body lk hc S len ?_
  intro A out s H vs Q E g hr hsp
  obtain ⟨t, h, q⟩ := hb cv A out s H vs Q E g hr hsp
  exact ⟨t, h.nox, q⟩
end
end Gd
end

section
set_option Elab.async false
set_option linter.all false
set_option maxRecDepth 100000
set_option maxHeartbeats 4000000
/-! The end of a law's row from a promise of Gd.FnG. -/
namespace Gd
open PySem PySem.Spec PyProof.Rows L2

/-- what is wanted of the law's own call -/
def Yes (s1 : Shared) (r : Result) (s' : Shared) : Prop :=
  r = .ok (.ret (.bool true)) ∧ OldK s1.heap s'.heap ∧ s'.os = s1.os ∧ AllBare s'.gens

section
variable {P : Program} {w : World} {K : PySem.W.Frag} {mg mb : Str → Option Value} {cx : CXT} {n : Nat}
  {fa a : Addr} {fd : FuncData} {x : Str} {sp : Sp} {s1 : Shared} {vs : List Value} {ns : List Int}

theorem begun (H : Hp) (only : Only H) (hS : SqL K H a (ns.map V.int)) (hok : HOk P w H s1.heap)
    (at_a : ∀ b, H b ≠ none → b = a) (noK : H a ≠ none → K.lookup a = none)
    (KX : K.In s1.heap) (hns : s1.heap.Ns mainGlobals mg) (hb : s1.heap.Ns builtinsNs mb)
    (hbb : ∀ y : Str, y ≠ "__name__" → mb y = bootBuiltins y) (hlim : s1.heap.NoLimit) (hg : s1.gens = #[])
    (ha : s1.heap.get? a = some { cls := .type "list", data := .seq vs.toArray }) (hr : Room n callerA)
    (F : ∀ base : Heap, K.In base → base.Ns mainGlobals mg → FnG P w K mg base cx n fa fd [x] sp)
    (hbind : ∀ (s : Shared) (u : Value), BindsTo s fd ⟨[u], []⟩ [(x, u)])
    (hsp : sp [.ref a] H (fun v _ => v = .bl true) fun _ _ _ => False)
    (hCX : ∀ e s', cx [] H s1 (fun _ _ _ => False) e s' → False) :
    codeAny (model P w) callerA (.call (.ref fa) ⟨[.ref a], []⟩) (Yes s1) s1 := by
  -- the base: what isn't tracked
  let B := hidT s1.heap H
  have toB : ∀ {b : Addr} {o : Obj}, s1.heap.get? b = some o → H b = none → B.get? b = some o :=
    fun e z => hidT_get e z
  have notDict : ∀ {b : Addr} {o : Obj} {es : Array DictEntry} {m : Nat},
      s1.heap.get? b = some o → o.data = .dict es m → H b = none := by
    intro b o es m e d
    cases q : H b with
    | none => rfl
    | some u =>
      exfalso
      have eb : b = a := at_a b (by simp [q])
      rw [eb, ha] at e
      cases Option.some.inj e
      cases d
  have nsB : ∀ {b : Addr} {m : Str → Option Value}, s1.heap.Ns b m → B.Ns b m := by
    rintro b m ⟨o, es, ep, e, d, r⟩
    exact ⟨o, es, ep, toB e (notDict e d), d, r⟩
  have inB : K.In B := by
    intro b o e
    refine toB (KX b o e) ?_
    cases q : H b with
    | none => rfl
    | some u =>
      have eb : b = a := at_a b (by simp [q])
      have z := noK (by rw [← eb, q]; simp)
      rw [eb, z] at e
      cases e
  have modB : Mod K mg B := by
    obtain ⟨mc, l1, l2⟩ := hlim
    exact ⟨inB, nsB hns, ⟨mb, nsB hb, hbb⟩, ⟨mc, nsB l1, l2⟩⟩
  have nil : ∀ {b : Addr}, b ∉ ([] : List Addr) := fun z => nomatch z
  have e0 : Env0 P w K mg B callerA [] s1 H :=
    ⟨rfl, modB, fun b o e => of_hidT e, Nat.le_of_eq (hidT_size _ _), trivial, fun b z => (nil z).elim, hok, .of_eq hg⟩
  have got := (F B inB (nsB hns)).run callerA [] s1 H ⟨[.ref a], []⟩ [.ref a] [.ref a] _ _ rfl hr e0
    (hbind s1 (.ref a)) (.cons rfl .nil) hsp
  refine codeAny_mono got ?_
  intro r s' z
  cases r with
  | error er => exact (hCX er s' z).elim
  | ok fl =>
    cases fl with
    | ret u =>
      obtain ⟨v, H', os, bare, un, hok', rv, q⟩ := z
      obtain rfl : v = .bl true := q
      obtain rfl : u = Value.bool true := rv
      refine ⟨rfl, OldK.of_keep ?_, os, bare⟩
      intro b o e
      cases q : H b with
      | none => exact un.keep b o e q (fun z => (nil z).elim) (fun z => (nil z).elim)
      | some u =>
        rcases only b with z | ⟨ob, xs, z⟩
        · exact nomatch q.symm.trans z
        · obtain ⟨g1, _⟩ := hok b _ z
          obtain ⟨g2, _⟩ := hok' b _ (un.frzs b ob _ z)
          exact g2.trans (g1.symm.trans e)
    | _ => exact False.elim z

theorem law_callG (KX : K.In s1.heap) (hns : s1.heap.Ns mainGlobals mg) (hb : s1.heap.Ns builtinsNs mb)
    (hbb : ∀ y : Str, y ≠ "__name__" → mb y = bootBuiltins y) (hlim : s1.heap.NoLimit) (hg : s1.gens = #[])
    (ha : s1.heap.get? a = some { cls := .type "list", data := .seq vs.toArray }) (hi : IntsAre vs ns)
    (hl : ns.length ≤ sizeLine) (hr : Room n callerA)
    (F : ∀ base : Heap, K.In base → base.Ns mainGlobals mg → FnG P w K mg base cx n fa fd [x] sp)
    (hbind : ∀ (s : Shared) (u : Value), BindsTo s fd ⟨[u], []⟩ [(x, u)])
    (hsp : ∀ H : Hp, Only H → SqL K H a (ns.map V.int) → sp [.ref a] H (fun v _ => v = .bl true) fun _ _ _ => False)
    (hCX : ∀ H e s', cx [] H s1 (fun _ _ _ => False) e s' → False) :
    codeAny (model P w) callerA (.call (.ref fa) ⟨[.ref a], []⟩) (Yes s1) s1 := by
  have rv := vals_ints hi
  have hz : vs.toArray.size ≤ sizeLine := by
    rw [List.size_toArray, hi.length]
    exact hl
  cases hk : K.lookup a with
  | some o =>
    have e : some o = some _ := (KX a o hk).symm.trans ha
    cases e
    have here : SqL K (fun _ => none) a (ns.map V.int) := .inr ⟨_, vs.toArray, _, hk, rfl, rfl, rfl, hz, by simpa using rv⟩
    have only : Only (fun _ => none) := fun _ => .inl rfl
    exact begun (fun _ => none) only here (fun b u z => nomatch z) (fun b z => absurd rfl z) (fun z => absurd rfl z)
      KX hns hb hbb hlim hg ha hr F hbind (hsp _ only here) (hCX _)
  | none =>
    let H : Hp := fun b => if b = a then some (.frz { cls := .type "list", data := .seq vs.toArray } (.lst (ns.map V.int))) else none
    have Ha : H a = some (.frz { cls := .type "list", data := .seq vs.toArray } (.lst (ns.map V.int))) := if_pos rfl
    have Hn : ∀ {b : Addr}, b ≠ a → H b = none := fun z => if_neg z
    have only : Only H := by
      intro b
      by_cases eb : b = a
      · right
        subst eb
        exact ⟨_, _, Ha⟩
      · left
        exact Hn eb
    have here : SqL K H a (ns.map V.int) := .inl (.inr ⟨_, Ha⟩)
    refine begun H only here ?_ ?_ (fun _ => hk) KX hns hb hbb hlim hg ha hr F hbind (hsp _ only here) (hCX _)
    · intro b u z
      by_cases eb : b = a
      · subst eb
        rw [Ha] at z
        cases z
        exact ⟨ha, by rw [List.length_map]; exact hl, vs, _, rv, ha⟩
      · rw [Hn eb] at z
        cases z
    · intro b z
      by_cases eb : b = a
      · exact eb
      · exact absurd (Hn eb) z
end

theorem walkG {l : PySem.W.OpenLaw} {m n : Nat} {q : Program} {loose : List Str} {XP : (Str → Option Value) → Heap → Prop}
    {YP : World → Heap → Prop} {d : DefRec} {K : Params → PySem.W.Frag} {sp : PySem.W.Frag → Sp} {x : Str}
    (hn : l.most = some m) (hm : m ≤ sizeLine) (hdf : d.params.defaults = []) (hr : Room n callerA)
    (hY : ∀ (w : World) (h : Heap), YP w h → (K w.params).In h)
    (F : ∀ (w : World) (mg : Str → Option Value) (fa : Addr) (h : Heap), (K w.params).In h → h.Ns mainGlobals mg →
      mg d.name = some (.ref fa) → ∃ fd : FuncData, (∀ (s : Shared) (u : Value), BindsTo s fd ⟨[u], []⟩ [(x, u)]) ∧
        ∀ base : Heap, (K w.params).In base → base.Ns mainGlobals mg →
          FnG l.prog w (K w.params) mg base CX0 n fa fd [x] (sp (K w.params)))
    (hsp : ∀ (K : PySem.W.Frag) (H : Hp) (a : Addr) (ns : List Int), ns.length ≤ m →
      (∀ z ∈ ns, Builtin.Int.intBits z ≤ 1048576) → Only H → SqL K H a (ns.map V.int) →
      sp K [.ref a] H (fun v _ => v = .bl true) fun _ _ _ => False) :
    PySem.W.WalkO q loose XP YP l.row.toRowW d [] (fun f vs => PySem.call f vs) := by
  refine Att.attach_callB hn hdf ?_
  intro w s0 s1 mg mb fa o pm cd dc a vs ns G Y ho hd hcd hmg hobj hints hlen hbits hg
  have KX := hY w _ Y
  obtain ⟨fd, hb, hF⟩ := F w mg fa _ KX G.T.g hmg
  exact law_callG KX G.T.g G.T.b G.T.builtins G.T.nolimit hg hobj hints (Nat.le_trans hlen hm) hr hF hb
    (fun H only hS => hsp _ H a ns hlen hbits only hS) fun H e s' z => z.elim
end Gd
end

section
set_option Elab.async false
set_option linter.all false
set_option maxRecDepth 100000
set_option maxHeartbeats 4000000
/-! What the laws draw from: a list of three numbers, of which each draw takes one more. -/
namespace Gd
open PySem PySem.Spec PyProof.Rows L2

/-- at p: what is left of a great number, the seed, how many were drawn, at most S -/
def Feed (H : Hp) (p : Addr) (S : Int) : Prop := ∃ g x s : Int, H p = some (.lst [.int g, .int x, .int s]) ∧ 0 ≤ s ∧ s ≤ S
theorem Feed.le {H : Hp} {p : Addr} {S T : Int} (h : Feed H p S) (l : S ≤ T) : Feed H p T := by
  obtain ⟨g, x, s, e, a, b⟩ := h
  exact ⟨g, x, s, e, a, by omega⟩
theorem Feed.here {H : Hp} {p : Addr} {S g x s : Int} (h0 : 0 ≤ s) (h : s ≤ S) : Feed (upd H p (.lst [.int g, .int x, .int s])) p S :=
  ⟨g, x, s, upd_same, h0, h⟩
theorem Feed.stays {H : Hp} {p q : Addr} {S : Int} {o : HO} (h : Feed H p S) (n : H q = none) : Feed (upd H q o) p S := by
  obtain ⟨g, x, s, e, a, b⟩ := h
  refine ⟨g, x, s, ?_, a, b⟩
  rw [upd_ne (ne_of_none e n)]
  exact e
/-- all is as it was, but at p -/
def Ex1 (p : Addr) (H H' : Hp) : Prop := ∀ a o, a ≠ p → H a = some o → H' a = some o
theorem Ex1.refl (p : Addr) (H : Hp) : Ex1 p H H := fun _ _ _ h => h
theorem Ex1.trans {p : Addr} {H H1 H2 : Hp} (a : Ex1 p H H1) (b : Ex1 p H1 H2) : Ex1 p H H2 := fun x o n h => b x o n (a x o n h)
theorem Ex1.at {p : Addr} {H : Hp} {o : HO} : Ex1 p H (upd H p o) := fun a u n e => by
  rw [upd_ne n]
  exact e
theorem Ex1.new {p q : Addr} {H : Hp} {o : HO} (n : H q = none) : Ex1 p H (upd H q o) := fun a u _ e => by
  rw [upd_ne (ne_of_none e n)]
  exact e

theorem Feed.lst {H : Hp} {p : Addr} {S : Int} (h : Feed H p S) : ∃ xs, H p = some (.lst xs) := by
  obtain ⟨g, x, s, e, _⟩ := h
  exact ⟨_, e⟩
theorem Feed.ne {H : Hp} {p q : Addr} {S : Int} (h : Feed H p S) (n : H q = none) : q ≠ p := fun z => by
  obtain ⟨xs, e⟩ := h.lst
  rw [z, e] at n
  cases n
def spTake : Sp := fun vs H Q _ => ∃ (p : Addr) (m S : Int), vs = [.ref p, .int m] ∧ Feed H p S ∧ 0 < m ∧ m < 1073741824 ∧
  S ≤ 1000000000 ∧ ∀ (r : Int) (H' : Hp), 0 ≤ r → r < m → Feed H' p (S + 1) → Ex1 p H H' → Q (.int r) H'

theorem fmod_in (a : Int) {b : Int} (h : 0 < b) : 0 ≤ a.fmod b ∧ a.fmod b < b :=
  ⟨Int.fmod_nonneg_of_pos a h, Int.fmod_lt_of_pos a h⟩
end Gd
end

section
set_option Elab.async false
set_option linter.all false
set_option maxRecDepth 100000
set_option maxHeartbeats 4000000
/-! Data: numbers, texts, truths, None, tuples of such. -/
namespace Gd
open PySem PySem.Spec PyProof.Rows L2

mutual
def tupOnly : PyData → Bool
  | .none => true
  | .bool _ => true
  | .int _ => true
  | .str _ => true
  | .tuple ds => decide (ds.length ≤ 1000) && tupOnlyAll ds
  | .list _ => false
  | .dict _ => false
def tupOnlyAll : List PyData → Bool
  | [] => true
  | d :: ds => tupOnly d && tupOnlyAll ds
end

/-- tuples stay -/
def Tups (K : PySem.W.Frag) (H H' : Hp) : Prop := ∀ a xs, SqT K H a xs → SqT K H' a xs
theorem Tups.refl {K : PySem.W.Frag} {H : Hp} : Tups K H H := fun _ _ h => h
theorem Tups.trans {K : PySem.W.Frag} {H H1 H2 : Hp} (a : Tups K H H1) (b : Tups K H1 H2) : Tups K H H2 := fun x y h => b x y (a x y h)
theorem Tups.upd_lst {K : PySem.W.Frag} {H : Hp} {D : Addr} {xs ys : List V} (e : H D = some (.lst xs)) : Tups K H (upd H D (.lst ys)) := by
  intro a zs h
  rcases h with (h | ⟨o, h⟩) | h
  · refine .inl (.inl ?_)
    rw [upd_ne (fun z => by rw [z, e] at h; cases h)]
    exact h
  · refine .inl (.inr ⟨o, ?_⟩)
    rw [upd_ne (fun z => by rw [z, e] at h; cases h)]
    exact h
  · exact .inr h
theorem Tups.of_same {K : PySem.W.Frag} {H H' : Hp} (s : Same H H') : Tups K H H' := by
  intro a zs h
  rcases h with (h | ⟨o, h⟩) | h
  · exact .inl (.inl (s _ _ h))
  · exact .inl (.inr ⟨o, s _ _ h⟩)
  · exact .inr h

theorem Tups.new {K : PySem.W.Frag} {H : Hp} {q : Addr} {o : HO} (n : H q = none) : Tups K H (upd H q o) :=
  .of_same fun b u e => by
    rw [upd_ne (ne_of_none e n)]
    exact e
theorem Ex1.tups {K : PySem.W.Frag} {H H' : Hp} {p : Addr} {xs : List V} (x : Ex1 p H H') (e : H p = some (.lst xs)) : Tups K H H' := by
  intro a zs h
  rcases h with (h | ⟨o, h⟩) | h
  · exact .inl (.inl (x _ _ (fun z => by rw [z, e] at h; cases h) h))
  · exact .inl (.inr ⟨o, x _ _ (fun z => by rw [z, e] at h; cases h) h⟩)
  · exact .inr h
section
variable {K : PySem.W.Frag} {H H' : Hp}
mutual
theorem Dp.tups (t : Tups K H H') : ∀ (d : PyData) {v : V}, tupOnly d = true → Dp K H v d → Dp K H' v d
  | .none, _, _, h => by cases h; exact .non
  | .bool _, _, _, h => by cases h; exact .bl _
  | .int _, _, _, h => by cases h; exact .int _
  | .str _, _, _, h => by cases h; exact .str _
  | .tuple ds, _, o, h => by
    cases h with
    | tup a b =>
      simp only [tupOnly, Bool.and_eq_true] at o
      exact .tup (t _ _ a) (DpAll.tups t ds o.2 b)
  | .list _, _, o, _ => by simp [tupOnly] at o
  | .dict _, _, _, h => by cases h
theorem DpAll.tups (t : Tups K H H') : ∀ (ds : List PyData) {vs : List V}, tupOnlyAll ds = true → DpAll K H vs ds → DpAll K H' vs ds
  | [], _, _, h => by cases h; exact .nil
  | d :: ds, _, o, h => by
    simp only [tupOnlyAll, Bool.and_eq_true] at o
    cases h with
    | cons a b => exact .cons (Dp.tups t d o.1 a) (DpAll.tups t ds o.2 b)
end
mutual
theorem Dp.same (s : Same H H') : ∀ (d : PyData) {v : V}, Dp K H v d → Dp K H' v d
  | .none, _, h => by cases h; exact .non
  | .bool _, _, h => by cases h; exact .bl _
  | .int _, _, h => by cases h; exact .int _
  | .str _, _, h => by cases h; exact .str _
  | .tuple ds, _, h => by
    cases h with
    | tup a b => exact .tup (Tups.of_same s _ _ a) (DpAll.same s ds b)
  | .list ds, _, h => by
    cases h with
    | lst a b => exact .lst (s.seq a) (DpAll.same s ds b)
  | .dict _, _, h => by cases h
theorem DpAll.same (s : Same H H') : ∀ (ds : List PyData) {vs : List V}, DpAll K H vs ds → DpAll K H' vs ds
  | [], _, h => by cases h; exact .nil
  | d :: ds, _, h => by
    cases h with
    | cons a b => exact .cons (Dp.same s d a) (DpAll.same s ds b)
end
theorem DpAll.len : ∀ {vs : List V} {ds : List PyData}, DpAll K H vs ds → vs.length = ds.length
  | _, _, .nil => rfl
  | _, _, .cons _ b => congrArg (· + 1) (DpAll.len b)
theorem DpAll.at_ : ∀ {vs : List V} {ds : List PyData} {i : Nat} {v : V}, DpAll K H vs ds → vs[i]? = some v → ∃ d, ds[i]? = some d ∧ Dp K H v d
  | _, _, _, _, .nil, e => by simp at e
  | _, _, 0, _, .cons a _, e => by
    cases Option.some.inj e
    exact ⟨_, rfl, a⟩
  | _, _, i + 1, _, .cons _ b, e => DpAll.at_ (i := i) b e
theorem DpAll.snoc : ∀ {vs : List V} {ds : List PyData} {v : V} {d : PyData}, DpAll K H vs ds → Dp K H v d → DpAll K H (vs ++ [v]) (ds ++ [d])
  | _, _, _, _, .nil, h => .cons h .nil
  | _, _, _, _, .cons a b, h => .cons a (DpAll.snoc b h)
theorem tupOnlyAll_at : ∀ {ds : List PyData} {i : Nat} {d : PyData}, tupOnlyAll ds = true → ds[i]? = some d → tupOnly d = true
  | [], _, _, _, e => by simp at e
  | x :: r, 0, d, o, e => by
    simp only [tupOnlyAll, Bool.and_eq_true] at o
    cases Option.some.inj e
    exact o.1
  | x :: r, i + 1, d, o, e => by
    simp only [tupOnlyAll, Bool.and_eq_true] at o
    exact tupOnlyAll_at (i := i) o.2 e
theorem tupOnlyAll_take : ∀ {ds : List PyData}, tupOnlyAll ds = true → ∀ i : Nat, tupOnlyAll (ds.take i) = true
  | [], _, i => by rw [List.take_nil] <;> rfl
  | x :: r, o, 0 => rfl
  | x :: r, o, i + 1 => by
    simp only [tupOnlyAll, Bool.and_eq_true] at o
    simp only [List.take_succ_cons, tupOnlyAll, Bool.and_eq_true]
    exact ⟨o.1, tupOnlyAll_take o.2 i⟩
theorem depth_at : ∀ {ds : List PyData} {i : Nat} {d : PyData}, ds[i]? = some d → d.depth ≤ PyData.depthAll ds
  | [], _, _, e => by simp at e
  | x :: r, 0, d, e => by
    cases Option.some.inj e
    simp only [PyData.depthAll]
    omega
  | x :: r, i + 1, d, e => by
    have h := depth_at (ds := r) (i := i) e
    simp only [PyData.depthAll]
    omega
end

/-- the built-in class of data -/
def kindN : PyData → String
  | .none => "NoneType"
  | .bool _ => "bool"
  | .int _ => "int"
  | .str _ => "str"
  | .list _ => "list"
  | .tuple _ => "tuple"
  | .dict _ => "dict"
theorem Dp.kind {K : PySem.W.Frag} {H : Hp} {v : V} {d : PyData} (h : Dp K H v d) (o : tupOnly d = true) : TyX K H v (.type (kindN d)) := by
  cases h with
  | non => exact .base .non
  | bl b => exact .base (.bl b)
  | int i => exact .base (.int i)
  | str x => exact .base (.str x)
  | lst _ _ => simp [tupOnly] at o
  | tup a _ =>
    rcases a with (a | ⟨z, a⟩) | ⟨z, its, n, a, c, _⟩
    · exact .base (.tup a)
    · exact .fTuple a
    · exact .kTuple a c
section
theorem kb0 : kitB "NoneType" "list" = some false ∧ kitB "NoneType" "tuple" = some false ∧ kitB "NoneType" "dict" = some false := by decide +kernel
theorem kb1 : kitB "bool" "list" = some false ∧ kitB "bool" "tuple" = some false ∧ kitB "bool" "dict" = some false := by decide +kernel
theorem kb2 : kitB "int" "list" = some false ∧ kitB "int" "tuple" = some false ∧ kitB "int" "dict" = some false := by decide +kernel
theorem kb3 : kitB "str" "list" = some false ∧ kitB "str" "tuple" = some false ∧ kitB "str" "dict" = some false := by decide +kernel
theorem kb4 : kitB "tuple" "list" = some false ∧ kitB "tuple" "tuple" = some true ∧ kitB "tuple" "dict" = some false := by decide +kernel
theorem kind_list {d : PyData} (o : tupOnly d = true) : kitB (kindN d) "list" = some false := by
  cases d with
  | none => exact kb0.1
  | bool b => exact kb1.1
  | int i => exact kb2.1
  | str x => exact kb3.1
  | tuple ds => exact kb4.1
  | list ds => simp [tupOnly] at o
  | dict ds => simp [tupOnly] at o
theorem kind_dict {d : PyData} (o : tupOnly d = true) : kitB (kindN d) "dict" = some false := by
  cases d with
  | none => exact kb0.2.2
  | bool b => exact kb1.2.2
  | int i => exact kb2.2.2
  | str x => exact kb3.2.2
  | tuple ds => exact kb4.2.2
  | list ds => simp [tupOnly] at o
  | dict ds => simp [tupOnly] at o
theorem kind_tuple {d : PyData} (o : tupOnly d = true) (n : ¬ ∃ ds, d = .tuple ds) : kitB (kindN d) "tuple" = some false := by
  cases d with
  | none => exact kb0.2.1
  | bool b => exact kb1.2.1
  | int i => exact kb2.2.1
  | str x => exact kb3.2.1
  | tuple ds => exact absurd ⟨ds, rfl⟩ n
  | list ds => simp [tupOnly] at o
  | dict ds => simp [tupOnly] at o
end
end Gd
end

section
set_option Elab.async false
set_option linter.all false
set_option maxRecDepth 100000
set_option maxHeartbeats 4000000
/-! repr of data, the reading of a promise that is free of texts under way. -/
namespace Gd
open PySem PySem.Spec PyProof.Rows L2

section
variable {K : PySem.W.Frag} {H : Hp}
mutual
theorem Dp.plain : ∀ (d : PyData) {v : V}, Dp K H v d → d.hasDict = false
  | .none, _, _ => by simp only [PyData.hasDict]
  | .bool _, _, _ => by simp only [PyData.hasDict]
  | .int _, _, _ => by simp only [PyData.hasDict]
  | .str _, _, _ => by simp only [PyData.hasDict]
  | .list ds, _, h => by
    cases h with
    | lst _ k =>
      simp only [PyData.hasDict]
      exact DpAll.plain ds k
  | .tuple ds, _, h => by
    cases h with
    | tup _ k =>
      simp only [PyData.hasDict]
      exact DpAll.plain ds k
  | .dict _, _, h => by cases h
theorem DpAll.plain : ∀ (ds : List PyData) {vs : List V}, DpAll K H vs ds → PyData.hasDictAll ds = false
  | [], _, _ => by simp only [PyData.hasDictAll]
  | d :: ds, _, h => by
    cases h with
    | cons a b =>
      simp only [PyData.hasDictAll, Dp.plain d a, DpAll.plain ds b, Bool.or_self]
end
end

/-- repr(x), x data -/
def rRepr (K : PySem.W.Frag) : List V → Hp → VK → Prop := fun xs H Q =>
  ∃ (x : V) (d : PyData), xs = [x] ∧ Dp K H x d ∧ d.showable = true ∧ d.shown.length ≤ sizeLine ∧ d.depth ≤ 60 ∧ Q (.str d.shown) H

section
variable {X : Cx}
theorem call_repr (g : Free X.A) (hu : X.A.units + 64 < cLine) : CallR X (.builtin "repr") (rRepr X.K) := by
  intro pins s σ H xs us Q I r h
  obtain ⟨x, d, rfl, hd, hs, hz, hdp, q⟩ := h
  obtain ⟨u, rfl, ru⟩ := r.one
  have pl := Dp.plain d hd
  obtain ⟨as, rd⟩ := Dp.reads I d x u hd ru
  have fin : ∀ (h' : Heap) (tk tk' : Nat), (∀ b o, s.heap.get? b = some o → h'.get? b = some o) →
      EP X pins σ Q (.str d.shown tk) { s with heap := h', toks := tk' } :=
    fun h' tk tk' k => ⟨.str d.shown, H, I.kept k, ⟨tk, rfl⟩, q⟩
  have fin0 : ∀ (tk tk' : Nat), EP X pins σ Q (.str d.shown tk) { s with toks := tk' } :=
    fun tk tk' => ⟨.str d.shown, H, I.tok tk', ⟨tk, rfl⟩, q⟩
  cases rd with
  | none => exact P.repr_of_none (fin0 _ _)
  | bool b => exact P.repr_of_bool (fin0 _ _)
  | int i t => exact P.repr_of_int (by simpa [PyData.showable] using hs) (fin0 _ _)
  | str z t => exact P.repr_of_str (fin0 _ _) hz
  | list h1 h2 h3 h4 =>
    exact repr_of_reads' (.list h1 h2 h3 h4) hs (PyData.noDict_hsm pl) g (by omega) (fun _ _ e => e) (fun h' u tk k => fin h' u tk k) hz
  | tuple h1 h2 h3 h4 =>
    exact repr_of_reads' (.tuple h1 h2 h3 h4) hs (PyData.noDict_hsm pl) g (by omega) (fun _ _ e => e) (fun h' u tk k => fin h' u tk k) hz
  | dict h1 h2 h3 h4 h5 => simp [PyData.hasDict] at pl
end
end Gd
end

section
set_option Elab.async false
set_option linter.all false
set_option maxRecDepth 100000
set_option maxHeartbeats 4000000
/-! Data with lists, and with two small dicts; what is not in it: the addresses of N. -/
namespace Gd
open PySem PySem.Spec PyProof.Rows L2

mutual
inductive Dd (K : PySem.W.Frag) (H : Hp) (N : Addr → Prop) : V → PyData → Prop
  | non : Dd K H N .non .none
  | bl (b : Bool) : Dd K H N (.bl b) (.bool b)
  | int (i : Int) : Dd K H N (.int i) (.int i)
  | str (x : Str) : Dd K H N (.str x) (.str x)
  | lst {a : Addr} {xs : List V} {ds : List PyData} : H a = some (.lst xs) → ¬ N a → a ≠ sysModules → DdAll K H N xs ds → Dd K H N (.ref a) (.list ds)
  | tup {a : Addr} {xs : List V} {ds : List PyData} : SqT K H a xs → DdAll K H N xs ds → Dd K H N (.ref a) (.tuple ds)
  | dct0 {a : Addr} : H a = some (.dK []) → ¬ N a → Dd K H N (.ref a) (.dict [])
  | dct1 {a : Addr} {x : Str} {i : Int} : H a = some (.dK [(Sum.inr x, .int i)]) → ¬ N a → Dd K H N (.ref a) (.dict [(.str x, .int i)])
inductive DdAll (K : PySem.W.Frag) (H : Hp) (N : Addr → Prop) : List V → List PyData → Prop
  | nil : DdAll K H N [] []
  | cons {v : V} {vs : List V} {d : PyData} {ds : List PyData} : Dd K H N v d → DdAll K H N vs ds → DdAll K H N (v :: vs) (d :: ds)
end

section
variable {K : PySem.W.Frag} {H H' : Hp} {N N' : Addr → Prop}
mutual
theorem Dd.stay (t : Tups K H H') (x : ∀ a o, ¬ N a → H a = some o → H' a = some o) (m : ∀ a, N' a → N a) : ∀ (d : PyData) {v : V}, Dd K H N v d → Dd K H' N' v d
  | .none, _, h => by cases h; exact .non
  | .bool _, _, h => by cases h; exact .bl _
  | .int _, _, h => by cases h; exact .int _
  | .str _, _, h => by cases h; exact .str _
  | .tuple ds, _, h => by
    cases h with
    | tup a b => exact .tup (t _ _ a) (DdAll.stay t x m ds b)
  | .list ds, _, h => by
    cases h with
    | lst a n g b => exact .lst (x _ _ n a) (fun z => n (m _ z)) g (DdAll.stay t x m ds b)
  | .dict ds, _, h => by
    cases h with
    | dct0 a n => exact .dct0 (x _ _ n a) (fun z => n (m _ z))
    | dct1 a n => exact .dct1 (x _ _ n a) (fun z => n (m _ z))
theorem DdAll.stay (t : Tups K H H') (x : ∀ a o, ¬ N a → H a = some o → H' a = some o) (m : ∀ a, N' a → N a) : ∀ (ds : List PyData) {vs : List V}, DdAll K H N vs ds → DdAll K H' N' vs ds
  | [], _, h => by cases h; exact .nil
  | d :: ds, _, h => by
    cases h with
    | cons a b => exact .cons (Dd.stay t x m d a) (DdAll.stay t x m ds b)
end
theorem Dd.same {v : V} {d : PyData} (s : Same H H') (h : Dd K H N v d) : Dd K H' N v d := Dd.stay (Tups.of_same s) (fun a o _ e => s a o e) (fun _ z => z) d h
theorem DdAll.same {vs : List V} {ds : List PyData} (s : Same H H') (h : DdAll K H N vs ds) : DdAll K H' N vs ds := DdAll.stay (Tups.of_same s) (fun a o _ e => s a o e) (fun _ z => z) ds h
theorem Dd.free {v : V} {d : PyData} (h : Dd K H N v d) : Dd K H (fun _ => False) v d := Dd.stay .refl (fun a o _ e => e) (fun _ z => z.elim) d h
theorem DdAll.free {vs : List V} {ds : List PyData} (h : DdAll K H N vs ds) : DdAll K H (fun _ => False) vs ds := DdAll.stay .refl (fun a o _ e => e) (fun _ z => z.elim) ds h
/-- behind a draw -/
theorem Dd.drawn {p : Addr} {ys : List V} {v : V} {d : PyData} (e : H p = some (.lst ys)) (x : Ex1 p H H') (h : Dd K H (· = p) v d) : Dd K H' (· = p) v d :=
  Dd.stay (x.tups e) (fun a o n q => x a o n q) (fun _ z => z) d h
theorem DdAll.drawn {p : Addr} {ys : List V} {vs : List V} {ds : List PyData} (e : H p = some (.lst ys)) (x : Ex1 p H H') (h : DdAll K H (· = p) vs ds) : DdAll K H' (· = p) vs ds :=
  DdAll.stay (x.tups e) (fun a o n q => x a o n q) (fun _ z => z) ds h
mutual
/-- what is new is not in it -/
theorem Dd.shun {q : Addr} (n : H q = none) : ∀ (d : PyData) {v : V}, Dd K H N v d → Dd K H (fun a => N a ∨ a = q) v d
  | .none, _, h => by cases h; exact .non
  | .bool _, _, h => by cases h; exact .bl _
  | .int _, _, h => by cases h; exact .int _
  | .str _, _, h => by cases h; exact .str _
  | .tuple ds, _, h => by
    cases h with
    | tup a b => exact .tup a (DdAll.shun n ds b)
  | .list ds, _, h => by
    cases h with
    | lst a m g b => exact .lst a (fun z => z.elim m (fun z => by rw [z, n] at a; cases a)) g (DdAll.shun n ds b)
  | .dict ds, _, h => by
    cases h with
    | dct0 a m => exact .dct0 a (fun z => z.elim m (fun z => by rw [z, n] at a; cases a))
    | dct1 a m => exact .dct1 a (fun z => z.elim m (fun z => by rw [z, n] at a; cases a))
theorem DdAll.shun {q : Addr} (n : H q = none) : ∀ (ds : List PyData) {vs : List V}, DdAll K H N vs ds → DdAll K H (fun a => N a ∨ a = q) vs ds
  | [], _, h => by cases h; exact .nil
  | d :: ds, _, h => by
    cases h with
    | cons a b => exact .cons (Dd.shun n d a) (DdAll.shun n ds b)
end
theorem DdAll.len : ∀ {vs : List V} {ds : List PyData}, DdAll K H N vs ds → vs.length = ds.length
  | _, _, .nil => rfl
  | _, _, .cons _ b => congrArg (· + 1) (DdAll.len b)
theorem DdAll.at_ : ∀ {vs : List V} {ds : List PyData} {i : Nat} {v : V}, DdAll K H N vs ds → vs[i]? = some v → ∃ d, ds[i]? = some d ∧ Dd K H N v d
  | _, _, _, _, .nil, e => by simp at e
  | _, _, 0, _, .cons a _, e => by
    cases Option.some.inj e
    exact ⟨_, rfl, a⟩
  | _, _, i + 1, _, .cons _ b, e => DdAll.at_ (i := i) b e
theorem DdAll.app : ∀ {vs us : List V} {ds es : List PyData}, DdAll K H N vs ds → DdAll K H N us es → DdAll K H N (vs ++ us) (ds ++ es)
  | _, _, _, _, .nil, h => h
  | _, _, _, _, .cons a b, h => .cons a (DdAll.app b h)
theorem DdAll.take : ∀ {vs : List V} {ds : List PyData}, DdAll K H N vs ds → ∀ i : Nat, DdAll K H N (vs.take i) (ds.take i)
  | _, _, .nil, i => by rw [List.take_nil, List.take_nil]; exact .nil
  | _, _, .cons _ _, 0 => .nil
  | _, _, .cons a b, i + 1 => .cons a (DdAll.take b i)
theorem DdAll.drop : ∀ {vs : List V} {ds : List PyData}, DdAll K H N vs ds → ∀ i : Nat, DdAll K H N (vs.drop i) (ds.drop i)
  | _, _, .nil, i => by rw [List.drop_nil, List.drop_nil]; exact .nil
  | _, _, .cons a b, 0 => .cons a b
  | _, _, .cons a b, i + 1 => DdAll.drop b i
theorem DdAll.rev : ∀ {vs : List V} {ds : List PyData}, DdAll K H N vs ds → DdAll K H N vs.reverse ds.reverse
  | _, _, .nil => .nil
  | _, _, .cons a b => by
    rw [List.reverse_cons, List.reverse_cons]
    exact DdAll.app (DdAll.rev b) (.cons a .nil)
mutual
theorem Dd.ofDp : ∀ (d : PyData) {v : V}, tupOnly d = true → Dp K H v d → Dd K H N v d
  | .none, _, _, h => by cases h; exact .non
  | .bool _, _, _, h => by cases h; exact .bl _
  | .int _, _, _, h => by cases h; exact .int _
  | .str _, _, _, h => by cases h; exact .str _
  | .tuple ds, _, o, h => by
    cases h with
    | tup a b =>
      simp only [tupOnly, Bool.and_eq_true] at o
      exact .tup a (DdAll.ofDp ds o.2 b)
  | .list _, _, o, _ => by simp [tupOnly] at o
  | .dict _, _, o, _ => by simp [tupOnly] at o
theorem DdAll.ofDp : ∀ (ds : List PyData) {vs : List V}, tupOnlyAll ds = true → DpAll K H vs ds → DdAll K H N vs ds
  | [], _, _, h => by cases h; exact .nil
  | d :: ds, _, o, h => by
    simp only [tupOnlyAll, Bool.and_eq_true] at o
    cases h with
    | cons a b => exact .cons (Dd.ofDp d o.1 a) (DdAll.ofDp ds o.2 b)
end
theorem Dd.kind {v : V} {d : PyData} (h : Dd K H N v d) : TyX K H v (.type (kindN d)) := by
  cases h with
  | non => exact .base .non
  | bl b => exact .base (.bl b)
  | int i => exact .base (.int i)
  | str x => exact .base (.str x)
  | lst e _ _ _ => exact .base (.lst e)
  | dct0 e _ => exact .base (.dK e)
  | dct1 e _ => exact .base (.dK e)
  | tup a _ =>
    rcases a with (a | ⟨z, a⟩) | ⟨z, its, n, a, c, _⟩
    · exact .base (.tup a)
    · exact .fTuple a
    · exact .kTuple a c
end
section
variable {X : Cx} {pins : List (Addr × Obj)} {σ : L2.St} {H : Hp} {s : Shared} {N : Addr → Prop}
theorem dk_reads (I : Inv X pins σ H s) {a : Addr} {kvs : List (Key × V)} (e : H a = some (.dK kvs)) :
    (a == sysModules) = false ∧ ∃ vs, KV kvs vs ∧ s.heap.DictOf (mixKind X.prog X.w) a vs := (I.hok a _ e).2
mutual
theorem Dd.reads (I : Inv X pins σ H s) : ∀ (d : PyData) (v : V) (u : Value), Dd X.K H N v d → RelV v u → ∃ as, Reads s.heap u d as ∧ sysModules ∉ as
  | .none, _, _, h, r => by
    cases h
    cases r
    exact ⟨[], .none, nofun⟩
  | .bool b, _, _, h, r => by
    cases h
    cases r
    exact ⟨[], .bool b, nofun⟩
  | .int i, _, _, h, r => by
    cases h
    obtain ⟨t, rfl⟩ := r
    exact ⟨[], .int i t, nofun⟩
  | .str x, _, _, h, r => by
    cases h
    obtain ⟨t, rfl⟩ := r
    exact ⟨[], .str x t, nofun⟩
  | .list ds, _, _, h, r => by
    cases h with
    | lst hs _ g ha =>
      cases r
      obtain ⟨its, rv, pl, _⟩ := I.list (SqL.of hs)
      obtain ⟨o, n, ho, hc, _, hd⟩ := pl
      obtain ⟨as, hr, hn⟩ := Dd.readsAll I ds _ its ha rv
      refine ⟨_, .list ho hc hd hr, fun m => ?_⟩
      rcases List.mem_cons.mp m with m | m
      · exact g m.symm
      · exact hn m
  | .tuple ds, _, _, h, r => by
    cases h with
    | tup hs ha =>
      cases r
      obtain ⟨its, rv, pl, _⟩ := I.tuple hs
      obtain ⟨o, ho, hc, n, hd⟩ := pl
      obtain ⟨as, hr, hn⟩ := Dd.readsAll I ds _ its ha rv
      exact ⟨as, .tuple ho hc hd hr, hn⟩
  | .dict ds, _, _, h, r => by
    cases h with
    | dct0 e _ =>
      cases r
      obtain ⟨g, vs, kv, o, es, ep, ho, ex, hd, ks, ps, _⟩ := dk_reads I e
      cases kv
      cases hes : es.toList with
      | nil =>
        refine ⟨_, .dict (as := []) (bs := []) ho ex.1 hd ?_ ?_, fun m => ?_⟩
        · rw [hes]; exact .nil
        · rw [hes]; exact .nil
        · rcases List.mem_cons.mp m with m | m
          · rw [← m] at g
            simp at g
          · cases m
      | cons z zs =>
        rw [hes] at ps
        cases ps
    | @dct1 a x i e _ =>
      cases r
      obtain ⟨g, vs, kv, o, es, ep, ho, ex, hd, ks, ps, _⟩ := dk_reads I e
      cases kv with
      | @cons _ q _ _ r0 rest =>
      cases rest
      obtain ⟨qk, qv⟩ := q
      obtain ⟨rk, t, rv⟩ := r0
      dsimp only at rk rv
      subst rk rv
      cases hes : es.toList with
      | nil =>
        rw [hes] at ps
        cases ps
      | cons z zs =>
        rw [hes] at ps
        cases ps with
        | cons p1 p2 p3 =>
        cases p3
        obtain ⟨tk, ek⟩ : ∃ tk, z.key = .str x tk := by
          have p1 : keyIs (Sum.inr x) z.key = true := p1
          rcases keyIs_shape p1 with ⟨i, t, h1, h2⟩ | ⟨y, t, h1, h2⟩
          · cases h1
          · cases h1
            exact ⟨t, h2⟩
        refine ⟨_, .dict (as := [] ++ []) (bs := [] ++ []) ho ex.1 hd ?_ ?_, fun m => ?_⟩
        · rw [hes]
          show ReadsAll s.heap [z.key] [.str x] _
          rw [ek]
          exact .cons (.str x tk) .nil
        · rw [hes]
          show ReadsAll s.heap [z.val] [.int i] _
          rw [p2]
          exact .cons (.int i t) .nil
        · rcases List.mem_cons.mp m with m | m
          · rw [← m] at g
            simp at g
          · cases m
theorem Dd.readsAll (I : Inv X pins σ H s) : ∀ (ds : List PyData) (vs : List V) (us : List Value), DdAll X.K H N vs ds → Vals vs us → ∃ as, ReadsAll s.heap us ds as ∧ sysModules ∉ as
  | [], _, _, h, r => by
    cases h
    cases r
    exact ⟨[], .nil, nofun⟩
  | d :: ds, _, _, h, r => by
    cases h with
    | cons h1 h2 =>
      cases r with
      | cons r1 r2 =>
        obtain ⟨as, q1, n1⟩ := Dd.reads I d _ _ h1 r1
        obtain ⟨bs, q2, n2⟩ := Dd.readsAll I ds _ _ h2 r2
        exact ⟨as ++ bs, .cons q1 q2, fun m => (List.mem_append.mp m).elim n1 n2⟩
end
/-- repr(x), x such data -/
def rReprD (K : PySem.W.Frag) : List V → Hp → VK → Prop := fun xs H Q =>
  ∃ (x : V) (d : PyData) (N : Addr → Prop), xs = [x] ∧ Dd K H N x d ∧ d.showable = true ∧ d.shown.length ≤ sizeLine ∧ d.depth ≤ 60 ∧ Q (.str d.shown) H
theorem call_reprD (g : Free X.A) (hu : X.A.units + 64 < cLine) : CallR X (.builtin "repr") (rReprD X.K) := by
  intro pins s σ H xs us Q I r h
  obtain ⟨x, d, N, rfl, hd, hs, hz, hdp, q⟩ := h
  obtain ⟨u, rfl, ru⟩ := r.one
  obtain ⟨as, rd, hn⟩ := Dd.reads I d x u hd ru
  have fin : ∀ (h' : Heap) (tk tk' : Nat), (∀ b o, s.heap.get? b = some o → h'.get? b = some o) →
      EP X pins σ Q (.str d.shown tk) { s with heap := h', toks := tk' } :=
    fun h' tk tk' k => ⟨.str d.shown, H, I.kept k, ⟨tk, rfl⟩, q⟩
  have fin0 : ∀ (tk tk' : Nat), EP X pins σ Q (.str d.shown tk) { s with toks := tk' } :=
    fun tk tk' => ⟨.str d.shown, H, I.tok tk', ⟨tk, rfl⟩, q⟩
  cases rd with
  | none => exact P.repr_of_none (fin0 _ _)
  | bool b => exact P.repr_of_bool (fin0 _ _)
  | int i t => exact P.repr_of_int (by simpa [PyData.showable] using hs) (fin0 _ _)
  | str z t => exact P.repr_of_str (fin0 _ _) hz
  | list h1 h2 h3 h4 =>
    exact repr_of_reads' (.list h1 h2 h3 h4) hs (fun _ => hn) g (by omega) (fun _ _ e => e) (fun h' u tk k => fin h' u tk k) hz
  | tuple h1 h2 h3 h4 =>
    exact repr_of_reads' (.tuple h1 h2 h3 h4) hs (fun _ => hn) g (by omega) (fun _ _ e => e) (fun h' u tk k => fin h' u tk k) hz
  | dict h1 h2 h3 h4 h5 =>
    exact repr_of_reads' (.dict h1 h2 h3 h4 h5) hs (fun _ => hn) g (by omega) (fun _ _ e => e) (fun h' u tk k => fin h' u tk k) hz
end
end Gd
end

section
set_option Elab.async false
set_option linter.all false
set_option maxRecDepth 100000
set_option maxHeartbeats 4000000
namespace Gd
open PySem PySem.Spec PyProof.Rows L2

section
variable {X : Cx}
/-- the address of a new object is none of the interpreter's own -/
theorem new_no {pins : List (Addr × Obj)} {σ : L2.St} {H : Hp} {s : Shared} (I : Inv X pins σ H s) : s.heap.objs.size ≠ sysModules := Nat.ne_of_gt I.big
def tLstS (t : TA) : TE := fun σ H Q => t σ H fun xs H1 => xs.length ≤ sizeLine ∧ ∀ p, H1 p = none → p ≠ sysModules → Q (.ref p) (upd H1 p (.lst xs))
theorem pe_lstS {es : List Expr} {pos : Pos} {t : TA} (h : PA X es t) : PE X (.List es pos) (tLstS t) := by
  constructor
  intro pins s σ H Q I hq
  refine wpAny_List_spliced (thn (h.run pos pins s σ H _ I hq) ?_)
  rintro us s1 ⟨xs, H1, J, r, z, q⟩
  have hn : H1 s1.heap.objs.size = none := J.hok.fresh (Nat.le_refl _)
  have J2 := J.laid (a := s1.heap.objs.size) (o := .lst xs) (h' := s1.heap.push { cls := .type "list", data := .seq us.toArray }) (t' := s1.toks)
    (fun b u e => Heap.get?_push_of_some _ e) (Nat.le_refl _) ⟨z, us, 0, r, Heap.get?_push_size _ rfl⟩
  exact ⟨by rw [← r.length]; exact z, .ref s1.heap.objs.size, _, J2, rfl, q _ hn (new_no J)⟩
theorem call_listS : CallR X (.type "list") (fun xs H Q => ∃ p ys, xs = [.ref p] ∧ SqT X.K H p ys ∧ ∀ l, H l = none → l ≠ sysModules → Q (.ref l) (upd H l (.lst ys))) := by
  intro pins s σ H xs us Q I r h
  obtain ⟨p, ys, rfl, hq, q⟩ := h
  obtain ⟨u, rfl, rx⟩ := r.one
  cases rx
  obtain ⟨its, r', pl, hz⟩ := I.tuple hq
  have hlen := r'.length
  obtain ⟨o, ho, hc, n, hd⟩ := pl
  refine call_list_seq p (.inr rfl) ho hc hd ?_ (by simp only [List.size_toArray] <;> omega)
  intro h' c' kp e
  have J := I.laid (a := s.heap.objs.size) (o := .lst ys) (t' := s.toks) kp (Nat.le_refl _) ⟨hz, its, c', r', e⟩
  exact ⟨.ref s.heap.objs.size, _, J, rfl, q _ (I.hok.fresh (Nat.le_refl _)) (new_no I)⟩

/-! truths as numbers -/
theorem op_add_bi : OpR X (binaryOp .Add) (fun x y H Q => ∃ k i, x = .bl k ∧ y = .int i ∧ Q (.int ((if k = true then 1 else 0) + i)) H) := by
  intro pins s σ H x y v u Q I rx ry h
  obtain ⟨k, i, rfl, rfl, q⟩ := h
  obtain ⟨t, rfl⟩ := ry
  cases rx
  exact IntBool.add_bool_int ⟨.int ((if k = true then 1 else 0) + i), H, I.tok _, ⟨_, rfl⟩, q⟩
theorem op_sub_ib : OpR X (binaryOp .Sub) (fun x y H Q => ∃ i k, x = .int i ∧ y = .bl k ∧ Q (.int (i - (if k = true then 1 else 0))) H) := by
  intro pins s σ H x y v u Q I rx ry h
  obtain ⟨i, k, rfl, rfl, q⟩ := h
  obtain ⟨t, rfl⟩ := rx
  cases ry
  exact IntBool.sub_int_bool ⟨.int (i - (if k = true then 1 else 0)), H, I.tok _, ⟨_, rfl⟩, q⟩
theorem call_str_bool : CallR X (.type "str") (fun xs H Q => ∃ b, xs = [.bl b] ∧ Q (.str (if b then "True" else "False")) H) := by
  intro pins s σ H xs us Q I r h
  obtain ⟨b, rfl, q⟩ := h
  obtain ⟨u, rfl, rx⟩ := r.one
  cases rx
  exact PySem.P.str_of_bool ⟨.str (if b then "True" else "False"), H, I.tok _, ⟨_, rfl⟩, q⟩
end

/-! a dict is no text -/
section
variable {A : Around} {s : Shared} {P : Program} {w : World}
theorem dict_declines (d : Addr) (b : Str) (u : Tok) :
    Meets (Builtin.«dict.__eq__» ⟨[.ref d, .str b u], []⟩) (fun _ R s => s.TypeIs (.ref d) "dict" ∧ R (.ok (.ret .notImplemented)) s) :=
  .of_wp fun prog w A R s h => by
    obtain ⟨hd, h⟩ := h
    show wpAny _ _ (Builtin.Dict.dictSlotArgs "__eq__" ⟨[.ref d, .str b u], []⟩ >>= _) _ _ s
    refine wpAny_bind ?_
    unfold Builtin.Dict.dictSlotArgs
    refine wpAny_bind (wpAny_notOrdered_dict hd ?_)
    refine wpAny_pure ?_
    refine wpAny_bind (wpAny_isInstance (T := "str") (typeIs_str s b u) PySem.F.sub_str_dict ?_)
    simp only [Bool.not_false, if_true]
    exact wpAny_bind (wpAny_rule (wpAny_pure ⟨_, rfl, h⟩))
theorem str_declines (d : Addr) (es : Array DictEntry) (ep : Nat) (b : Str) (u : Tok) :
    Meets (Builtin.«str.__eq__» ⟨[.str b u, .ref d], []⟩)
      (fun _ R s => s.heap.get? d = some { cls := .type "dict", dict := none, data := .dict es ep, slots := #[] } ∧ R (.ok (.ret .notImplemented)) s) :=
  .of_wp fun prog w A R s h => by
    obtain ⟨hp, g, d, tk, os⟩ := s
    obtain ⟨hd, h⟩ := h
    wp_walk using wpAny_load hd
    exact ⟨_, rfl, h⟩
variable {d : Addr} {es : Array DictEntry} {ep : Nat}
theorem rc_dict_str (b : Str) (u : Tok) (ho : s.heap.get? d = some { cls := .type "dict", dict := none, data := .dict es ep, slots := #[] }) (hu : A.units < cLine) :
    SeqAt.RcAt A s (.ref d) (.str b u) false := fun prog w E Q h =>
  SeqAt.rc_eq_decline_or (k := false) ⟨_, ho, rfl⟩ (typeIs_str s b u) (by decide) PySem.F.sub_str_dict PySem.F.slot_dict_eq PySem.F.slot_str_eq_refl
    (fun _ hq => call_meets PySem.F.slot_dict_eq ⟨_, ho, rfl⟩ PySem.F.entry_dict_eq (PySem.F.args_dict_eq_2 _ _) (dict_declines d b u) ⟨⟨_, ho, rfl⟩, hq⟩)
    (fun _ hq => call_meets PySem.F.slot_str_eq_refl (typeIs_str s b u) PySem.F.entry_str_eq (PySem.F.args_str_eq_2 _ _) (str_declines d es ep b u) ⟨ho, hq⟩)
    (fun _ hq => wpAny_of_eq (rfl : isSame (.ref d) (.str b u) = pure false) hq) (.inr hu) h
theorem rc_str_dict (b : Str) (u : Tok) (ho : s.heap.get? d = some { cls := .type "dict", dict := none, data := .dict es ep, slots := #[] }) (hu : A.units < cLine) :
    SeqAt.RcAt A s (.str b u) (.ref d) false := fun prog w E Q h =>
  SeqAt.rc_eq_decline_or (k := false) (typeIs_str s b u) ⟨_, ho, rfl⟩ (by decide) PySem.F.sub_dict_str PySem.F.slot_str_eq PySem.F.slot_dict_eq_refl
    (fun _ hq => call_meets PySem.F.slot_str_eq (typeIs_str s b u) PySem.F.entry_str_eq (PySem.F.args_str_eq_2 _ _) (str_declines d es ep b u) ⟨ho, hq⟩)
    (fun _ hq => call_meets PySem.F.slot_dict_eq_refl ⟨_, ho, rfl⟩ PySem.F.entry_dict_eq (PySem.F.args_dict_eq_2 _ _) (dict_declines d b u) ⟨⟨_, ho, rfl⟩, hq⟩)
    (fun _ hq => wpAny_of_eq (rfl : isSame (.str b u) (.ref d) = pure false) hq) (.inr hu) h
theorem eq_str_dict (b : Str) (u : Tok) (ho : s.heap.get? d = some { cls := .type "dict", dict := none, data := .dict es ep, slots := #[] }) (hu : A.units < cLine) :
    SeqAt.EqAt A s (.str b u) (.ref d) false := fun prog w E Q h => by
  unfold eqBool
  refine wpAny_holding (wpAny_ite_split (fun q => absurd (eq_of_beq q) nofun) (fun _ => ?_))
  exact wpAny_bind (rc_str_dict b u ho hu prog w E _ (wpAny_truthy_bool h))
end

/-! data beside a text -/
def isStr (d : PyData) (b : Str) : Bool := match d with
  | .str x => x == b
  | _ => false
section
variable {X : Cx} {pins : List (Addr × Obj)} {σ : L2.St} {H : Hp} {s : Shared} {N : Addr → Prop} {A : Around}
theorem Dd.dictAt (I : Inv X pins σ H s) {v : V} {u : Value} {ks : List (PyData × PyData)} (h : Dd X.K H N v (.dict ks)) (r : RelV v u) :
    ∃ d es ep, u = .ref d ∧ s.heap.get? d = some { cls := .type "dict", dict := none, data := .dict es ep, slots := #[] } := by
  have key : ∀ {a : Addr} {kvs : List (Key × V)}, H a = some (.dK kvs) → ∃ es ep, s.heap.get? a = some { cls := .type "dict", dict := none, data := .dict es ep, slots := #[] } := by
    intro a kvs e
    obtain ⟨_, vs, _, o, es, ep, ho, ⟨e1, e2, e3⟩, hd, _⟩ := dk_reads I e
    obtain ⟨oc, od, dt, sl⟩ := o
    dsimp only at e1 e2 e3 hd
    subst e1 e2 e3 hd
    exact ⟨es, ep, ho⟩
  cases h with
  | dct0 e _ =>
    cases r
    obtain ⟨es, ep, ho⟩ := key e
    exact ⟨_, es, ep, rfl, ho⟩
  | dct1 e _ =>
    cases r
    obtain ⟨es, ep, ho⟩ := key e
    exact ⟨_, es, ep, rfl, ho⟩
theorem Dd.strEq (I : Inv X pins σ H s) (hu : A.units < cLine) {d : PyData} {v : V} {u : Value} (h : Dd X.K H N v d) (r : RelV v u) (b : Str) (t : Tok) :
    SeqAt.EqAt A s (.str b t) u (isStr d b) := by
  cases d with
  | none =>
    cases h
    cases r
    exact .str_none b t
  | bool k =>
    cases h
    cases r
    exact .str_bool b t k
  | int i =>
    cases h
    obtain ⟨t2, rfl⟩ := r
    exact .str_int b t i t2
  | str x =>
    cases h
    obtain ⟨t2, rfl⟩ := r
    have e := SeqAt.EqAt.str_str (A := A) (s := s) b t x t2
    have e2 : isStr (.str x) b = (b == x) := by
      show (x == b) = (b == x)
      exact Bool.eq_iff_iff.mpr ⟨fun z => by rw [eq_of_beq z] <;> exact beq_self_eq_true _, fun z => by rw [eq_of_beq z] <;> exact beq_self_eq_true _⟩
    rw [e2]
    exact e
  | list ds =>
    cases h with
    | lst e n g k =>
    cases r
    obtain ⟨its, _, pl, _⟩ := I.list (SqL.of e)
    exact .str_list b t pl.isList hu
  | tuple ds =>
    cases h with
    | tup e k =>
    cases r
    obtain ⟨its, _, pl, _⟩ := I.tuple e
    exact .str_tuple b t pl hu
  | dict ks =>
    obtain ⟨a, es, ep, rfl, ho⟩ := Dd.dictAt I h r
    exact eq_str_dict b t ho hu
end
end Gd
end

section
set_option Elab.async false
set_option linter.all false
set_option maxRecDepth 100000
set_option maxHeartbeats 4000000
namespace Gd
open PySem PySem.Spec PyProof.Rows L2

section
variable {X : Cx}
/-- data == a text -/
def rEqS (K : PySem.W.Frag) : R2 := fun x y H Q => ∃ (N : Addr → Prop) (d : PyData) (b : Str), Dd K H N x d ∧ y = .str b ∧ Q (.bl (isStr d b)) H
theorem op_eqS (hu : X.A.units < cLine) : OpR X (compareOp .Eq) (rEqS X.K) := by
  intro pins s σ H x y v u Q I rx ry h
  obtain ⟨N, d, b, h, rfl, q⟩ := h
  obtain ⟨t, rfl⟩ := ry
  have fin : EP X pins σ Q (.bool (isStr d b)) s := ⟨.bl _, H, I, rfl, q⟩
  cases d with
  | none =>
    cases h
    cases rx
    exact SeqAt.RcAt.none_str b t _ _ _ _ fin
  | bool k =>
    cases h
    cases rx
    exact SeqAt.RcAt.bool_str k b t _ _ _ _ fin
  | int i =>
    cases h
    obtain ⟨t2, rfl⟩ := rx
    exact SeqAt.RcAt.int_str i t2 b t _ _ _ _ fin
  | str z =>
    cases h
    obtain ⟨t2, rfl⟩ := rx
    exact SeqAt.RcAt.str_str z t2 b t _ _ _ _ fin
  | list ds =>
    cases h with
    | lst e n g k =>
    cases rx
    obtain ⟨its, _, pl, _⟩ := I.list (SqL.of e)
    exact SeqAt.RcAt.list_str b t pl.isList hu _ _ _ _ fin
  | tuple ds =>
    cases h with
    | tup e k =>
    cases rx
    obtain ⟨its, _, pl, _⟩ := I.tuple e
    exact SeqAt.RcAt.tuple_str b t pl hu _ _ _ _ fin
  | dict ks =>
    obtain ⟨a, es, ep, rfl, ho⟩ := Dd.dictAt I h rx
    exact rc_dict_str b t ho hu _ _ _ _ fin

/-- data not in a tuple of texts -/
def rNiS (K : PySem.W.Frag) : R2 := fun x y H Q => ∃ (N : Addr → Prop) (d : PyData) (p : Addr) (bs : List Str), Dd K H N x d ∧ y = .ref p ∧ SqT K H p (bs.map V.str) ∧ Q (.bl (!bs.any (isStr d))) H
def hitS (d : PyData) : Value → Bool
  | .str b _ => isStr d b
  | _ => false
theorem hits {d : PyData} : ∀ {bs : List Str} {us : List Value}, Vals (bs.map V.str) us → us.any (hitS d) = bs.any (isStr d) ∧ ∀ u ∈ us, ∃ b t, u = .str b t
  | [], _, h => by
    cases h
    exact ⟨rfl, nofun⟩
  | b :: bs, _, h => by
    cases h with
    | cons r rs =>
    obtain ⟨t, rfl⟩ := r
    obtain ⟨e, f⟩ := hits rs
    refine ⟨?_, fun u m => ?_⟩
    · rw [List.any_cons, List.any_cons, e]
      rfl
    · rcases List.mem_cons.mp m with rfl | m
      · exact ⟨b, t, rfl⟩
      · exact f u m
theorem op_notInS (hu : X.A.units + 1 < cLine) : OpR X (compareOp .NotIn) (rNiS X.K) := by
  intro pins s σ H x y v u Q I rx ry h
  obtain ⟨N, d, p, bs, hd, rfl, hp, q⟩ := h
  cases ry
  obtain ⟨its, r, pl, _⟩ := I.tuple hp
  obtain ⟨e, f⟩ := hits (d := d) r
  refine SeqAt.notIn_tupleAt (hitS d) pl (fun w hw => ?_) ⟨.bl _, H, I, rfl, ?_⟩
  · obtain ⟨b, t, rfl⟩ := f w (by simpa using hw)
    exact Dd.strEq I (by show X.A.units + 1 < cLine; exact hu) hd rx b t
  · rw [show its.toArray.any (hitS d) = its.any (hitS d) by simp, e]
    exact q
/-- a tuple == () -/
def rEqT0 (K : PySem.W.Frag) : R2 := fun x y H Q => ∃ a b xs, x = .ref a ∧ y = .ref b ∧ SqT K H a xs ∧ SqT K H b [] ∧ Q (.bl xs.isEmpty) H
theorem op_eqT0 (hu : X.A.units < cLine) : OpR X (compareOp .Eq) (rEqT0 X.K) := by
  intro pins s σ H x y v u Q I rx ry h
  obtain ⟨a, b, xs, rfl, rfl, ha, hb, q⟩ := h
  cases rx
  cases ry
  obtain ⟨its, r, pl, _⟩ := I.tuple ha
  obtain ⟨its2, r2, pl2, _⟩ := I.tuple hb
  cases r2
  have e : ((List.range (min its.toArray.size (#[] : Array Value).size)).all (fun _ => true) && its.toArray.size == (#[] : Array Value).size) = xs.isEmpty := by
    cases r with
    | nil => rfl
    | cons _ _ => simp
  refine SeqAt.RcAt.tuples (e := fun _ => true) pl pl2 hu (fun j _ h2 => absurd h2 (by simp)) _ _ _ _ ⟨.bl _, H, I, rfl, ?_⟩
  rw [e]
  exact q
end

/-! t[::-1] -/
section
variable {prog : Program} {w : World} {A : Around} {E : Value → Shared → Prop} {s : Shared}
theorem places_rev (n : Nat) : Builtin.Slice.slicePlaces ((n : Int) - 1) (-1) (-1) = n := by
  unfold Builtin.Slice.slicePlaces
  rw [if_neg (by decide)]
  split
  · rw [show (-(-1) : Int) = 1 by decide, Int.ediv_one]
    omega
  · omega
theorem pick_rev (xs : Array Value) : ((List.range xs.size).filterMap fun (k : Nat) => xs[(((xs.size : Int) - 1) + (k : Int) * (-1)).toNat]?).toArray = xs.toList.reverse.toArray := by
  have e : (List.range xs.size).filterMap (fun (k : Nat) => xs[(((xs.size : Int) - 1) + (k : Int) * (-1)).toNat]?) =
      ((List.range xs.size).map fun k => xs.size - 1 - k).filterMap (xs[·]?) := by
    rw [List.filterMap_map]
    refine congrArg (fun f => List.filterMap f (List.range xs.size)) (funext fun k => ?_)
    show xs[(((xs.size : Int) - 1) + (k : Int) * (-1)).toNat]? = xs[xs.size - 1 - k]?
    rw [show (((xs.size : Int) - 1) + (k : Int) * (-1)).toNat = xs.size - 1 - k by omega]
  rw [e, PySem.W.krv_range, List.filterMap_reverse, PySem.W.krv_all]
theorem applied_rev {sl : Addr} {vs : Value} {n : Nat} {Q : Int × Int × Nat → Shared → Prop} (hs : s.heap.IsSliceOf sl .none .none vs) (ps : IsPart vs (some (-1)))
    (h : Q ((n : Int) - 1, -1, n) s) : wpAny (model prog w) A (Builtin.Slice.sliceApplied (.ref sl) (pure (n : Int))) Q E s := by
  obtain ⟨os, hos, hcs, hds⟩ := id hs
  unfold Builtin.Slice.sliceApplied Builtin.Slice.sliceFields
  refine wpAny_bind (wpAny_bind (wpAny_field hos hds (x := .none) rfl ?_))
  refine wpAny_bind (wpAny_field hos hds (x := .none) rfl (wpAny_bind (wpAny_field hos hds (x := vs) rfl (wpAny_pure ?_))))
  refine wpAny_bind (HT.slicePart_ ps ?_)
  show wpAny _ _ (if ((-1 : Int) == 0) = true then _ else _) _ _ s
  rw [if_neg (by decide)]
  refine wpAny_bind (slicePart_none (wpAny_bind (slicePart_none (wpAny_bind (wpAny_pure ?_)))))
  show wpAny _ _ (pure ((n : Int) - 1, (-1 : Int), Builtin.Slice.slicePlaces ((n : Int) - 1) (-1) (-1))) _ _ s
  rw [places_rev]
  exact wpAny_pure h
theorem get_rev {t sl : Addr} {items : Array Value} {vs : Value} {Q : Value → Shared → Prop} (ht : IsTup s.heap t items) (hs : s.heap.IsSliceOf sl .none .none vs) (ps : IsPart vs (some (-1)))
    (h : Q (.ref s.heap.objs.size) { s with heap := s.heap.push { cls := .type "tuple", data := .seq items.toList.reverse.toArray } })
    (hz : items.size ≤ sizeLine) : wpAny (model prog w) A (getItem (.ref t) (.ref sl)) Q E s := by
  have ok : sizeOk (.seq items.toList.reverse.toArray) := by
    show items.toList.reverse.toArray.size ≤ sizeLine
    simpa using hz
  obtain ⟨os, hos, hcs, hds⟩ := id hs
  have hT : s.TypeIs (.ref sl) "slice" := ⟨os, hos, hcs⟩
  unfold getItem
  try with_reducible refine wpAny_holding ?_
  refine wpAny_bind (wpAny_sequenceKey ht.typeIs (by decide) ?_)
  refine wpAny_bind (wpAny_callSpecial?_slot (name := Str.ofString "__getitem__") ht.typeIs PyProof.Rows.slot_tuple_getitem
    (wpAny_call_entry PyProof.Rows.slot_tuple_getitem ht.typeIs entry_tuple_getitem ?_ (args_tuple_getitem _ _)))
  show wpAny _ _ (Builtin.Tuple.tupleItemsOf (.ref t) >>= _) _ _ s
  refine wpAny_bind (PyProof.Rows.tupleItemsOf_ ht (wpAny_bind (wpAny_typeOf hT ?_)))
  rw [if_pos (by decide)]
  refine wpAny_bind (applied_rev hs ps ?_)
  have no : ¬ ((((items.size : Int) - 1) == 0 && (-1 : Int) == 1 && items.size == items.size) = true) := by simp
  show wpAny _ _ (if (((items.size : Int) - 1) == 0 && (-1 : Int) == 1 && items.size == items.size) = true then _ else _) _ _ s
  rw [if_neg no, pick_rev]
  first
    | exact wpAny_bind (m := Builtin.Tuple.tupleExact _) (wpAny_newObj_type (wpAny_pure ⟨_, rfl, wpAny_pure h⟩) ok)
    | exact wpAny_bind (m := Builtin.Tuple.tupleExact _) (wpAny_newObj_type (wpAny_bind (wpAny_pure (wpAny_pure ⟨_, rfl, wpAny_pure h⟩))) ok)
    | exact wpAny_bind (wpAny_bind (m := Builtin.Tuple.tupleExact _) (wpAny_newObj_type (wpAny_pure (wpAny_pure ⟨_, rfl, wpAny_pure h⟩)) ok))
    | exact wpAny_bind (wpAny_bind (m := Builtin.Tuple.tupleExact _) (wpAny_newObj_type (wpAny_pure ⟨_, rfl, wpAny_pure h⟩) ok))
end
section
variable {X : Cx}
def tRevT (K : PySem.W.Frag) (te : TE) : TE := fun σ H Q => te σ H fun x H1 => ∃ a xs, x = .ref a ∧ SqT K H1 a xs ∧ ∀ p, H1 p = none → Q (.ref p) (upd H1 p (.tup xs.reverse))
theorem pe_revT {e : Expr} {te : TE} {k : Nat} {p1 p2 p3 pos : Pos} (he : PE X e te) :
    PE X (.Subscript e (.Slice none none (some (.UnaryOp .USub (.Constant (.int 1) k p1) p2)) p3) pos) (tRevT X.K te) := by
  constructor
  intro pins s σ H Q I h
  refine Subscript_ (thn (he.run pins s σ H _ I h) ?_)
  rintro v s1 ⟨x, H1, I1, r1, a, xs, rfl, hx, q⟩
  cases r1
  have hst : PO X (some (.UnaryOp .USub (.Constant (.int 1) k p1) p2)) (tPart (tUn (rU fun i => .int (-i)) (tC (.int 1)))) := po_some (pe_un un_neg pe_int)
  refine wpAny_Slice (thn (po_none.run pins s1 σ H1 (fun o H2 => o = none ∧ H2 = H1) I1 ⟨rfl, rfl⟩) ?_)
  rintro vl s2 ⟨l, H2, I2, pl, rfl, rfl⟩
  refine thn (po_none.run pins s2 σ H2 (fun o H3 => o = none ∧ H3 = H2) I2 ⟨rfl, rfl⟩) ?_
  rintro vu s3 ⟨u, H3, I3, pu, rfl, rfl⟩
  refine thn (hst.run pins s3 σ H3 (fun o H4 => o = some (-1) ∧ H4 = H3) I3 ⟨1, rfl, -1, rfl, rfl, rfl⟩) ?_
  rintro vs s4 ⟨o, H4, I4, ps, rfl, rfl⟩
  cases pl
  cases pu
  have J : Inv X pins σ H4 { s4 with heap := s4.heap.push { cls := .type "slice", data := .fields #[.none, .none, vs] } } := I4.kept (t' := s4.toks) fun b ob z => Heap.get?_push_of_some _ z
  obtain ⟨its, r, ht, hz⟩ := J.tuple hx
  have hlen := r.length
  refine tail_any (ops := [.ref a, .ref s4.heap.objs.size]) ht.typeIs (PyProof.Rows.slot_tuple_getitem.lookup) ?_ (by with_unfolding_all rfl)
  refine get_rev ht (Heap.IsSliceOf.new _ .none .none vs) ps ?_ (by rw [List.size_toArray]; omega)
  refine ⟨.ref _, _, J.laid (t' := s4.toks) (o := .tup xs.reverse) (fun b ob z => Heap.get?_push_of_some _ z) (Nat.le_refl _) ?_, rfl, q _ (J.hok.fresh (Nat.le_refl _))⟩
  exact ⟨by rw [List.length_reverse]; exact hz, _, r.reverse, IsTup.new _ _⟩
end
end Gd
end

section
set_option Elab.async false
set_option linter.all false
set_option maxRecDepth 100000
set_option maxHeartbeats 4000000
/-! Lists of ints and slabs in the heap; what they show. -/
namespace Gd
open PySem PySem.Spec PyProof.Rows L2
theorem int_shown {i : Int} (h : i.natAbs ≤ 10 ^ 40) : (PyData.int i).shown.length ≤ 100 ∧ i.natAbs.log2 < 1920 ∧ (PyData.int i).weight ≤ 200 := by
  have h1 : i.natAbs < 10 ^ 41 := Nat.lt_of_le_of_lt h (by decide)
  have hl : i.natAbs.log2 < 190 := by
    by_cases z : i.natAbs = 0
    · rw [z]; decide
    · exact (Nat.log2_lt z).mpr (Nat.lt_of_lt_of_le h1 (by decide +kernel))
  refine ⟨?_, by omega, ?_⟩
  · have e := int_text_length_le10 (k := 41) (by decide) h1
    have e2 : (PyData.int i).shown.length = (toString i).length := by
      show (Str.ofString (toString i)).length = _
      rw [PySem.ofString_length]
    omega
  · simp only [PyData.weight]
    split <;> omega
theorem ints_leaves : ∀ {ns : List Int}, (∀ i ∈ ns, i.natAbs ≤ 10 ^ 40) → PyData.leavesShortAll 100 (ns.map .int) = true ∧ PyData.showableAll (ns.map .int) = true ∧ PyData.weightAll (ns.map .int) ≤ 201 * ns.length ∧ PyData.depthAll (ns.map .int) = 0
  | [], _ => ⟨rfl, rfl, Nat.zero_le _, rfl⟩
  | i :: ns, h => by
    obtain ⟨a, b, c, d⟩ := ints_leaves (ns := ns) fun j hj => h j (by simp [hj])
    obtain ⟨e1, e2, e3⟩ := int_shown (h i (by simp))
    refine ⟨?_, ?_, ?_, ?_⟩
    · simp only [List.map_cons, PyData.leavesShortAll, a, Bool.and_true, PyData.leavesShort, decide_eq_true_eq]
      exact e1
    · simp only [List.map_cons, PyData.showableAll, b, Bool.and_true, PyData.showable, decide_eq_true_eq]
      exact e2
    · simp only [List.map_cons, PyData.weightAll, List.length_cons]
      omega
    · simp only [List.map_cons, PyData.depthAll, d, PyData.depth]
      omega
/-- repr of a list of ints is served -/
theorem ints_shown {ns : List Int} (h : ∀ i ∈ ns, i.natAbs ≤ 10 ^ 40) (hl : ns.length ≤ 700) :
    (PyData.list (ns.map .int)).showable = true ∧ (PyData.list (ns.map .int)).shown.length ≤ sizeLine ∧ (PyData.list (ns.map .int)).depth ≤ 60 := by
  obtain ⟨a, b, c, d⟩ := ints_leaves h
  have hs := PyData.shown_le 100 (by decide) (.list (ns.map .int)) (by simpa only [PyData.leavesShort] using a)
  have hw : (PyData.list (ns.map .int)).weight ≤ 201 * ns.length + 1 := by
    simp only [PyData.weight]
    omega
  have z : sizeLine = 16777216 := rfl
  refine ⟨by simpa only [PyData.showable] using b, by omega, ?_⟩
  simp only [PyData.depth, d]
  omega
theorem one_shown {i : Int} (h : i.natAbs ≤ 10 ^ 40) : (PyData.int i).showable = true ∧ (PyData.int i).shown.length ≤ sizeLine ∧ (PyData.int i).depth ≤ 60 := by
  obtain ⟨e1, e2, e3⟩ := int_shown h
  have z : sizeLine = 16777216 := rfl
  refine ⟨by simpa [PyData.showable] using e2, by omega, by simp only [PyData.depth]; omega⟩
theorem ints_dp {K : PySem.W.Frag} {H : Hp} : ∀ ns : List Int, DpAll K H (ns.map V.int) (ns.map .int)
  | [] => .nil
  | i :: ns => .cons (.int i) (ints_dp ns)
theorem list_dp {K : PySem.W.Frag} {H : Hp} {a : Addr} {ns : List Int} (h : SqL K H a (ns.map V.int)) : Dp K H (.ref a) (.list (ns.map .int)) := .lst h (ints_dp ns)

/-! what stays -/
theorem new_same {H : Hp} {q : Addr} {o : HO} (n : H q = none) : Same H (upd H q o) := fun b u e => by
  rw [upd_ne (ne_of_none e n)]
  exact e
/-- a new object may change -/
theorem own_same {H H' : Hp} {q : Addr} {o : HO} (n : H q = none) (s : Same H H') : Same H (upd H' q o) := fun b u e => by
  rw [upd_ne (ne_of_none e n)]
  exact s b u e
theorem same_tup {K : PySem.W.Frag} {H H' : Hp} (s : Same H H') {a : Addr} {xs : List V} (h : SqT K H a xs) : SqT K H' a xs := by
  rcases h with (h | ⟨o, h⟩) | h
  · exact .inl (.inl (s _ _ h))
  · exact .inl (.inr ⟨o, s _ _ h⟩)
  · exact .inr h
/-- slabs at a: a list of pairs -/
def SlabsAt (K : PySem.W.Frag) (H : Hp) (a : Addr) (ss : List (Nat × Int)) : Prop :=
  ∃ bs : List Addr, SqL K H a (bs.map V.ref) ∧ bs.length = ss.length ∧ ∀ (i : Nat) (b : Addr) (s : Nat × Int), bs[i]? = some b → ss[i]? = some s → SqT K H b [.int (s.1 : Nat), .int s.2]
theorem SlabsAt.same {K : PySem.W.Frag} {H H' : Hp} {a : Addr} {ss : List (Nat × Int)} (h : SlabsAt K H a ss) (s : Same H H') : SlabsAt K H' a ss := by
  obtain ⟨bs, h1, h2, h3⟩ := h
  exact ⟨bs, s.seq h1, h2, fun i b t e1 e2 => same_tup s (h3 i b t e1 e2)⟩
theorem map_at {α : Type} {f : α → V} {xs : List α} {i : Nat} {v : V} (h : (xs.map f)[i]? = some v) : ∃ x, xs[i]? = some x ∧ v = f x := by
  rw [List.getElem?_map] at h
  cases e : xs[i]? with
  | none => rw [e] at h; cases h
  | some x => rw [e] at h; exact ⟨x, rfl, (Option.some.inj h).symm⟩
theorem at_of {α : Type} {xs : List α} {i n : Nat} (hl : xs.length = n) (h : i < n) : ∃ x, xs[i]? = some x := ⟨xs[i]'(by omega), List.getElem?_eq_getElem (by omega)⟩
theorem at_lt {α : Type} {xs : List α} {i : Nat} {x : α} (h : xs[i]? = some x) : i < xs.length := (List.getElem?_eq_some_iff.mp h).1
theorem getD_at {l : List Int} {i : Nat} (h : i < l.length) : l[i]? = some (l.getD i 0) := by
  rw [List.getD_eq_getElem?_getD, List.getElem?_eq_getElem h] <;> rfl
theorem ints_at {l : List Int} {i : Nat} (h : i < l.length) : (l.map V.int)[i]? = some (.int (l.getD i 0)) := by
  rw [List.getElem?_map, getD_at h] <;> rfl
theorem ints_atI {l : List Int} {i : Nat} (h : i < l.length) : atI (l.map V.int) ((i : Nat) : Int) = some (.int (l.getD i 0)) := atI_nat (ints_at h)
theorem take_at {α : Type} {xs : List α} {i : Nat} {x : α} (h : xs[i]? = some x) : xs.take (i + 1) = xs.take i ++ [x] := by
  rw [List.take_add_one, h] <;> rfl
theorem map_set {l : List Int} {i : Nat} {v : Int} : (l.map V.int).set i (.int v) = (l.set i v).map V.int := by
  rw [List.map_set]
section
variable {X : Cx}
/-- l[j], j from nought on, in l[j] op= x -/
def rGetL (K : PySem.W.Frag) : V → V → Hp → VK → Prop := fun o i H Q => ∃ (p : Addr) (xs : List V) (j : Nat) (v : V), o = .ref p ∧ i = .int (j : Nat) ∧ SqL K H p xs ∧ xs[j]? = some v ∧ Q v H
theorem get_list : PGet X (rGetL X.K) := by
  intro pins s σ H o i ov iv Q I r1 r2 h
  obtain ⟨p, xs, j, v, rfl, rfl, hq, he, q⟩ := h
  cases r1
  obtain ⟨t, rfl⟩ := r2
  obtain ⟨its, r, pl, hz⟩ := I.list hq
  obtain ⟨u, eu, ru⟩ := r.get he
  have hl := r.length
  have lt := at_lt he
  have zz : sizeLine = 16777216 := rfl
  have hi := at_lt eu
  refine wpAny_getItem_list pl.isList (by omega) (by omega) ?_ ⟨v, H, I, ru, q⟩
  simpa using eu
end
theorem ixN_nat {n j : Nat} (h : j < n) : ixN n (j : Int) = some j := by
  unfold ixN
  rw [if_pos (by omega), if_pos (by omega)] <;> simp
end Gd
end

section
set_option Elab.async false
set_option linter.all false
set_option maxRecDepth 100000
set_option maxHeartbeats 4000000
namespace Gd
open PySem PySem.Spec PyProof.Rows L2
section
variable {X : Cx}
/-- a list beside [] -/
def rL0 (K : PySem.W.Frag) (neg : Bool) : R2 := fun x y H Q => ∃ a b xs, x = .ref a ∧ y = .ref b ∧ SqL K H a xs ∧ SqL K H b [] ∧ Q (.bl (if neg then !xs.isEmpty else xs.isEmpty)) H
theorem op_eqL0 (hu : X.A.units < cLine) : OpR X (compareOp .Eq) (rL0 X.K false) := by
  intro pins s σ H x y v u Q I rx ry h
  obtain ⟨a, b, xs, rfl, rfl, ha, hb, q⟩ := h
  cases rx
  cases ry
  obtain ⟨its, r, pl, _⟩ := I.list ha
  obtain ⟨its2, r2, pl2, _⟩ := I.list hb
  cases r2
  cases r with
  | nil => exact SeqAt.RcAt.lists (e := fun _ => true) pl.isList pl2.isList rfl hu (fun j h1 _ => absurd h1 (by simp)) _ _ _ _ ⟨.bl _, H, I, rfl, q⟩
  | cons _ _ => exact SeqAt.RcAt.lists_lengths pl.isList pl2.isList (by simp) hu _ _ _ _ ⟨.bl _, H, I, rfl, q⟩
theorem op_neL0 (hu : X.A.units < cLine) : OpR X (compareOp .NotEq) (rL0 X.K true) := by
  intro pins s σ H x y v u Q I rx ry h
  obtain ⟨a, b, xs, rfl, rfl, ha, hb, q⟩ := h
  cases rx
  cases ry
  obtain ⟨its, r, pl, _⟩ := I.list ha
  obtain ⟨its2, r2, pl2, _⟩ := I.list hb
  cases r2
  cases r with
  | nil => exact SeqAt.RcNeAt.lists (e := fun _ => true) pl.isList pl2.isList rfl hu (fun j h1 _ => absurd h1 (by simp)) _ _ _ _ ⟨.bl _, H, I, rfl, q⟩
  | cons _ _ => exact SeqAt.RcNeAt.lists_lengths pl.isList pl2.isList (by simp) hu _ _ _ _ ⟨.bl _, H, I, rfl, q⟩
end
/-! what stays through draws -/
theorem ex1_of_same {p : Addr} {H H' : Hp} (s : Same H H') : Ex1 p H H' := fun b u _ e => s b u e
theorem ex1_own {p q : Addr} {H H' : Hp} {o : HO} (n : H q = none) (x : Ex1 p H H') : Ex1 p H (upd H' q o) := fun b u nb e => by
  rw [upd_ne (ne_of_none e n)]
  exact x b u nb e
theorem Feed.off {H : Hp} {p q : Addr} {S : Int} {o : HO} (F : Feed H p S) (n : q ≠ p) : Feed (upd H q o) p S := by
  obtain ⟨g, x, s, e, a, b⟩ := F
  exact ⟨g, x, s, by rw [upd_ne n.symm]; exact e, a, b⟩
theorem Feed.kept {H H' : Hp} {p : Addr} {S : Int} (F : Feed H p S) (s : Same H H') : Feed H' p S := by
  obtain ⟨g, x, z, ep, a, b⟩ := F
  exact ⟨g, x, z, s _ _ ep, a, b⟩
theorem Feed.not {H : Hp} {p q : Addr} {S : Int} (F : Feed H p S) (n : H q = none) : q ≠ p := F.ne n
theorem ex1_tup {K : PySem.W.Frag} {H H' : Hp} {p a : Addr} {S : Int} {xs : List V} (F : Feed H p S) (x : Ex1 p H H') (h : SqT K H a xs) : SqT K H' a xs := by
  obtain ⟨ys, ep⟩ := F.lst
  rcases h with (h | ⟨o, h⟩) | h
  · exact .inl (.inl (x _ _ (fun z => by rw [z, ep] at h; cases h) h))
  · exact .inl (.inr ⟨o, x _ _ (fun z => by rw [z, ep] at h; cases h) h⟩)
  · exact .inr h
theorem ex1_seq {K : PySem.W.Frag} {H H' : Hp} {p a : Addr} {xs : List V} (n : a ≠ p) (x : Ex1 p H H') (h : SqL K H a xs) : SqL K H' a xs := by
  rcases h with (h | ⟨o, h⟩) | h
  · exact .inl (.inl (x _ _ n h))
  · exact .inl (.inr ⟨o, x _ _ n h⟩)
  · exact .inr h
theorem SlabsAt.drawn {K : PySem.W.Frag} {H H' : Hp} {p a : Addr} {S : Int} {ss : List (Nat × Int)} (h : SlabsAt K H a ss) (F : Feed H p S) (n : a ≠ p) (x : Ex1 p H H') : SlabsAt K H' a ss := by
  obtain ⟨bs, h1, h2, h3⟩ := h
  exact ⟨bs, ex1_seq n x h1, h2, fun i b t e1 e2 => ex1_tup F x (h3 i b t e1 e2)⟩
/-- a new object is not p, and was not there before the draws -/
theorem ex1_free {p q : Addr} {H H' : Hp} (x : Ex1 p H H') (n : q ≠ p) (h : H' q = none) : H q = none := by
  cases e : H q with
  | none => rfl
  | some o => rw [x q o n e] at h; cases h
theorem at_list {α : Type} {f : α → V} {xs : List α} {r : Int} (h0 : 0 ≤ r) (h1 : r < xs.length) : ∃ x, x ∈ xs ∧ atI (xs.map f) r = some (f x) := by
  have h2 : r.toNat < xs.length := by omega
  refine ⟨xs[r.toNat], List.getElem_mem h2, ?_⟩
  have e : ((r.toNat : Nat) : Int) = r := by omega
  have z : atI (xs.map f) ((r.toNat : Nat) : Int) = some (f xs[r.toNat]) := atI_nat (by rw [List.getElem?_map, List.getElem?_eq_getElem h2] <;> rfl)
  rw [e] at z
  exact z
end Gd
end

section
set_option Elab.async false
set_option linter.all false
set_option maxRecDepth 100000
set_option maxHeartbeats 4000000
/-! f(k=e, ..): by its names alone, in any order. -/
namespace Gd
open PySem PySem.Spec PyProof.Rows L2
section
variable {X : Cx} {cx : CXT} {n : Nat} {f : Addr} {fd : FuncData} {ps ks : List Str} {sp : Sp} {E : XK} {x : Str} {p pos : Pos} {kws : List Keyword} {tk : TA}
  {g : List Value → List Value → List Value} {gV : List V → List V → List V}
def tKw2 (sp : Sp) (gV : List V → List V → List V) (E : XK) (tk : TA) : TE := fun σ H Q => tk σ H fun zs H2 => sp (gV [] zs) H2 Q E
/-- f(k=e): by its names alone -/
theorem pe_kw2 (F : FnOk X.prog X.w X.K X.mg X.base cx n f fd ps sp) (hr : Room n X.A) (hg : Gl X x) (hm : X.mg x = some (.ref f)) (hk : PySem.W.keepIn X.K (.ref f) = true)
    (hb : KBinds X.K fd ps ks g gV) (hx : Passes cx X E) (hkw : PK X kws tk)
    (hall : (backToKw pos (keywordEach kws X.env)).all (·.1.isSome) = true := by rfl) (hks : (backToKw pos (keywordEach kws X.env)).filterMap (·.1) = ks := by rfl)
    (hdb : (x == ("__debug__" : Str)) = false := by decide)
    (hpl : ((backTo pos (starEach [] X.env)).any (·.1) || (backToKw pos (keywordEach kws X.env)).any (·.1.isNone)) = false := by rfl) :
    PE X (.Call (.Name x p) [] kws pos) (tKw2 sp gV E tk) := by
  constructor
  intro pins s σ H Q I h
  refine wpAny_Call_Name_kw (ld_glob I hg hm ?_ hdb)
  refine PySem.W.callWith_KW0 (h₀ := X.base) I.ok.mod.kin hk hall (thn (hkw.run pos pins s σ H _ I h) ?_) hpl
  rintro ws s2 ⟨zs, H2, J, rz, q⟩
  refine ⟨J.kIn, ?_⟩
  rw [hks]
  exact run_fnk (us := []) (vs := []) F hr hb hx J .nil rz q
end
/-- two by their names, told in the other order -/
def back2 {α : Type} : List α → List α → List α
  | [], [a, b] => [b, a]
  | _, _ => []
theorem back2_rel {vs : List V} {us : List Value} {zs : List V} {ws : List Value} (a : Vals vs us) (b : Vals zs ws) : Vals (back2 vs zs) (back2 us ws) := by
  cases a with
  | cons _ _ => cases b <;> exact .nil
  | nil =>
    cases b with
    | nil => exact .nil
    | cons b1 b => cases b with
      | nil => exact .nil
      | cons b2 b => cases b with
        | nil => exact .cons b2 (.cons b1 .nil)
        | cons _ _ => exact .nil
theorem back2_of {K : PySem.W.Frag} {x qual p0 p1 : Str} {st : Stmt} {f : Addr} {fd : FuncData} (F : Fun K x qual st f fd)
    (h : ∀ (kV doc pm : Value) (an : Option Addr) (cdv ct a b : Value), bindArgs (PySem.W.fnOf x qual (defArgs st) (defBody st) (defScope st) .none kV doc pm an cdv ct) ⟨[], [(p1, a), (p0, b)]⟩ = pure [(p0, b), (p1, a)]) :
    KBinds K fd [p0, p1] [p1, p0] back2 back2 := by
  obtain ⟨oc, od, kV, doc, pm, an, cdv, ct, osl, rfl, lk, hcd⟩ := F.ex
  refine ⟨fun s us ws _ hl => ?_, fun a b => back2_rel a b⟩
  match us, ws, hl with
  | [], [a, b], _ => exact .of_eq (h kV doc pm an cdv ct a b)
end Gd
end

section
set_option Elab.async false
set_option linter.all false
set_option maxRecDepth 100000
set_option maxHeartbeats 4000000
namespace Gd
open PySem PySem.Spec PyProof.Rows L2
def onlyK {α : Type} : List α → List α → List α
  | [], ws => ws
  | _ :: _, _ => []
section
variable {X : Cx} {cx : CXT} {n : Nat} {f : Addr} {fd : FuncData} {ps ks : List Str} {sp : Sp} {E : XK} {x : Str} {p pos : Pos} {kws : List Keyword} {tk : TA}
def tKw (sp : Sp) (E : XK) (tk : TA) : TE := fun σ H Q => tk σ H fun zs H2 => sp zs H2 Q E
/-- f(k=e): by its names alone -/
theorem pe_kw (F : FnOk X.prog X.w X.K X.mg X.base cx n f fd ps sp) (hr : Room n X.A) (hg : Gl X x) (hm : X.mg x = some (.ref f)) (hk : PySem.W.keepIn X.K (.ref f) = true)
    (hb : KBinds X.K fd ps ks onlyK onlyK) (hx : Passes cx X E) (hkw : PK X kws tk)
    (hall : (backToKw pos (keywordEach kws X.env)).all (·.1.isSome) = true := by rfl) (hks : (backToKw pos (keywordEach kws X.env)).filterMap (·.1) = ks := by rfl)
    (hdb : (x == ("__debug__" : Str)) = false := by decide)
    (hpl : ((backTo pos (starEach [] X.env)).any (·.1) || (backToKw pos (keywordEach kws X.env)).any (·.1.isNone)) = false := by rfl) :
    PE X (.Call (.Name x p) [] kws pos) (tKw sp E tk) := by
  constructor
  intro pins s σ H Q I h
  refine wpAny_Call_Name_kw (ld_glob I hg hm ?_ hdb)
  refine PySem.W.callWith_KW0 (h₀ := X.base) I.ok.mod.kin hk hall (thn (hkw.run pos pins s σ H _ I h) ?_) hpl
  rintro ws s2 ⟨zs, H2, J, rz, q⟩
  refine ⟨J.kIn, ?_⟩
  rw [hks]
  exact run_fnk (us := []) (vs := []) F hr hb hx J .nil rz q
end
theorem onlyK_rel {vs : List V} {us : List Value} {zs : List V} {ws : List Value} (a : Vals vs us) (b : Vals zs ws) : Vals (onlyK vs zs) (onlyK us ws) := by
  cases a with
  | nil => exact b
  | cons _ _ => exact .nil
theorem kw_of {K : PySem.W.Frag} {x qual k : Str} {st : Stmt} {f : Addr} {fd : FuncData} (F : Fun K x qual st f fd)
    (h : ∀ (kV doc pm : Value) (an : Option Addr) (cdv ct w : Value), bindArgs (PySem.W.fnOf x qual (defArgs st) (defBody st) (defScope st) .none kV doc pm an cdv ct) ⟨[], [(k, w)]⟩ = pure [(k, w)]) :
    KBinds K fd [k] [k] onlyK onlyK := by
  obtain ⟨oc, od, kV, doc, pm, an, cdv, ct, osl, rfl, lk, hcd⟩ := F.ex
  refine ⟨fun s us ws _ hl => ?_, fun a b => onlyK_rel a b⟩
  cases us with
  | cons _ _ => cases hl
  | nil =>
    match ws, hl with
    | [w], _ => exact .of_eq (h kV doc pm an cdv ct w)
end Gd
end

section
set_option Elab.async false
set_option linter.all false
set_option maxRecDepth 100000
set_option maxHeartbeats 4000000
/-! sorted(xs) of data of one form: tuples of texts, numbers, within tuples. -/
namespace Gd
open PySem PySem.Spec PyProof.Rows L2 PySem.W
def RD (K : PySem.W.Frag) (H : Hp) (u : Value) (d : PyData) : Prop := ∃ x, RelV x u ∧ Dp K H x d
section
variable {K : PySem.W.Frag} {H : Hp}
theorem each_of : ∀ {xs : List V} {us : List Value} {ds : List PyData}, Vals xs us → DpAll K H xs ds → EachIs (RD K H) us ds
  | _, _, _, .nil, h => by
    cases h
    exact .nil
  | _, _, _, .cons r rs, h => by
    cases h with
    | cons a b => exact .cons ⟨_, r, a⟩ (each_of rs b)
theorem of_each : ∀ {us : List Value} {ds : List PyData}, EachIs (RD K H) us ds → ∃ xs, Vals xs us ∧ DpAll K H xs ds
  | _, _, .nil => ⟨[], .nil, .nil⟩
  | _, _, .cons ⟨x, r, a⟩ h => by
    obtain ⟨xs, rs, b⟩ := of_each h
    exact ⟨x :: xs, .cons r rs, .cons a b⟩
end
/-- the order in which sorted tells -/
def told (ds : List PyData) : List PyData := ds.mergeSort (dataLe false id)
def rSortD (K : PySem.W.Frag) : List V → Hp → VK → Prop := fun xs H Q => ∃ (a : Addr) (vs : List V) (ds : List PyData), xs = [.ref a] ∧ SqL K H a vs ∧ DpAll K H vs ds ∧ AllAlike ds ∧ Sortable ds ∧ ds.length ≤ 1000 ∧ (∀ d ∈ ds, d.depth ≤ 50) ∧
  ∀ (us : List V) (p : Addr), H p = none → DpAll K H us (told ds) → Q (.ref p) (upd H p (.lst us))
theorem call_sortedD {X : Cx} (hu : X.A.units + 64 < cLine) : CallR X (.builtin "sorted") (rSortD X.K) := by
  intro pins s σ H xs us Q I r h
  obtain ⟨a, vs, ds, rfl, hs, hA, al, so, hz, hd, q⟩ := h
  obtain ⟨u, rfl, ru⟩ := r.one
  cases ru
  obtain ⟨its, rv, hl, _⟩ := I.list hs
  have e := each_of rv hA
  have er : EachIs (fun v b => ∃ as, Reads s.heap v (id b) as) its ds := e.mono fun v d ⟨x, r1, r2⟩ => Dp.reads I d x v r2 r1
  have zl : sizeLine = 16777216 := rfl
  refine sorted_data (enc := id) hl.isList e er (by rw [List.map_id]; exact al) (by rw [List.map_id]; exact so) (by omega) (fun b hb => ?_) fun out hlen eo => ?_
  · have := hd b hb
    show X.A.units + 2 + b.depth < cLine
    omega
  · obtain ⟨ws, r2, A2⟩ := of_each eo
    obtain ⟨ep, he⟩ := sortedAll_at s.heap its (List.toArray out)
    have hw : ws.length ≤ sizeLine := by
      have := r2.length
      omega
    exact ⟨.ref _, upd H (s.heap.objs.size + 1) (.lst ws), I.laid (t' := s.toks) (fun _ _ => sortedAll_old) (Nat.le_succ _) ⟨hw, out, ep, r2, he⟩, rfl, q ws _ (I.hok.fresh (Nat.le_succ _)) A2⟩
end Gd
end

section
set_option Elab.async false
set_option linter.all false
set_option maxRecDepth 100000
set_option maxHeartbeats 4000000
/-! Sorted lists of the same things are the same. -/
namespace Gd
open PySem PySem.Spec PyProof.Rows L2 PySem.W
theorem perm_sorted {α : Type} {r : α → α → Prop} : ∀ {l u : List α}, l.Perm u → l.Pairwise r → u.Pairwise r → (∀ a ∈ l, ∀ b ∈ l, r a b → r b a → a = b) → l = u
  | [], u, p, _, _, _ => (List.nil_perm.mp p).symm
  | a :: l, [], p, _, _, _ => absurd p.length_eq (by simp)
  | a :: l, b :: u, p, h1, h2, an => by
    have ha : a ∈ b :: u := p.subset (by simp)
    have hb : b ∈ a :: l := p.symm.subset (by simp)
    rw [List.pairwise_cons] at h1 h2
    have e : a = b := by
      rcases List.mem_cons.mp ha with e | ha
      · exact e
      · rcases List.mem_cons.mp hb with e | hb'
        · exact e.symm
        · exact an a (by simp) b hb (h1.1 b hb') (h2.1 a ha)
    subst e
    rw [perm_sorted (List.Perm.cons_inv p) h1.2 h2.2 fun x hx y hy => an x (by simp [hx]) y (by simp [hy])]
theorem le_trans (a b c : PyData) (h1 : dataLe false id a b = true) (h2 : dataLe false id b c = true) : dataLe false id a c = true := by
  have g : ∀ x y : PyData, dataLe false id x y = !dataLt y x := fun _ _ => rfl
  rw [g] at h1 h2 ⊢
  cases h : dataLt c a with
  | false => rfl
  | true =>
    rcases lex_negTrans (O := itemOrd) (keyToks c) (keyToks b) (keyToks a) h with q | q
    · have : dataLt c b = true := q
      rw [this] at h2
      cases h2
    · have : dataLt b a = true := q
      rw [this] at h1
      cases h1
theorem le_total (a b : PyData) : (dataLe false id a b || dataLe false id b a) = true := by
  have g : ∀ x y : PyData, dataLe false id x y = !dataLt y x := fun _ _ => rfl
  rw [g, g]
  cases h : dataLt b a with
  | false => rfl
  | true =>
    cases h2 : dataLt a b with
    | false => rfl
    | true =>
      have := lex_trans (O := itemOrd) (keyToks a) (keyToks b) (keyToks a) h2 h
      rw [lex_irrefl] at this
      cases this
theorem told_sorted (ds : List PyData) : (told ds).Pairwise fun a b => dataLe false id a b = true := List.pairwise_mergeSort le_trans le_total ds
theorem told_perm (ds : List PyData) : (told ds).Perm ds := List.mergeSort_perm ds _
/-- sorted of the same things in another order -/
theorem told_same {ds es : List PyData} (p : ds.Perm es) (an : ∀ a ∈ ds, ∀ b ∈ ds, dataLe false id a b = true → dataLe false id b a = true → a = b) : told ds = told es := by
  refine perm_sorted ((told_perm ds).trans (p.trans (told_perm es).symm)) (told_sorted ds) (told_sorted es) fun a ha b hb => ?_
  exact an a ((told_perm ds).mem_iff.mp ha) b ((told_perm ds).mem_iff.mp hb)
end Gd
end

section
set_option Elab.async false
set_option linter.all false
set_option maxRecDepth 100000
set_option maxHeartbeats 4000000
namespace Szg
open PySem PySem.Spec PyProof.Rows L2 Gd
/-! sizes of data -/
structure Sm (w n : Nat) (d : PyData) : Prop where
  lf : d.leavesShort 100 = true
  sh : d.showable = true
  wt : d.weight ≤ w
  dp : d.depth ≤ n
structure Sms (w n : Nat) (ds : List PyData) : Prop where
  lf : PyData.leavesShortAll 100 ds = true
  sh : PyData.showableAll ds = true
  wt : PyData.weightAll ds ≤ w
  dp : PyData.depthAll ds ≤ n
theorem Sm.mono {w n w' n' : Nat} {d : PyData} (h : Sm w n d) (a : w ≤ w') (b : n ≤ n') : Sm w' n' d := ⟨h.lf, h.sh, Nat.le_trans h.wt a, Nat.le_trans h.dp b⟩
theorem Sms.mono {w n w' n' : Nat} {ds : List PyData} (h : Sms w n ds) (a : w ≤ w') (b : n ≤ n') : Sms w' n' ds := ⟨h.lf, h.sh, Nat.le_trans h.wt a, Nat.le_trans h.dp b⟩
theorem Sms.nil {n : Nat} : Sms 0 n [] := ⟨rfl, rfl, Nat.le_refl _, Nat.zero_le _⟩
theorem Sms.cons {w v n : Nat} {d : PyData} {ds : List PyData} (h : Sm w n d) (g : Sms v n ds) : Sms (w + 1 + v) n (d :: ds) := by
  refine ⟨?_, ?_, ?_, ?_⟩
  · simp only [PyData.leavesShortAll, h.lf, g.lf, Bool.and_self]
  · simp only [PyData.showableAll, h.sh, g.sh, Bool.and_self]
  · have := h.wt
    have := g.wt
    simp only [PyData.weightAll]
    omega
  · have := h.dp
    have := g.dp
    simp only [PyData.depthAll]
    omega
theorem Sms.tup {w n : Nat} {ds : List PyData} (g : Sms w n ds) : Sm (w + 1) (n + 1) (.tuple ds) := by
  refine ⟨by simp only [PyData.leavesShort, g.lf], by simp only [PyData.showable, g.sh], ?_, ?_⟩
  · have := g.wt
    simp only [PyData.weight]
    omega
  · have := g.dp
    simp only [PyData.depth]
    omega
theorem Sms.lst {w n : Nat} {ds : List PyData} (g : Sms w n ds) : Sm (w + 1) (n + 1) (.list ds) := by
  refine ⟨by simp only [PyData.leavesShort, g.lf], by simp only [PyData.showable, g.sh], ?_, ?_⟩
  · have := g.wt
    simp only [PyData.weight]
    omega
  · have := g.dp
    simp only [PyData.depth]
    omega
theorem Sm.shown {w n : Nat} {d : PyData} (h : Sm w n d) (a : w ≤ 160000) (b : n ≤ 60) : d.showable = true ∧ d.shown.length ≤ sizeLine ∧ d.depth ≤ 60 := by
  have x := PyData.shown_le 100 (by decide) d h.lf
  have y := h.wt
  have z : sizeLine = 16777216 := rfl
  exact ⟨h.sh, by omega, Nat.le_trans h.dp b⟩
theorem sm_none : Sm 5 0 .none := ⟨rfl, rfl, by decide, by decide⟩
theorem sm_bool (b : Bool) : Sm 5 0 (.bool b) := by cases b <;> exact ⟨rfl, rfl, by decide, by decide⟩
theorem int_log {i : Int} (h : i.natAbs ≤ 10 ^ 62) : i.natAbs.log2 < 207 := by
  by_cases z : i.natAbs = 0
  · rw [z]; decide
  · exact (Nat.log2_lt z).mpr (Nat.lt_of_le_of_lt h (by decide +kernel))
theorem sm_int {i : Int} (h : i.natAbs ≤ 10 ^ 62) : Sm 212 0 (.int i) := by
  have h1 : i.natAbs < 10 ^ 63 := Nat.lt_of_le_of_lt h (by decide)
  have hl := int_log h
  refine ⟨?_, ?_, ?_, Nat.le_refl _⟩
  · have e := int_text_length_le10 (k := 63) (by decide) h1
    have e2 : (PyData.int i).shown.length = (toString i).length := by
      show (Str.ofString (toString i)).length = _
      rw [PySem.ofString_length]
    simp only [PyData.leavesShort, decide_eq_true_eq]
    omega
  · have : i.natAbs.log2 < 1920 := by omega
    simpa [PyData.showable] using this
  · simp only [PyData.weight]
    split <;> omega
/-- a plain text: codes under 128, no longer than 30 -/
def Pl (s : Str) : Prop := (∀ c ∈ s.cps.toList, c < 128) ∧ s.length ≤ 30
theorem sm_str {s : Str} (h : Pl s) : Sm 30 0 (.str s) := by
  refine ⟨?_, ?_, ?_, Nat.le_refl _⟩
  · simp only [PyData.leavesShort, List.all_eq_true, decide_eq_true_eq]
    intro c hc
    exact Nat.lt_of_lt_of_le (h.1 c hc) (by decide)
  · simp [PyData.showable]
  · have w : (PyData.str s).weight = s.length := by simp only [PyData.weight]; rfl
    have := h.2
    omega
theorem Sms.all {w n : Nat} {ds : List PyData} (h : ∀ d ∈ ds, Sm w n d) : Sms ((w + 1) * ds.length) n ds := by
  induction ds with
  | nil => exact Sms.nil
  | cons d ds ih =>
    refine (Sms.cons (h d (by simp)) (ih fun e m => h e (by simp [m]))).mono ?_ (Nat.le_refl _)
    rw [List.length_cons, Nat.mul_add]
    omega
end Szg
end

section
set_option Elab.async false
set_option linter.all false
set_option maxRecDepth 100000
set_option maxHeartbeats 4000000
namespace K02
open PySem PySem.Spec PyProof.Rows L2 Gd
def topS (i : Nat) : Stmt := PySem.Challenge.pw_plansamid_k02_cells_and_faults_of_parts.main.body.getD i (.Pass ⟨0, 0, 0, 0⟩)
abbrev sFeed : Stmt := topS 6
abbrev sTake : Stmt := topS 7
theorem scFeed : FnScope ["_law_script", "_law_k", "_law_cell", "_law_great"] ["_law_script", "_law_k"] (defScope sFeed) :=
  ⟨rfl, rfl, rfl, by decide +kernel, rfl, by decide +kernel, by decide +kernel⟩
theorem scTake : FnScope ["_law_feed_here", "_law_many", "_law_digit", "_law_many_so", "_law_mixed"] ["_law_feed_here", "_law_many"] (defScope sTake) :=
  ⟨rfl, rfl, rfl, by decide +kernel, rfl, by decide +kernel, by decide +kernel⟩
section
variable {P : Program} {w : World} {K : PySem.W.Frag} {mg : Str → Option Value} {base : Heap} {f : Addr} {fd : FuncData}
theorem ok_take (F : Fun K "_law_take" "_law_take" sTake f fd) : FnOk P w K mg base CX0 1 f fd ["_law_feed_here", "_law_many"] spTake := by
  refine F.ok scTake (fun vs H Q E h => ?_) (fun cdv A outer s H vs Q E hr h => ?_)
  · obtain ⟨p, m, S, rfl, _⟩ := h
    rfl
  obtain ⟨p, m, S, rfl, ⟨g, x, n, ep, n0, nS⟩, m0, m1, hS, q⟩ := h
  have nd := scTake.nd
  refine ⟨_, pss_cons (ps_if (pt_cmpR op_gt (pe_ix ix_list (pv 0) pe_int (fun _ _ => rfl)) pe_int (nomark _))
      (pss_cons (ps_set (i := 2) nd rfl (.inl rfl) (pe_op op_modN (pe_ix ix_list (pv 0) pe_int (fun _ _ => rfl)) (pv 1)))
      (pss_cons (ps_asg (pe_op op_fdivN (pe_ix ix_list (pv 0) pe_int (fun _ _ => rfl)) (pv 1)) (pg_sub (pv 0) pe_int set_list))
      (pss_one (ps_ret (pv 2))))) pss_nil)
    (pss_cons (ps_set (i := 3) nd rfl (.inl rfl) (pe_op op_add (pe_ix ix_list (pv 0) pe_int (fun _ _ => rfl)) pe_int))
    (pss_cons (ps_asg (pv 3) (pg_sub (pv 0) pe_int set_list))
    (pss_cons (ps_set (i := 4) nd rfl (.inl rfl) (pe_op op_modN (pe_op op_add (pe_op op_add (pe_ix ix_list (pv 0) pe_int (fun _ _ => rfl))
        (pe_op op_mul (pe_op op_mul pe_int (pv 3)) (pv 3))) (pe_op op_mul pe_int (pv 3))) pe_int))
    (pss_cons (ps_set (i := 4) nd rfl (.inl rfl) (pe_op op_modN (pe_op op_add (pe_op op_add (pe_op op_mul (pv 4) (pv 4))
        (pe_op op_mul pe_int (pv 4))) (pv 3)) pe_int))
    (pss_cons (ps_set (i := 4) nd rfl (.inl rfl) (pe_op op_modN (pe_op op_add (pe_op op_mul (pv 4) (pv 4)) (pe_op op_mul pe_int (pv 4))) pe_int))
    (pss_one (ps_ret (pe_op op_modN (pe_op op_fdivN (pv 4) pe_int) (pv 1))))))))), ?_⟩
  have L : SqL K H p [.int g, .int x, .int n] := SqL.of ep
  refine ⟨_, rfl, p, _, 0, .int g, rfl, rfl, L, atI_nat (j := 0) rfl, g, 0, rfl, rfl, _, rfl, ite2 (fun c => ?_) (fun c => ?_)⟩
  · refine ⟨_, rfl, p, _, 0, .int g, rfl, rfl, L, atI_nat (j := 0) rfl, _, rfl, g, m, rfl, rfl, by omega, ?_⟩
    refine ⟨_, rfl, p, _, 0, .int g, rfl, rfl, L, atI_nat (j := 0) rfl, _, rfl, g, m, rfl, rfl, ⟨by omega, by omega⟩, ?_⟩
    refine ⟨_, rfl, p, _, 0, 0, rfl, rfl, ep, rfl, ?_⟩
    refine ⟨_, rfl, ?_⟩
    obtain ⟨r0, r1⟩ := fmod_in g m0
    exact q _ _ r0 r1 (Feed.here (by omega) (by omega)) .at
  · refine ⟨_, rfl, p, _, 2, .int n, rfl, rfl, L, atI_nat (j := 2) rfl, n, 1, rfl, rfl, ?_⟩
    refine ⟨_, rfl, _, rfl, p, _, 2, 2, rfl, rfl, ep, rfl, ?_⟩
    have L2 : SqL K (upd H p (.lst [.int g, .int x, .int (n + 1)])) p [.int g, .int x, .int (n + 1)] := SqL.of upd_same
    refine ⟨_, rfl, p, _, 1, .int x, rfl, rfl, L2, atI_nat (j := 1) rfl, _, rfl, _, _, rfl, rfl, .inl ⟨by omega, by omega⟩, _, rfl, _, _, rfl, rfl, .inr ⟨by omega, by omega⟩, _, _, rfl, rfl,
      _, rfl, _, _, rfl, rfl, .inl ⟨by omega, by omega⟩, _, _, rfl, rfl, _, _, rfl, rfl, by omega, ?_⟩
    obtain ⟨a0, a1⟩ := fmod_in (x + 40692 * (n + 1) * (n + 1) + 69621 * (n + 1)) (b := 2147483647) (by omega)
    dsimp only
    generalize (x + 40692 * (n + 1) * (n + 1) + 69621 * (n + 1)).fmod 2147483647 = m1 at a0 a1 ⊢
    refine ⟨_, rfl, _, rfl, m1, m1, rfl, rfl, .inl ⟨by omega, by omega⟩, _, rfl, _, m1, rfl, rfl, .inl ⟨by omega, by omega⟩, _, _, rfl, rfl, _, rfl, _, _, rfl, rfl, _, _, rfl, rfl, by omega, ?_⟩
    obtain ⟨b0, b1⟩ := fmod_in (m1 * m1 + 39373 * m1 + (n + 1)) (b := 2147483579) (by omega)
    dsimp only
    generalize (m1 * m1 + 39373 * m1 + (n + 1)).fmod 2147483579 = m2 at b0 b1 ⊢
    refine ⟨_, rfl, _, rfl, m2, m2, rfl, rfl, .inl ⟨by omega, by omega⟩, _, rfl, _, m2, rfl, rfl, .inl ⟨by omega, by omega⟩, _, _, rfl, rfl, _, _, rfl, rfl, by omega, ?_⟩
    obtain ⟨c0, c1⟩ := fmod_in (m2 * m2 + 16807 * m2) (b := 2147483549) (by omega)
    dsimp only
    generalize (m2 * m2 + 16807 * m2).fmod 2147483549 = m3 at c0 c1 ⊢
    refine ⟨_, rfl, m3, 64, rfl, rfl, ⟨by omega, by omega⟩, _, rfl, _, m, rfl, rfl, by omega, ?_⟩
    obtain ⟨d0, d1⟩ := fmod_in (m3.fdiv 64) m0
    exact q _ _ d0 d1 (Feed.here (by omega) (by omega)) .at

/-- the seed of turn k -/
def spFeed (K : PySem.W.Frag) : Sp := fun vs H Q _ => ∃ (a : Addr) (ns : List Int) (k : Int), vs = [.ref a, .int k] ∧ SqL K H a (ns.map V.int) ∧
  0 ≤ k ∧ k ≤ 1000 ∧ ∀ (p : Addr) (fs : List V), H p = none → Feed (upd H p (.lst fs)) p 0 → Q (.ref p) (upd H p (.lst fs))
theorem ok_feed (F : Fun K "_law_feed" "_law_feed" sFeed f fd) (ml : mg "len" = none) (ma : mg "abs" = none) :
    FnOk P w K mg base CX0 1 f fd ["_law_script", "_law_k"] (spFeed K) := by
  refine F.ok scFeed (fun vs H Q E h => ?_) (fun cdv A outer s H vs Q E hr h => ?_)
  · obtain ⟨a, ns, k, rfl, _⟩ := h
    rfl
  obtain ⟨a, ns, k, rfl, hS, k0, k1, q⟩ := h
  have nd := scFeed.nd
  refine ⟨_, pss_cons (ps_set (i := 2) nd rfl (.inl rfl) pe_int)
    (C8.pss_cut (ps_if (pt_cmpR op_lt (pv 1) (pe_callB call_len_seq (by rfl) ml PySem.boot_len (pa_cons (pv 0) pa_nil)) (nomark _))
      (pss_one (ps_set (i := 2) nd rfl (.inl rfl) (pe_ix ix_list (pv 0) (pv 1) (fun _ _ => rfl)))) pss_nil)
    (pss_cons (ps_set (i := 3) nd rfl (.inl rfl) (pe_callB call_abs (by rfl) ma (by decide +kernel) (pa_cons (pv 2) pa_nil)))
    (C8.pss_cut (ps_if (pt_cmpR op_lt (pv 3) (pe_op op_pow pe_int pe_int) (nomark _))
      (pss_one (ps_set (i := 3) nd rfl (.inl rfl) pe_int)) pss_nil)
    (pss_one (ps_ret (pe_lst (pa_cons (pv 3) (pa_cons (pe_op op_modN (pe_op op_add (pe_op op_add (pe_op op_mul (pe_op op_modN (pv 2) pe_int) pe_int)
        (pe_op op_mul pe_int (pv 1))) pe_int) pe_int) (pa_cons pe_int pa_nil))))))))), ?_⟩
  refine ⟨fun σ' H' => H' = H ∧ ∃ c : Int, σ' = [some (.ref a), some (.int k), some (.int c), none], ?_, ?_⟩
  · refine ⟨_, rfl, _, rfl, a, _, rfl, .inl hS, _, _, rfl, rfl, _, rfl, ite2 (fun e => ?_) (fun e => ?_)⟩
    · have e' : k < ((ns.map V.int).length : Int) := of_decide_eq_true e
      rw [List.length_map] at e'
      have h2 : k.toNat < ns.length := by omega
      have g : atI (ns.map V.int) ((k.toNat : Nat) : Int) = some (.int ns[k.toNat]) :=
        atI_nat (by rw [List.getElem?_map, List.getElem?_eq_getElem h2] <;> rfl)
      rw [show ((k.toNat : Nat) : Int) = k by omega] at g
      exact ⟨_, rfl, _, rfl, a, _, k, _, rfl, rfl, hS, g, rfl, _, rfl⟩
    · exact ⟨rfl, _, rfl⟩
  rintro σ' H' ⟨rfl, c, rfl⟩
  refine ⟨_, rfl, c, rfl, ?_⟩
  refine ⟨fun σ' H2 => H2 = H' ∧ ∃ b : Int, σ' = [some (.ref a), some (.int k), some (.int c), some (.int b)], ?_, ?_⟩
  · refine ⟨_, rfl, 10, 18, rfl, rfl, ⟨by decide, by decide, by decide⟩, _, _, rfl, rfl, _, rfl, ite2 (fun e => ?_) (fun e => ?_)⟩
    · exact ⟨rfl, _, rfl⟩
    · exact ⟨rfl, _, rfl⟩
  rintro σ' H2 ⟨rfl, b, rfl⟩
  obtain ⟨a0, a1⟩ := fmod_in c (b := 2147483423) (by omega)
  refine ⟨_, rfl, _, rfl, c, _, rfl, rfl, by omega, _, _, rfl, rfl, .inl ⟨by omega, by omega⟩, _, rfl, _, k, rfl, rfl, .inl ⟨by omega, by omega⟩, _, _, rfl, rfl,
    _, _, rfl, rfl, _, _, rfl, rfl, by omega, (by show 3 ≤ sizeLine; decide), fun p hp => ?_⟩
  exact q p _ hp (Feed.here (by omega) (by omega))
end
end K02
end

section
set_option Elab.async false
set_option linter.all false
set_option maxRecDepth 100000
set_option maxHeartbeats 4000000
namespace K02
open PySem PySem.Spec PyProof.Rows L2 Gd

/-! what a part is, by its data -/
def isLab (x : Str) : Bool := decide (1 ≤ x.length) && decide (x.length ≤ 8) && x.cps.toList.all (fun c => decide (c ∈ ("abcdefghijklmnopqrstuvwxyz" : Str).cps.toList))
def isLabD : PyData → Bool
  | .str x => isLab x
  | _ => false
def isNum : PyData → Bool
  | .int i => decide (-(10 ^ 30 : Int) < i) && decide (i < 10 ^ 30)
  | _ => false
def isWor : PyData → Bool
  | .none => true
  | d => isNum d
def signs : List Str := ["plus", "less", "times", "over"]
def cnt : Nat → PyData → Nat
  | 0, _ => 0
  | k + 1, .tuple ds => match ds with
    | [w, n] => if isStr w "number" && isNum n then 1 else 0
    | [w, x, y] =>
      if isStr w "cell" then (if isLabD x && isLabD y then 1 else 0)
      else if signs.any (isStr w) then (if decide (0 < cnt k x) && decide (0 < cnt k y) then 1 + cnt k x + cnt k y else 0) else 0
    | _ => 0
  | _ + 1, _ => 0
def isPart (d : PyData) : Bool := decide (1 ≤ cnt 5 d) && decide (cnt 5 d ≤ 15)

/-! sizes -/
mutual
def okD (k : Nat) : PyData → Bool
  | .none => true
  | .bool _ => true
  | .int i => decide (i.natAbs ≤ 10 ^ 64 + k)
  | .str x => decide (x.length ≤ 100 + k) && x.cps.toList.all (fun c => decide (c < 128))
  | .list ds => decide (ds.length ≤ k) && okAll k ds
  | .tuple ds => decide (ds.length ≤ k) && okAll k ds
  | .dict kvs => okKv k kvs
def okAll (k : Nat) : List PyData → Bool
  | [] => true
  | d :: ds => okD k d && okAll k ds
def okKv (k : Nat) : List (PyData × PyData) → Bool
  | [] => true
  | (a, b) :: r => okD k a && okD k b && okKv k r
end
mutual
theorem okD.mono {k m : Nat} (l : k ≤ m) : ∀ d : PyData, okD k d = true → okD m d = true
  | .none, _ => rfl
  | .bool _, _ => rfl
  | .int i, h => by
    simp only [okD, decide_eq_true_eq] at h ⊢
    exact Nat.le_trans h (Nat.add_le_add_left l _)
  | .str x, h => by
    simp only [okD, Bool.and_eq_true, decide_eq_true_eq] at h ⊢
    exact ⟨by omega, h.2⟩
  | .list ds, h => by
    simp only [okD, Bool.and_eq_true, decide_eq_true_eq] at h ⊢
    exact ⟨by omega, okAll.mono l ds h.2⟩
  | .tuple ds, h => by
    simp only [okD, Bool.and_eq_true, decide_eq_true_eq] at h ⊢
    exact ⟨by omega, okAll.mono l ds h.2⟩
  | .dict kvs, h => by
    simp only [okD] at h ⊢
    exact okKv.mono l kvs h
theorem okAll.mono {k m : Nat} (l : k ≤ m) : ∀ ds : List PyData, okAll k ds = true → okAll m ds = true
  | [], _ => rfl
  | d :: ds, h => by
    simp only [okAll, Bool.and_eq_true] at h ⊢
    exact ⟨okD.mono l d h.1, okAll.mono l ds h.2⟩
theorem okKv.mono {k m : Nat} (l : k ≤ m) : ∀ kvs : List (PyData × PyData), okKv k kvs = true → okKv m kvs = true
  | [], _ => rfl
  | (a, b) :: r, h => by
    simp only [okKv, Bool.and_eq_true] at h ⊢
    exact ⟨⟨okD.mono l a h.1.1, okD.mono l b h.1.2⟩, okKv.mono l r h.2⟩
end
theorem int_short {i : Int} {k : Nat} (hk : k ≤ 50) (h : i.natAbs ≤ 10 ^ 64 + k) : (PyData.int i).shown.length ≤ 100 ∧ i.natAbs.log2 < 1920 := by
  have h1 : i.natAbs < 10 ^ 65 := Nat.lt_of_le_of_lt h (Nat.lt_of_le_of_lt (Nat.add_le_add_left hk _) (by decide))
  have h2 : i.natAbs < 2 ^ 1920 := Nat.lt_of_lt_of_le h1 (by decide +kernel)
  refine ⟨?_, ?_⟩
  · have e := int_text_length_le10 (k := 65) (by decide) h1
    have e2 : (PyData.int i).shown.length = (toString i).length := by
      show (Str.ofString (toString i)).length = _
      rw [PySem.ofString_length]
    omega
  · by_cases z : i.natAbs = 0
    · rw [z]; decide
    · exact (Nat.log2_lt z).mpr h2
mutual
theorem okD.short {k : Nat} (hk : k ≤ 50) : ∀ d : PyData, okD k d = true → d.leavesShort 100 = true ∧ d.showable = true
  | .none, _ => ⟨rfl, rfl⟩
  | .bool _, _ => ⟨rfl, rfl⟩
  | .int i, h => by
    simp only [okD, decide_eq_true_eq] at h
    obtain ⟨a, b⟩ := int_short hk h
    refine ⟨?_, ?_⟩
    · simpa only [PyData.leavesShort, decide_eq_true_eq] using a
    · simpa [PyData.showable] using b
  | .str x, h => by
    simp only [okD, Bool.and_eq_true, List.all_eq_true, decide_eq_true_eq] at h
    refine ⟨?_, ?_⟩
    · simp only [PyData.leavesShort, List.all_eq_true, decide_eq_true_eq]
      intro c hc
      exact Nat.lt_of_lt_of_le (h.2 c hc) (by decide)
    · simp [PyData.showable]
  | .list ds, h => by
    simp only [okD, Bool.and_eq_true] at h
    obtain ⟨a, b⟩ := okAll.short hk ds h.2
    exact ⟨by simpa only [PyData.leavesShort] using a, by simpa only [PyData.showable] using b⟩
  | .tuple ds, h => by
    simp only [okD, Bool.and_eq_true] at h
    obtain ⟨a, b⟩ := okAll.short hk ds h.2
    exact ⟨by simpa only [PyData.leavesShort] using a, by simpa only [PyData.showable] using b⟩
  | .dict kvs, h => by
    simp only [okD] at h
    obtain ⟨a, b⟩ := okKv.short hk kvs h
    exact ⟨by simpa only [PyData.leavesShort] using a, by simpa only [PyData.showable] using b⟩
theorem okAll.short {k : Nat} (hk : k ≤ 50) : ∀ ds : List PyData, okAll k ds = true → PyData.leavesShortAll 100 ds = true ∧ PyData.showableAll ds = true
  | [], _ => ⟨rfl, rfl⟩
  | d :: ds, h => by
    simp only [okAll, Bool.and_eq_true] at h
    obtain ⟨a, b⟩ := okD.short hk d h.1
    obtain ⟨a2, b2⟩ := okAll.short hk ds h.2
    exact ⟨by simp only [PyData.leavesShortAll, a, a2, Bool.and_self], by simp only [PyData.showableAll, b, b2, Bool.and_self]⟩
theorem okKv.short {k : Nat} (hk : k ≤ 50) : ∀ kvs : List (PyData × PyData), okKv k kvs = true → PyData.leavesShortKv 100 kvs = true ∧ PyData.showableKv kvs = true
  | [], _ => ⟨rfl, rfl⟩
  | (x, y) :: r, h => by
    simp only [okKv, Bool.and_eq_true] at h
    obtain ⟨a, b⟩ := okD.short hk x h.1.1
    obtain ⟨a1, b1⟩ := okD.short hk y h.1.2
    obtain ⟨a2, b2⟩ := okKv.short hk r h.2
    exact ⟨by simp only [PyData.leavesShortKv, a, a1, a2, Bool.and_self], by simp only [PyData.showableKv, b, b1, b2, Bool.and_self]⟩
end
/-- data of bounded size: k longest, w heaviest, n deepest -/
structure Fit (k w n : Nat) (d : PyData) : Prop where
  ok : okD k d = true
  wt : d.weight ≤ w
  dp : d.depth ≤ n
theorem Fit.mono {k w n k' w' n' : Nat} {d : PyData} (f : Fit k w n d) (hk : k ≤ k') (hw : w ≤ w') (hn : n ≤ n') : Fit k' w' n' d :=
  ⟨okD.mono hk d f.ok, Nat.le_trans f.wt hw, Nat.le_trans f.dp hn⟩
theorem Fit.shown {k w n : Nat} {d : PyData} (f : Fit k w n d) (hk : k ≤ 50) (hw : w ≤ 100000) : d.shown.length ≤ sizeLine ∧ d.showable = true := by
  obtain ⟨a, b⟩ := okD.short hk d f.ok
  have h := PyData.shown_le 100 (by decide) d a
  have hw2 := f.wt
  have z : sizeLine = 16777216 := rfl
  exact ⟨by omega, b⟩
theorem okAll_at {k : Nat} : ∀ {ds : List PyData} {i : Nat} {d : PyData}, okAll k ds = true → ds[i]? = some d → okD k d = true
  | [], _, _, _, e => by simp at e
  | x :: r, 0, d, o, e => by
    simp only [okAll, Bool.and_eq_true] at o
    cases Option.some.inj e
    exact o.1
  | x :: r, i + 1, d, o, e => by
    simp only [okAll, Bool.and_eq_true] at o
    exact okAll_at (i := i) o.2 e
def isT : PyData → Bool
  | .tuple _ => true
  | _ => false
theorem cnt_two {k : Nat} {w n : PyData} : cnt (k + 1) (.tuple [w, n]) = if isStr w "number" && isNum n then 1 else 0 := rfl
theorem cnt_three {k : Nat} {w x y : PyData} : cnt (k + 1) (.tuple [w, x, y]) = if isStr w "cell" then (if isLabD x && isLabD y then 1 else 0)
      else if signs.any (isStr w) then (if decide (0 < cnt k x) && decide (0 < cnt k y) then 1 + cnt k x + cnt k y else 0) else 0 := rfl
end K02
end

section
set_option Elab.async false
set_option linter.all false
set_option maxRecDepth 100000
set_option maxHeartbeats 4000000
namespace K02
open PySem PySem.Spec PyProof.Rows L2 Gd
abbrev sLabel : Stmt := topS 8
abbrev sNum : Stmt := topS 9
theorem scLabel : FnScope ["_law_feed_here", "_law_letters", "_law_words", "_law_size", "_law_spelt", "_law_k"] ["_law_feed_here"] (defScope sLabel) :=
  ⟨rfl, rfl, rfl, by decide +kernel, rfl, by decide +kernel, by decide +kernel⟩
theorem scNum : FnScope ["_law_feed_here", "_law_far", "_law_some"] ["_law_feed_here"] (defScope sNum) :=
  ⟨rfl, rfl, rfl, by decide +kernel, rfl, by decide +kernel, by decide +kernel⟩
def spNum : Sp := fun vs H Q _ => ∃ (p : Addr) (S : Int), vs = [.ref p] ∧ Feed H p S ∧ S ≤ 100000000 ∧
  ∀ (i : Int) (H' : Hp), Ex1 p H H' → Feed H' p (S + 2) → isNum (.int i) = true → Q (.int i) H'
def spLabel : Sp := fun vs H Q _ => ∃ (p : Addr) (S : Int), vs = [.ref p] ∧ Feed H p S ∧ S ≤ 100000000 ∧
  ∀ (x : Str) (H' : Hp), Ex1 p H H' → Feed H' p (S + 10) → isLab x = true → Q (.str x) H'
theorem join_singles : ∀ cs : List Nat, TL.joinL [] (cs.map fun c => [c]) = cs
  | [] => rfl
  | [c] => rfl
  | c :: d :: r => by
    show [c] ++ ([] ++ TL.joinL [] ((d :: r).map fun c => [c])) = _
    rw [join_singles (d :: r)] <;> rfl
theorem lab_spelt {cs : List Nat} (h : ∀ c ∈ cs, c ∈ ("abcdefghijklmnopqrstuvwxyz" : Str).cps.toList) (h1 : 1 ≤ cs.length) (h8 : cs.length ≤ 8) :
    isLab (Txt.join "" (cs.map fun c => (⟨#[c]⟩ : Str))) = true := by
  have e : (Txt.join "" (cs.map fun c => (⟨#[c]⟩ : Str))).cps.toList = cs := by
    rw [TL.join_eq]
    have z := TL.tl_join "" (cs.map fun c => (⟨#[c]⟩ : Str))
    rw [List.map_map] at z
    exact z.trans (join_singles cs)
  have el : (Txt.join "" (cs.map fun c => (⟨#[c]⟩ : Str))).length = cs.length := by
    show (Txt.join "" (cs.map fun c => (⟨#[c]⟩ : Str))).cps.size = _
    rw [← Array.length_toList, e]
  unfold isLab
  rw [e, el, decide_eq_true h1, decide_eq_true h8, Bool.true_and, Bool.true_and]
  exact List.all_eq_true.mpr fun c hc => decide_eq_true (h c hc)
def labs : List Str := ["a", "b", "cell", "number", "plus", "over", "lacking", "abcdefgh", "zzzzzzzz", "none"]
theorem labs_ok : ∀ x ∈ labs, isLab x = true := by decide +kernel
theorem numOk {i : Int} (h1 : -1000000000000000000000000000000 < i) (h2 : i < 1000000000000000000000000000000) : isNum (.int i) = true := by
  show (decide (-(10 ^ 30 : Int) < i) && decide (i < 10 ^ 30)) = true
  rw [decide_eq_true (show -(10 ^ 30 : Int) < i by omega), decide_eq_true (show i < (10 ^ 30 : Int) by omega)] <;> rfl
def numsOf (r : Int) : List Int := [0, 1, -1, 2, r, 0 - r, 10 ^ 30 - 1 - r, r + 1 - 10 ^ 30, 7 - r.fmod 15, r.fmod 4]
theorem nums_ok {r : Int} (h0 : 0 ≤ r) (h1 : r < 1000000) : ∀ i ∈ numsOf r, isNum (.int i) = true := by
  obtain ⟨a0, a1⟩ := fmod_in r (b := 15) (by omega)
  obtain ⟨b0, b1⟩ := fmod_in r (b := 4) (by omega)
  intro i hi
  simp only [numsOf, List.mem_cons, List.not_mem_nil, or_false] at hi
  rcases hi with rfl | rfl | rfl | rfl | rfl | rfl | rfl | rfl | rfl | rfl
  all_goals exact numOk (by omega) (by omega)
theorem at_map {α : Type} {f : α → V} {xs : List α} {r : Int} (h0 : 0 ≤ r) (h1 : r < xs.length) : ∃ x, x ∈ xs ∧ atI (xs.map f) r = some (f x) := by
  have h2 : r.toNat < xs.length := by omega
  refine ⟨xs[r.toNat], List.getElem_mem h2, ?_⟩
  have e : ((r.toNat : Nat) : Int) = r := by omega
  have z : atI (xs.map f) ((r.toNat : Nat) : Int) = some (f xs[r.toNat]) := atI_nat (by rw [List.getElem?_map, List.getElem?_eq_getElem h2] <;> rfl)
  rw [e] at z
  exact z
section
variable {P : Program} {w : World} {K : PySem.W.Frag} {mg : Str → Option Value} {base : Heap} {f fT : Addr} {fd fdT : FuncData}
theorem ok_num (F : Fun K "_law_number" "_law_number" sNum f fd) (FT : Fun K "_law_take" "_law_take" sTake fT fdT)
    (bT : Binds K fdT ["_law_feed_here", "_law_many"] []) (gT : mg "_law_take" = some (.ref fT)) :
    FnOk P w K mg base CX0 2 f fd ["_law_feed_here"] spNum := by
  have G : FnOk P w K mg base CX0 1 fT fdT ["_law_feed_here", "_law_many"] spTake := ok_take FT
  refine F.ok scNum (fun vs H Q E h => ?_) (fun cdv A outer s H vs Q E hr h => ?_)
  · obtain ⟨p, S, rfl, _⟩ := h
    rfl
  obtain ⟨p, S, rfl, hF, hS, q⟩ := h
  have nd := scNum.nd
  refine ⟨_, pss_cons (ps_set (i := 1) nd rfl (.inl rfl) (pe_call G hr (by rfl) gT FT.kp bT .nil pass0 (pa_cons (pv 0) (pa_cons (pe_op op_pow pe_int pe_int) pa_nil))))
    (pss_cons (ps_set (i := 2) nd rfl (.inl rfl) (pe_lst (pa_cons pe_int (pa_cons pe_int (pa_cons (pe_un un_neg pe_int) (pa_cons pe_int (pa_cons (pv 1) (pa_cons (pe_op op_sub pe_int (pv 1))
        (pa_cons (pe_op op_sub (pe_op op_sub (pe_op op_pow pe_int pe_int) pe_int) (pv 1)) (pa_cons (pe_op op_sub (pe_op op_add (pv 1) pe_int) (pe_op op_pow pe_int pe_int))
        (pa_cons (pe_op op_sub pe_int (pe_op op_modN (pv 1) pe_int)) (pa_cons (pe_op op_modN (pv 1) pe_int) pa_nil))))))))))))
    (pss_one (ps_ret (pe_ix ix_list (pv 2) (pe_call G hr (by rfl) gT FT.kp bT .nil pass0 (pa_cons (pv 0) (pa_cons pe_int pa_nil))) (fun _ _ => rfl))))), ?_⟩
  refine ⟨_, rfl, 10, 6, rfl, rfl, ⟨by decide, by decide, by decide⟩, p, _, S, rfl, hF, by decide, by decide, by omega, fun r H1 r0 r1 hF1 x1 => ?_⟩
  have r1 : r < 1000000 := r1
  refine ⟨_, rfl, _, rfl, _, rfl, _, _, rfl, rfl, ?_⟩
  refine ⟨10, 30, rfl, rfl, ⟨by decide, by decide, by decide⟩, _, _, rfl, rfl, _, rfl, _, _, rfl, rfl, ?_⟩
  refine ⟨_, rfl, _, _, rfl, rfl, 10, 30, rfl, rfl, ⟨by decide, by decide, by decide⟩, _, _, rfl, rfl, ?_⟩
  refine ⟨_, rfl, _, _, rfl, rfl, by show (15 : Int) ≠ 0; decide, _, _, rfl, rfl, ?_⟩
  refine ⟨_, rfl, _, _, rfl, rfl, by show (4 : Int) ≠ 0; decide, ?_⟩
  refine ⟨(by show 10 ≤ sizeLine; decide), fun L hL => ?_⟩
  have hL2 : H1 L = none := hL
  refine ⟨_, rfl, _, rfl, p, 10, S + 1, rfl, hF1.stays hL2, by omega, by omega, by omega, fun r2 H2 a0 a1 hF2 x2 => ?_⟩
  have eL := x2 L _ (hF1.ne hL2) upd_same
  obtain ⟨i, hi, ea⟩ := at_map (f := V.int) (xs := numsOf r) (r := r2) a0 a1
  refine ⟨L, _, r2, .int i, rfl, rfl, SqL.of eL, ea, ?_⟩
  refine q i H2 (x1.trans ((Ex1.new hL2).trans x2)) ?_ (nums_ok r0 r1 i hi)
  exact hF2.le (by omega)
theorem ok_label (F : Fun K "_law_label" "_law_label" sLabel f fd) (FT : Fun K "_law_take" "_law_take" sTake fT fdT)
    (bT : Binds K fdT ["_law_feed_here", "_law_many"] []) (gT : mg "_law_take" = some (.ref fT)) (mr : mg "range" = none) :
    FnOk P w K mg base CX0 2 f fd ["_law_feed_here"] spLabel := by
  have G : FnOk P w K mg base CX0 1 fT fdT ["_law_feed_here", "_law_many"] spTake := ok_take FT
  refine F.ok scLabel (fun vs H Q E h => ?_) (fun cdv A outer s H vs Q E hr h => ?_)
  · obtain ⟨p, S, rfl, _⟩ := h
    rfl
  obtain ⟨p, S, rfl, hF, hS, q⟩ := h
  have nd := scLabel.nd
  refine ⟨_, pss_cons (ps_set (i := 1) nd rfl (.inr rfl) pe_str)
    (pss_cons (ps_set (i := 2) nd rfl (.inl rfl) (pe_lst (pa_cons pe_str (pa_cons pe_str (pa_cons pe_str (pa_cons pe_str (pa_cons pe_str (pa_cons pe_str (pa_cons pe_str (pa_cons pe_str (pa_cons pe_str (pa_cons pe_str pa_nil))))))))))))
    (pss_cons (ps_set (i := 3) nd rfl (.inl rfl) (pe_ix ix_list (pe_lst (pa_cons pe_int (pa_cons pe_int (pa_cons pe_int (pa_cons pe_int pa_nil)))))
        (pe_call G hr (by rfl) gT FT.kp bT .nil pass0 (pa_cons (pv 0) (pa_cons pe_int pa_nil))) (fun _ _ => rfl)))
    (pss_cons (ps_set (i := 4) nd rfl (.inl rfl) (pe_join pe_str (pe_lc (own := [("_law_k", 5)]) (g := gName 5) (tt := tYes) rfl nd (pi_range1 (by rfl) mr (pa_cons (pv 3) pa_nil))
        (blkOk_by (N := ["_law_feed_here", "_law_letters", "_law_words", "_law_size", "_law_spelt", "_law_k"]) (sc := defScope sLabel) (by decide +kernel))
        (fun _ _ _ _ _ => pg_name (i := 5) nd rfl (Or.inl rfl)) (fun _ _ _ _ _ => pts_nil)
        (fun _ _ _ _ _ => pe_ix ix_str (pv 1) (pe_call G hr (by rfl) gT FT.kp bT .nil pass0 (pa_cons (pv 0) (pa_cons pe_int pa_nil))) (fun _ _ => rfl)))))
    (pss_one (ps_ret (pe_ix ix_list (pe_op op_cat (pv 2) (pe_lst (pa_cons (pv 4) (pa_cons (pv 4) pa_nil))))
        (pe_call G hr (by rfl) gT FT.kp bT .nil pass0 (pa_cons (pv 0) (pa_cons pe_int pa_nil))) (fun _ _ => rfl))))))), ?_⟩
  refine ⟨(by show 10 ≤ sizeLine; decide), fun w1 hw1 => ?_⟩
  refine ⟨(by show 4 ≤ sizeLine; decide), fun z1 hz1 => ?_⟩
  have F1 := hF.stays (o := .lst (labs.map V.str)) hw1
  have F2 := F1.stays (o := .lst ([1, 1, 2, 8].map V.int)) hz1
  refine ⟨_, rfl, p, 4, S, rfl, F2, by omega, by omega, by omega, fun r H1 r0 r1 hF1 x1 => ?_⟩
  have nw : w1 ≠ p := hF.ne hw1
  have nz : z1 ≠ p := F1.ne hz1
  have ez := x1 z1 _ nz upd_same
  have ew := x1 w1 _ nw (by rw [upd_ne (ne_of_none upd_same hz1)]; exact upd_same)
  have X1 : Ex1 p H H1 := (Ex1.new hw1).trans ((Ex1.new hz1).trans x1)
  obtain ⟨sz, hs, ea⟩ := at_map (f := V.int) (xs := [1, 1, 2, 8]) (r := r) r0 r1
  refine ⟨z1, _, r, .int sz, rfl, rfl, SqL.of ez, ea, ?_⟩
  have szb : 1 ≤ sz ∧ sz ≤ 8 := by
    simp only [List.mem_cons, List.not_mem_nil, or_false] at hs
    rcases hs with rfl | rfl | rfl | rfl <;> omega
  let al : List Nat := ("abcdefghijklmnopqrstuvwxyz" : Str).cps.toList
  refine ⟨⟨_, rfl⟩, _, rfl, sz, rfl, by omega, by omega, fun D hD => ?_⟩
  refine lc_range (lo := 0) (n := sz.toNat) (fun i H' => Ex1 p H1 H' ∧ Feed H' p (S + 1 + i) ∧ ∃ cs : List Nat, cs.length = i ∧ (∀ c ∈ cs, c ∈ al) ∧
      H' D = some (.lst ((cs.map fun c => (⟨#[c]⟩ : Str)).map V.str))) ?_ ?_ ?_
  · refine ⟨Ex1.new hD, (hF1.stays hD).le (by omega), [], rfl, nofun, upd_same⟩
  · rintro i H' hi ⟨x2, F', cs, lc, hc, eD⟩
    refine ⟨rfl, ?_⟩
    unfold tYes
    dsimp only
    rw [if_pos rfl]
    refine ⟨_, rfl, _, rfl, p, 26, S + 1 + i, rfl, F', by omega, by omega, by omega, fun r2 H3 a0 a1 hF3 x3 => ?_⟩
    have a2 : r2.toNat < al.length := by
      have : al.length = 26 := rfl
      omega
    have e26 : ((r2.toNat : Nat) : Int) = r2 := by omega
    have ec : atI al r2 = some al[r2.toNat] := by
      have z : atI al ((r2.toNat : Nat) : Int) = some al[r2.toNat] := atI_nat (List.getElem?_eq_getElem a2)
      rw [e26] at z
      exact z
    have nD : D ≠ p := hF1.ne hD
    have eD3 := x3 D _ nD eD
    refine ⟨_, r2, _, rfl, rfl, (by show 26 ≤ 16777216; decide), ec, _, eD3, ?_, ?_⟩
    · rw [List.length_map, List.length_map, lc]
      show i < 16777216
      omega
    · refine ⟨fun b u nb e => ?_, ?_, cs ++ [al[r2.toNat]], by rw [List.length_append, lc]; rfl, fun c hc2 => ?_, ?_⟩
      · rw [upd_ne (ne_of_none e hD)]
        exact x3 _ _ nb (x2 _ _ nb e)
      · obtain ⟨g, x, s, ep, s0, s1⟩ := hF3
        refine ⟨g, x, s, ?_, s0, by omega⟩
        rw [upd_ne nD.symm]
        exact ep
      · rcases List.mem_append.mp hc2 with h | h
        · exact hc c h
        · rw [List.mem_singleton.mp h]
          exact List.getElem_mem a2
      · rw [List.map_append, List.map_append]
        exact upd_same
  · rintro H2 ⟨x2, F2', cs, lc, hc, eD⟩
    have lb : isLab (Txt.join "" (cs.map fun c => (⟨#[c]⟩ : Str))) = true := lab_spelt hc (by omega) (by omega)
    refine ⟨_, D, cs.map fun c => (⟨#[c]⟩ : Str), rfl, rfl, .inl (SqL.of eD), ?_, ?_⟩
    · have z : ∀ cs : List Nat, ((cs.map fun c => (⟨#[c]⟩ : Str)).map (·.length)).sum = cs.length := by
        intro cs
        induction cs with
        | nil => rfl
        | cons c r ih =>
          simp only [List.map_cons, List.sum_cons, List.length_cons, ih]
          show 1 + r.length = _
          omega
      rw [z, List.length_map]
      show cs.length + cs.length * 0 ≤ 16777216
      omega
    generalize Txt.join "" (cs.map fun c => (⟨#[c]⟩ : Str)) = sp at *
    have ew2 := x2 w1 _ nw ew
    refine ⟨_, rfl, _, rfl, _, rfl, (by show 2 ≤ sizeLine; decide), fun b1 hb1 => ?_⟩
    have ew3 := new_same (o := .lst [.str sp, .str sp]) hb1 _ _ ew2
    refine ⟨w1, b1, _, _, rfl, rfl, ew3, upd_same, (by show 12 ≤ sizeLine; decide), fun c1 hc1 => ?_⟩
    have F3 := F2'.stays (o := .lst [.str sp, .str sp]) hb1
    have F4 := F3.stays (o := .lst ((labs ++ [sp, sp]).map V.str)) hc1
    refine ⟨_, rfl, p, 12, _, rfl, F4, by omega, by omega, by omega, fun r3 H5 a0 a1 hF5 x5 => ?_⟩
    have e5 := x5 c1 _ (F3.ne hc1) upd_same
    obtain ⟨x, hx, ex⟩ := at_map (f := V.str) (xs := labs ++ [sp, sp]) (r := r3) a0 a1
    refine ⟨c1, _, r3, .str x, rfl, rfl, SqL.of e5, ex, ?_⟩
    refine q x H5 (X1.trans (x2.trans ((Ex1.new hb1).trans ((Ex1.new hc1).trans x5)))) (hF5.le (by omega)) ?_
    rcases List.mem_append.mp hx with h | h
    · exact labs_ok x h
    · simp only [List.mem_cons, List.not_mem_nil, or_false] at h
      rcases h with rfl | rfl <;> exact lb
end
end K02
end

section
set_option Elab.async false
set_option linter.all false
set_option maxRecDepth 100000
set_option maxHeartbeats 4000000
namespace K02
open PySem PySem.Spec PyProof.Rows L2 Gd
abbrev sPiece : Stmt := topS 10
theorem scPiece : FnScope ["_law_feed_here", "_law_deep", "_law_room", "_law_way", "_law_one"] ["_law_feed_here", "_law_deep", "_law_room"] (defScope sPiece) :=
  ⟨rfl, rfl, rfl, by decide +kernel, rfl, by decide +kernel, by decide +kernel⟩
/-- all is as it was, but at p and at q -/
def Ex2 (p q : Addr) (H H' : Hp) : Prop := ∀ a o, a ≠ p → a ≠ q → H a = some o → H' a = some o
theorem Ex2.trans {p q : Addr} {H H1 H2 : Hp} (a : Ex2 p q H H1) (b : Ex2 p q H1 H2) : Ex2 p q H H2 := fun x o n m h => b x o n m (a x o n m h)
theorem Ex1.two {p q : Addr} {H H1 : Hp} (a : Ex1 p H H1) : Ex2 p q H H1 := fun x o n _ h => a x o n h
theorem Ex2.at2 {p q : Addr} {H : Hp} {o : HO} : Ex2 p q H (upd H q o) := fun a u _ n e => by
  rw [upd_ne n]
  exact e
theorem Ex2.tups {K : PySem.W.Frag} {p q : Addr} {H H1 : Hp} {xs ys : List V} (a : Ex2 p q H H1) (hp : H p = some (.lst xs)) (hq : H q = some (.lst ys)) : Tups K H H1 := by
  intro t zs h
  rcases h with (h | ⟨o, h⟩) | h
  · exact .inl (.inl (a _ _ (fun z => by rw [z, hp] at h; cases h) (fun z => by rw [z, hq] at h; cases h) h))
  · exact .inl (.inr ⟨o, a _ _ (fun z => by rw [z, hp] at h; cases h) (fun z => by rw [z, hq] at h; cases h) h⟩)
  · exact .inr h
/-- a part of c parts, n deep -/
structure Pc (n c : Nat) (d : PyData) : Prop where
  tup : tupOnly d = true
  cnt : K02.cnt n d = c
  pos : 1 ≤ c
  ok : okD 9 d = true
  wt : d.weight ≤ 150 * c
  dp : d.depth ≤ n
  isT : isT d = true
def room (n : Nat) : Int := 64 * 2 ^ n - 2
def spPiece (K : PySem.W.Frag) (n : Nat) : Sp := fun vs H Q _ => ∃ (p q : Addr) (dp S r : Int), vs = [.ref p, .int dp, .ref q] ∧ dp = n ∧ 1 ≤ n ∧ n ≤ 9 ∧ q ≠ p ∧ Feed H p S ∧ S + room n ≤ 10000000 ∧
  H q = some (.lst [.int r]) ∧ 1 ≤ r ∧ r ≤ 100 ∧
  ∀ (v : V) (d : PyData) (c : Nat) (H' : Hp), Ex2 p q H H' → Feed H' p (S + room n) → H' q = some (.lst [.int (r - c)]) → Dp K H' v d → Pc n c d → c ≤ r → Q v H'
theorem isLab_ascii {x : Str} (h : isLab x = true) : x.length ≤ 8 ∧ x.cps.toList.all (fun c => decide (c < 128)) = true := by
  unfold isLab at h
  simp only [Bool.and_eq_true, decide_eq_true_eq, List.all_eq_true] at h
  refine ⟨h.1.2, List.all_eq_true.mpr fun c hc => decide_eq_true ?_⟩
  have z := h.2 c hc
  have all : ∀ c ∈ ("abcdefghijklmnopqrstuvwxyz" : Str).cps.toList, c < 128 := by decide +kernel
  exact all c z
theorem okD_str {k : Nat} {x : Str} (h : isLab x = true) : okD k (.str x) = true := by
  obtain ⟨a, b⟩ := isLab_ascii h
  simp only [okD, Bool.and_eq_true, decide_eq_true_eq]
  exact ⟨by omega, b⟩
theorem num_ok {k : Nat} {i : Int} (h : isNum (.int i) = true) : okD k (.int i) = true ∧ (PyData.int i).weight ≤ 100 := by
  have h : (decide (-(10 ^ 30 : Int) < i) && decide (i < 10 ^ 30)) = true := h
  simp only [Bool.and_eq_true, decide_eq_true_eq] at h
  have n : i.natAbs < 10 ^ 30 := by omega
  refine ⟨?_, ?_⟩
  · simp only [okD, decide_eq_true_eq]
    exact Nat.le_trans (Nat.le_of_lt (Nat.lt_of_lt_of_le n (by decide))) (Nat.le_add_right _ _)
  · simp only [PyData.weight]
    split
    · omega
    · rename_i z
      have z : i.natAbs ≠ 0 := by
        intro e
        exact z (by rw [Int.natAbs_eq_zero.mp e] <;> rfl)
      have : i.natAbs.log2 < 100 := (Nat.log2_lt z).mpr (Nat.lt_of_lt_of_le n (by decide +kernel))
      omega
theorem sign_ok {x : Str} (h : x ∈ signs) : isStr (.str x) "cell" = false ∧ signs.any (isStr (.str x)) = true ∧ isLab x = true := by
  have all : ∀ x ∈ signs, isStr (.str x) "cell" = false ∧ signs.any (isStr (.str x)) = true ∧ isLab x = true := by decide +kernel
  exact all x h
theorem wt_str {x : Str} : (PyData.str x).weight = x.length := by
  simp only [PyData.weight]
  rfl
theorem pc_cell {n : Nat} {x y : Str} (hx : isLab x = true) (hy : isLab y = true) : Pc (n + 1) 1 (.tuple [.str "cell", .str x, .str y]) := by
  obtain ⟨ax, _⟩ := isLab_ascii hx
  obtain ⟨ay, _⟩ := isLab_ascii hy
  have hc : isLab "cell" = true := by decide +kernel
  refine ⟨by simp [tupOnly, tupOnlyAll], ?_, by omega, ?_, ?_, ?_, rfl⟩
  · rw [cnt_three, show isStr (.str "cell") "cell" = true by decide +kernel, if_pos rfl]
    show (if (isLab x && isLab y) = true then 1 else 0) = 1
    rw [hx, hy] <;> rfl
  · have e : okAll 9 [.str "cell", .str x, .str y] = true := by
      unfold okAll okAll okAll okAll
      rw [okD_str hc, okD_str hx, okD_str hy] <;> rfl
    unfold okD
    rw [e]
    rfl
  · have e : (PyData.tuple [.str "cell", .str x, .str y]).weight = 4 + 1 + (x.length + 1 + (y.length + 1 + 0)) := by
      simp only [PyData.weight, PyData.weightAll]
      rfl
    omega
  · simp only [PyData.depth, PyData.depthAll]
    omega
theorem pc_num {n : Nat} {i : Int} (h : isNum (.int i) = true) : Pc (n + 1) 1 (.tuple [.str "number", .int i]) := by
  have hc : isLab "number" = true := by decide +kernel
  obtain ⟨o, w⟩ := num_ok (k := 9) h
  refine ⟨by simp [tupOnly, tupOnlyAll], ?_, by omega, ?_, ?_, ?_, rfl⟩
  · rw [cnt_two, show isStr (.str "number") "number" = true by decide +kernel, h]
    rfl
  · have e : okAll 9 [.str "number", .int i] = true := by
      unfold okAll okAll okAll
      rw [okD_str hc, o] <;> rfl
    unfold okD
    rw [e]
    rfl
  · have e : (PyData.tuple [.str "number", .int i]).weight = 6 + 1 + ((PyData.int i).weight + 1 + 0) := by
      simp only [PyData.weight, PyData.weightAll]
      rfl
    omega
  · simp only [PyData.depth, PyData.depthAll]
    omega
theorem pc_node {n c1 c2 : Nat} {x : Str} {d e : PyData} (hx : x ∈ signs) (h1 : Pc n c1 d) (h2 : Pc n c2 e) : Pc (n + 1) (1 + c1 + c2) (.tuple [.str x, d, e]) := by
  obtain ⟨s1, s2, s3⟩ := sign_ok hx
  obtain ⟨sl, _⟩ := isLab_ascii s3
  have p1 := h1.pos
  have p2 := h2.pos
  refine ⟨?_, ?_, by omega, ?_, ?_, ?_, rfl⟩
  · simp [tupOnly, tupOnlyAll, h1.tup, h2.tup]
  · rw [cnt_three, s1, if_neg Bool.false_ne_true, s2, if_pos rfl, h1.cnt, h2.cnt, decide_eq_true (by omega), decide_eq_true (by omega)]
    rfl
  · have e : okAll 9 [.str x, d, e] = true := by
      unfold okAll okAll okAll okAll
      rw [okD_str s3, h1.ok, h2.ok] <;> rfl
    unfold okD
    rw [e]
    rfl
  · have w1 := h1.wt
    have w2 := h2.wt
    have e : (PyData.tuple [.str x, d, e]).weight = x.length + 1 + (d.weight + 1 + (e.weight + 1 + 0)) := by
      simp only [PyData.weight, PyData.weightAll]
      rfl
    omega
  · have d1 := h1.dp
    have d2 := h2.dp
    have e : (PyData.tuple [.str x, d, e]).depth = max 0 (max d.depth (max e.depth 0)) + 1 := by
      simp only [PyData.depth, PyData.depthAll]
    omega
theorem leaf_end {K : PySem.W.Frag} {n : Nat} {p : Addr} {S : Int} {Q : VK} {H1 H2 H3 H4 H6 : Hp} {x2 x3 : Str} {t1 t2 lq : Addr} {i4 r6 S3 S4 : Int}
    (leaf : ∀ (v : V) (d : PyData) (H' : Hp), Ex1 p H1 H' → Feed H' p (S + 40) → Dp K H' v d → Pc (n + 1) 1 d → Q v H')
    (y2 : Ex1 p H1 H2) (y3 : Ex1 p H2 H3) (F3 : Feed H3 p S3) (n1 : H3 t1 = none) (y4 : Ex1 p (upd H3 t1 (.tup [.str "cell", .str x2, .str x3])) H4) (F4 : Feed H4 p S4) (n2 : H4 t2 = none)
    (n3 : upd H4 t2 (.tup [.str "number", .int i4]) lq = none)
    (y6 : Ex1 p (upd (upd H4 t2 (.tup [.str "number", .int i4])) lq (.lst [.ref t1, .ref t2])) H6) (a0 : 0 ≤ r6) (a1 : r6 < 3)
    (l2 : isLab x2 = true) (l3 : isLab x3 = true) (l4 : isNum (.int i4) = true) (F6 : Feed H6 p (S + 40)) :
    rIxL K (.ref lq) (.int (r6.fdiv 2)) H6 Q := by
  have k2 := Ex1.new (p := p) (o := .tup [.str "number", .int i4]) n2
  have k3 := Ex1.new (p := p) (o := .lst [.ref t1, .ref t2]) n3
  have yy := k2.trans (k3.trans y6)
  have X : Ex1 p H1 H6 := y2.trans (y3.trans ((Ex1.new n1).trans (y4.trans yy)))
  have el := y6 lq _ ((F4.stays (o := .tup [.str "number", .int i4]) n2).ne n3) upd_same
  have s1 := yy t1 _ (F3.ne n1) (y4 t1 _ (F3.ne n1) upd_same)
  have s2 := (k3.trans y6) t2 _ (F4.ne n2) upd_same
  have r2 : r6.fdiv 2 = 0 ∨ r6.fdiv 2 = 1 := by
    have : r6 = 0 ∨ r6 = 1 ∨ r6 = 2 := by omega
    rcases this with rfl | rfl | rfl
    · exact .inl rfl
    · exact .inl rfl
    · exact .inr rfl
  rcases r2 with e | e
  · exact ⟨lq, _, _, .ref t1, rfl, rfl, SqL.of el, by rw [e]; exact atI_nat (j := 0) rfl,
      leaf _ _ _ X F6 (.tup (SqT.of s1) (.cons (.str _) (.cons (.str _) (.cons (.str _) .nil)))) (pc_cell l2 l3)⟩
  · exact ⟨lq, _, _, .ref t2, rfl, rfl, SqL.of el, by rw [e]; exact atI_nat (j := 1) rfl,
      leaf _ _ _ X F6 (.tup (SqT.of s2) (.cons (.str _) (.cons (.int _) .nil))) (pc_num l4)⟩
section
variable {P : Program} {w : World} {K : PySem.W.Frag} {mg : Str → Option Value} {base : Heap} {f fT fL fM : Addr} {fd fdT fdL fdM : FuncData}
theorem piece_step {n : Nat} (F : Fun K "_law_piece" "_law_piece" sPiece f fd) (G : FnOk P w K mg base CX0 (n + 2) f fd ["_law_feed_here", "_law_deep", "_law_room"] (spPiece K n))
    (b : Binds K fd ["_law_feed_here", "_law_deep", "_law_room"] []) (gF : mg "_law_piece" = some (.ref f))
    (FT : Fun K "_law_take" "_law_take" sTake fT fdT) (bT : Binds K fdT ["_law_feed_here", "_law_many"] []) (gT : mg "_law_take" = some (.ref fT))
    (GL : FnOk P w K mg base CX0 2 fL fdL ["_law_feed_here"] spLabel) (FL : Fun K "_law_label" "_law_label" sLabel fL fdL) (bL : Binds K fdL ["_law_feed_here"] []) (gL : mg "_law_label" = some (.ref fL))
    (GM : FnOk P w K mg base CX0 2 fM fdM ["_law_feed_here"] spNum) (FM : Fun K "_law_number" "_law_number" sNum fM fdM) (bM : Binds K fdM ["_law_feed_here"] []) (gM : mg "_law_number" = some (.ref fM)) :
    FnOk P w K mg base CX0 (n + 1 + 2) f fd ["_law_feed_here", "_law_deep", "_law_room"] (spPiece K (n + 1)) := by
  have GT : FnOk P w K mg base CX0 1 fT fdT ["_law_feed_here", "_law_many"] spTake := ok_take FT
  refine F.ok scPiece (fun vs H Q E h => ?_) (fun cdv A outer s H vs Q E hr h => ?_)
  · obtain ⟨p, q, dp, S, r, rfl, _⟩ := h
    rfl
  obtain ⟨p, q, dp, S, r, rfl, rfl, hn1, hn9, hqp, hF, hS, eq, r1, r100, k⟩ := h
  have nd := scPiece.nd
  have hrT := hr.mono (show 1 ≤ n + 2 by omega)
  have hr2 := hr.mono (show 2 ≤ n + 2 by omega)
  refine ⟨_, pss_cons (ps_asg (pe_op op_sub (pe_ix ix_list (pv 2) pe_int (fun _ _ => rfl)) pe_int) (pg_sub (pv 2) pe_int set_list))
    (pss_cons (ps_set (i := 3) nd rfl (.inl rfl) (pe_call GT hrT (by rfl) gT FT.kp bT .nil pass0 (pa_cons (pv 0) (pa_cons pe_int pa_nil))))
    (pss_cons (ps_if (PW.pt (pw_or (pt_cmpR op_eq (pv 1) pe_int (nomark _)) (pw_or (pt_cmpR op_lt (pe_ix ix_list (pv 2) pe_int (fun _ _ => rfl)) pe_int (nomark _)) (pw_or1 (pt_cmpR op_lt (pv 3) pe_int (nomark _))))))
      (pss_one (ps_ret (pe_ix ix_list (pe_lst (pa_cons (pe_tup (pa_cons pe_str (pa_cons (pe_call GL hr2 (by rfl) gL FL.kp bL .nil pass0 (pa_cons (pv 0) pa_nil)) (pa_cons (pe_call GL hr2 (by rfl) gL FL.kp bL .nil pass0 (pa_cons (pv 0) pa_nil)) pa_nil))))
          (pa_cons (pe_tup (pa_cons pe_str (pa_cons (pe_call GM hr2 (by rfl) gM FM.kp bM .nil pass0 (pa_cons (pv 0) pa_nil)) pa_nil))) pa_nil)))
        (pe_op op_fdivN (pe_call GT hrT (by rfl) gT FT.kp bT .nil pass0 (pa_cons (pv 0) (pa_cons pe_int pa_nil))) pe_int) (fun _ _ => rfl)))) pss_nil)
    (pss_cons (ps_asg (pe_op op_sub (pe_ix ix_list (pv 2) pe_int (fun _ _ => rfl)) pe_int) (pg_sub (pv 2) pe_int set_list))
    (pss_cons (ps_set (i := 4) nd rfl (.inl rfl) (pe_call G hr (by rfl) gF F.kp b .nil pass0 (pa_cons (pv 0) (pa_cons (pe_op op_sub (pv 1) pe_int) (pa_cons (pv 2) pa_nil)))))
    (pss_cons (ps_asg (pe_op op_add (pe_ix ix_list (pv 2) pe_int (fun _ _ => rfl)) pe_int) (pg_sub (pv 2) pe_int set_list))
    (pss_one (ps_ret (pe_tup (pa_cons (pe_ix ix_list (pe_lst (pa_cons pe_str (pa_cons pe_str (pa_cons pe_str (pa_cons pe_str pa_nil))))) (pe_op op_modN (pv 3) pe_int) (fun _ _ => rfl))
      (pa_cons (pv 4) (pa_cons (pe_call G hr (by rfl) gF F.kp b .nil pass0 (pa_cons (pv 0) (pa_cons (pe_op op_sub (pv 1) pe_int) (pa_cons (pv 2) pa_nil)))) pa_nil))))))))))), ?_⟩
  have Lq : SqL K H q [.int r] := SqL.of eq
  refine ⟨_, rfl, q, _, 0, .int r, rfl, rfl, Lq, atI_nat (j := 0) rfl, r, 1, rfl, rfl, _, rfl, q, _, 0, 0, rfl, rfl, eq, rfl, ?_⟩
  have rn : room (n + 1) = 2 * room n + 2 := by
    unfold room
    rw [Int.pow_succ]
    omega
  have rp : 62 ≤ room n := by
    unfold room
    have : (1 : Int) ≤ 2 ^ n := Int.pow_pos (by decide)
    omega
  rw [rn] at hS k
  have xq0 : Ex2 p q H (upd H q (.lst [.int (r - 1)])) := .at2
  have F0 : Feed (upd H q (.lst [.int (r - 1)])) p S := by
    obtain ⟨g, x, s, ep, s0, s1⟩ := hF
    refine ⟨g, x, s, ?_, s0, s1⟩
    rw [upd_ne hqp.symm]
    exact ep
  refine ⟨_, rfl, p, 9, S, rfl, F0, by omega, by omega, by omega, fun wy H1 w0 w1 hF1 x1 => ?_⟩
  have x1 : Ex1 p (upd H q (.lst [.int (r - 1)])) H1 := x1
  have eq1 : H1 q = some (.lst [.int (r - 1)]) := x1 q _ hqp upd_same
  have Lq1 : SqL K H1 q [.int (r - 1)] := SqL.of eq1
  have X1 : Ex2 p q H H1 := xq0.trans (Ex1.two x1)
  -- what a leaf is
  have leaf : ∀ (v : V) (d : PyData) (H' : Hp), Ex1 p H1 H' → Feed H' p (S + 40) → Dp K H' v d → Pc (n + 1) 1 d → Q v H' := fun v d H' x F' hd pc =>
    k v d 1 H' (X1.trans (Ex1.two x)) (F'.le (by omega)) (x q _ hqp eq1) hd pc (by omega)
  refine ⟨_, rfl, rfl, _, rfl, ite2 (fun c1 => ?_) (fun c1 => ?_)⟩
  · refine ⟨_, rfl, p, _, rfl, hF1, by omega, fun x2 H2 y2 F2 l2 => ?_⟩
    refine ⟨_, rfl, p, _, rfl, F2, by omega, fun x3 H3 y3 F3 l3 => ?_⟩
    refine ⟨(by show 3 ≤ sizeLine; decide), fun t1 n1 => ?_⟩
    refine ⟨_, rfl, p, _, rfl, F3.stays n1, by omega, fun i4 H4 y4 F4 l4 => ?_⟩
    refine ⟨(by show 2 ≤ sizeLine; decide), fun t2 n2 => ?_⟩
    refine ⟨(by show 2 ≤ sizeLine; decide), fun lq n3 => ?_⟩
    have F5 := (F4.stays (o := .tup [.str "number", .int i4]) n2).stays (o := .lst [.ref t1, .ref t2]) n3
    refine ⟨_, rfl, p, 3, _, rfl, F5, by omega, by omega, by omega, fun r6 H6 a0 a1 F6 y6 => ?_⟩
    exact ⟨_, _, rfl, rfl, ⟨by decide, by decide⟩, leaf_end leaf y2 y3 F3 n1 y4 F4 n2 n3 y6 a0 a1 l2 l3 l4 (F6.le (by omega))⟩
  refine ⟨_, rfl, q, _, 0, .int (r - 1), rfl, rfl, Lq1, atI_nat (j := 0) rfl, _, _, rfl, rfl, _, rfl, ite2 (fun c2 => ?_) (fun c2 => ?_)⟩
  · refine ⟨_, rfl, p, _, rfl, hF1, by omega, fun x2 H2 y2 F2 l2 => ?_⟩
    refine ⟨_, rfl, p, _, rfl, F2, by omega, fun x3 H3 y3 F3 l3 => ?_⟩
    refine ⟨(by show 3 ≤ sizeLine; decide), fun t1 n1 => ?_⟩
    refine ⟨_, rfl, p, _, rfl, F3.stays n1, by omega, fun i4 H4 y4 F4 l4 => ?_⟩
    refine ⟨(by show 2 ≤ sizeLine; decide), fun t2 n2 => ?_⟩
    refine ⟨(by show 2 ≤ sizeLine; decide), fun lq n3 => ?_⟩
    have F5 := (F4.stays (o := .tup [.str "number", .int i4]) n2).stays (o := .lst [.ref t1, .ref t2]) n3
    refine ⟨_, rfl, p, 3, _, rfl, F5, by omega, by omega, by omega, fun r6 H6 a0 a1 F6 y6 => ?_⟩
    exact ⟨_, _, rfl, rfl, ⟨by decide, by decide⟩, leaf_end leaf y2 y3 F3 n1 y4 F4 n2 n3 y6 a0 a1 l2 l3 l4 (F6.le (by omega))⟩
  refine ⟨_, rfl, _, _, rfl, rfl, _, rfl, ite2 (fun c3 => ?_) (fun c3 => ?_)⟩
  · refine ⟨_, rfl, p, _, rfl, hF1, by omega, fun x2 H2 y2 F2 l2 => ?_⟩
    refine ⟨_, rfl, p, _, rfl, F2, by omega, fun x3 H3 y3 F3 l3 => ?_⟩
    refine ⟨(by show 3 ≤ sizeLine; decide), fun t1 n1 => ?_⟩
    refine ⟨_, rfl, p, _, rfl, F3.stays n1, by omega, fun i4 H4 y4 F4 l4 => ?_⟩
    refine ⟨(by show 2 ≤ sizeLine; decide), fun t2 n2 => ?_⟩
    refine ⟨(by show 2 ≤ sizeLine; decide), fun lq n3 => ?_⟩
    have F5 := (F4.stays (o := .tup [.str "number", .int i4]) n2).stays (o := .lst [.ref t1, .ref t2]) n3
    refine ⟨_, rfl, p, 3, _, rfl, F5, by omega, by omega, by omega, fun r6 H6 a0 a1 F6 y6 => ?_⟩
    exact ⟨_, _, rfl, rfl, ⟨by decide, by decide⟩, leaf_end leaf y2 y3 F3 n1 y4 F4 n2 n3 y6 a0 a1 l2 l3 l4 (F6.le (by omega))⟩
  have c1 : ¬ n + 1 = 1 := fun z => c1 (decide_eq_true (by rw [z]; rfl))
  have c2 : ¬ r - 1 < 2 := fun z => c2 (decide_eq_true z)
  refine ⟨_, rfl, q, _, 0, .int (r - 1), rfl, rfl, Lq1, atI_nat (j := 0) rfl, _, 1, rfl, rfl, _, rfl, q, _, 0, 0, rfl, rfl, eq1, rfl, ?_⟩
  have F2 : Feed (upd H1 q (.lst [.int (r - 1 - 1)])) p (S + 1) := by
    obtain ⟨g, x, s, ep, s0, s1⟩ := hF1
    refine ⟨g, x, s, ?_, s0, s1⟩
    rw [upd_ne hqp.symm]
    exact ep
  have X2 : Ex2 p q H (upd H1 q (.lst [.int (r - 1 - 1)])) := X1.trans .at2
  refine ⟨_, rfl, _, rfl, _, _, rfl, rfl, _, rfl, p, q, _, S + 1, r - 1 - 1, rfl, by omega, by omega, by omega, hqp, F2, by omega, upd_same, by omega, by omega, fun v1 d1 k1 H3 x3 F3 e3 D1 P1 le1 => ?_⟩
  have x3 : Ex2 p q (upd H1 q (.lst [.int (r - 1 - 1)])) H3 := x3
  have Lq3 : SqL K H3 q [.int (r - 1 - 1 - k1)] := SqL.of e3
  refine ⟨_, rfl, q, _, 0, .int (r - 1 - 1 - k1), rfl, rfl, Lq3, atI_nat (j := 0) rfl, _, 1, rfl, rfl, _, rfl, q, _, 0, 0, rfl, rfl, e3, rfl, ?_⟩
  have X3 : Ex2 p q H (upd H3 q (.lst [.int (r - 1 - 1 - k1 + 1)])) := (X2.trans x3).trans .at2
  have F4 : Feed (upd H3 q (.lst [.int (r - 1 - 1 - k1 + 1)])) p (S + 1 + room n) := by
    obtain ⟨g, x, s, ep, s0, s1⟩ := F3
    refine ⟨g, x, s, ?_, s0, s1⟩
    rw [upd_ne hqp.symm]
    exact ep
  have T3 : Tups K H3 (upd H3 q (.lst [.int (r - 1 - 1 - k1 + 1)])) := Tups.upd_lst e3
  refine ⟨(by show 4 ≤ sizeLine; decide), fun lw nl => ?_⟩
  have nl : upd H3 q (.lst [.int (r - 1 - 1 - k1 + 1)]) lw = none := nl
  have e4 : upd H3 q (.lst [.int (r - 1 - 1 - k1 + 1)]) q = some (.lst [.int (r - 1 - 1 - k1 + 1)]) := upd_same
  obtain ⟨m0, m1⟩ := fmod_in wy (b := 4) (by omega)
  obtain ⟨x, hx, ea⟩ := at_map (f := V.str) (xs := signs) (r := wy.fmod 4) m0 m1
  refine ⟨_, rfl, _, _, rfl, rfl, by show (4 : Int) ≠ 0; decide, lw, _, _, .str x, rfl, rfl, SqL.of upd_same, ea, ?_⟩
  have X4 : Ex2 p q H (upd (upd H3 q (.lst [.int (r - 1 - 1 - k1 + 1)])) lw (.lst (signs.map V.str))) := X3.trans (Ex1.two (Ex1.new nl))
  have F5 := F4.stays (o := .lst (signs.map V.str)) nl
  have T4 := T3.trans (Tups.new (K := K) (o := .lst (signs.map V.str)) nl)
  have e5 := new_same (o := .lst (signs.map V.str)) nl _ _ e4
  refine ⟨_, rfl, _, rfl, _, rfl, _, _, rfl, rfl, _, rfl, p, q, _, S + 1 + room n, r - 1 - 1 - k1 + 1, rfl, by omega, by omega, by omega, hqp, F5, by omega, e5, by omega, by omega, fun v2 d2 k2 H6 x6 F6 e6 D2 P2 le2 => ?_⟩
  have x6 : Ex2 p q (upd (upd H3 q (.lst [.int (r - 1 - 1 - k1 + 1)])) lw (.lst (signs.map V.str))) H6 := x6
  obtain ⟨ys, ep5⟩ := F5.lst
  have T6 := T4.trans (x6.tups ep5 e5)
  refine ⟨(by show 3 ≤ sizeLine; decide), fun tt nt => ?_⟩
  have nt : H6 tt = none := nt
  have D1' := Gd.Dp.tups (T6.trans (Tups.new (K := K) (o := .tup [.str x, v1, v2]) nt)) d1 P1.tup D1
  have D2' := Gd.Dp.tups (Tups.new (K := K) (o := .tup [.str x, v1, v2]) nt) d2 P2.tup D2
  refine k (.ref tt) (.tuple [.str x, d1, d2]) (1 + k1 + k2) _ ((X4.trans x6).trans (Ex1.two (Ex1.new nt))) ((F6.stays nt).le (by omega)) ?_ (.tup (SqT.of upd_same) (.cons (.str x) (.cons D1' (.cons D2' .nil)))) (pc_node hx P1 P2) (by omega)
  rw [upd_ne (ne_of_none e6 nt), e6]
  have z : r - 1 - 1 - (k1 : Int) + 1 - (k2 : Int) = r - ((1 + k1 + k2 : Nat) : Int) := by omega
  rw [z]
end
end K02
end

section
set_option Elab.async false
set_option linter.all false
set_option maxRecDepth 100000
set_option maxHeartbeats 4000000
namespace K02
open PySem PySem.Spec PyProof.Rows L2 Gd
/-! sizes of what is made of data -/
theorem okAll_mem {k : Nat} : ∀ {ds : List PyData}, okAll k ds = true ↔ ∀ d ∈ ds, okD k d = true
  | [] => ⟨fun _ => nofun, fun _ => rfl⟩
  | d :: ds => by
    have ih := okAll_mem (k := k) (ds := ds)
    simp only [okAll, Bool.and_eq_true, ih, List.mem_cons]
    exact ⟨fun h e m => m.elim (fun z => z ▸ h.1) (h.2 e), fun h => ⟨h _ (.inl rfl), fun e m => h e (.inr m)⟩⟩
theorem depth_mem {n : Nat} : ∀ {ds : List PyData}, PyData.depthAll ds ≤ n ↔ ∀ d ∈ ds, d.depth ≤ n
  | [] => ⟨fun _ => nofun, fun _ => Nat.zero_le _⟩
  | d :: ds => by
    have ih := depth_mem (n := n) (ds := ds)
    simp only [PyData.depthAll, Nat.max_le, ih, List.mem_cons]
    exact ⟨fun h e m => m.elim (fun z => z ▸ h.1) (h.2 e), fun h => ⟨h _ (.inl rfl), fun e m => h e (.inr m)⟩⟩
theorem wt_app : ∀ {ds es : List PyData}, PyData.weightAll (ds ++ es) = PyData.weightAll ds + PyData.weightAll es
  | [], es => by simp [PyData.weightAll]
  | d :: ds, es => by
    simp only [List.cons_append, PyData.weightAll, wt_app (ds := ds) (es := es)]
    omega
theorem wt_take : ∀ {ds : List PyData} (i : Nat), PyData.weightAll (ds.take i) ≤ PyData.weightAll ds
  | [], i => by rw [List.take_nil] <;> exact Nat.le_refl _
  | d :: ds, 0 => Nat.zero_le _
  | d :: ds, i + 1 => by
    have ih := wt_take (ds := ds) i
    simp only [List.take_succ_cons, PyData.weightAll]
    omega
theorem wt_drop : ∀ {ds : List PyData} (i : Nat), PyData.weightAll (ds.drop i) ≤ PyData.weightAll ds
  | [], i => by rw [List.drop_nil] <;> exact Nat.le_refl _
  | d :: ds, 0 => Nat.le_refl _
  | d :: ds, i + 1 => by
    have ih := wt_drop (ds := ds) i
    simp only [List.drop_succ_cons, PyData.weightAll]
    omega
theorem wt_rev : ∀ {ds : List PyData}, PyData.weightAll ds.reverse = PyData.weightAll ds
  | [] => rfl
  | d :: ds => by
    rw [List.reverse_cons, wt_app, wt_rev (ds := ds)]
    simp only [PyData.weightAll]
    omega
/-- the items of a sequence -/
structure Fits (k w n : Nat) (ds : List PyData) : Prop where
  len : ds.length ≤ k
  ok : ∀ d ∈ ds, okD k d = true
  wt : PyData.weightAll ds ≤ w
  dp : ∀ d ∈ ds, d.depth ≤ n
section
variable {k w n : Nat} {ds es : List PyData}
theorem Fits.of (f : Fit k w (n + 1) (.tuple ds)) : Fits k w n ds := by
  obtain ⟨a, b, c⟩ := f
  simp only [okD, Bool.and_eq_true, decide_eq_true_eq] at a
  simp only [PyData.weight] at b
  simp only [PyData.depth] at c
  exact ⟨a.1, okAll_mem.mp a.2, b, depth_mem.mp (by omega)⟩
theorem Fits.tup (f : Fits k w n ds) : Fit k w (n + 1) (.tuple ds) := by
  refine ⟨?_, ?_, ?_⟩
  · simp only [okD, Bool.and_eq_true, decide_eq_true_eq]
    exact ⟨f.len, okAll_mem.mpr f.ok⟩
  · simp only [PyData.weight]
    exact f.wt
  · simp only [PyData.depth]
    have := depth_mem.mpr f.dp
    omega
theorem Fits.lst (f : Fits k w n ds) : Fit k w (n + 1) (.list ds) := by
  refine ⟨?_, ?_, ?_⟩
  · simp only [okD, Bool.and_eq_true, decide_eq_true_eq]
    exact ⟨f.len, okAll_mem.mpr f.ok⟩
  · simp only [PyData.weight]
    exact f.wt
  · simp only [PyData.depth]
    have := depth_mem.mpr f.dp
    omega
theorem Fits.take (f : Fits k w n ds) (i : Nat) : Fits k w n (ds.take i) :=
  ⟨by rw [List.length_take]; exact Nat.le_trans (Nat.min_le_right _ _) f.len, fun d m => f.ok d (List.mem_of_mem_take m), Nat.le_trans (wt_take i) f.wt, fun d m => f.dp d (List.mem_of_mem_take m)⟩
theorem Fits.drop (f : Fits k w n ds) (i : Nat) : Fits k w n (ds.drop i) :=
  ⟨by rw [List.length_drop]; exact Nat.le_trans (Nat.sub_le _ _) f.len, fun d m => f.ok d (List.mem_of_mem_drop m), Nat.le_trans (wt_drop i) f.wt, fun d m => f.dp d (List.mem_of_mem_drop m)⟩
theorem Fits.rev (f : Fits k w n ds) : Fits k w n ds.reverse :=
  ⟨by rw [List.length_reverse]; exact f.len, fun d m => f.ok d (List.mem_reverse.mp m), by rw [wt_rev]; exact f.wt, fun d m => f.dp d (List.mem_reverse.mp m)⟩
theorem Fits.mono {k' w' n' : Nat} (f : Fits k w n ds) (hk : k ≤ k') (hw : w ≤ w') (hn : n ≤ n') : Fits k' w' n' ds :=
  ⟨Nat.le_trans f.len hk, fun d m => okD.mono hk d (f.ok d m), Nat.le_trans f.wt hw, fun d m => Nat.le_trans (f.dp d m) hn⟩
theorem Fits.app {l1 l2 w1 w2 : Nat} (f : Fits k w1 n ds) (g : Fits k w2 n es) (h : ds.length + es.length ≤ k) : Fits k (w1 + w2) n (ds ++ es) :=
  ⟨by rw [List.length_append]; exact h, fun d m => (List.mem_append.mp m).elim (f.ok d) (g.ok d), by rw [wt_app]; exact Nat.add_le_add f.wt g.wt, fun d m => (List.mem_append.mp m).elim (f.dp d) (g.dp d)⟩
theorem Fits.one {d : PyData} (f : Fit k w n d) (h : 1 ≤ k) : Fits k (w + 1) n [d] :=
  ⟨h, fun e m => by rw [List.mem_singleton.mp m]; exact f.ok, by simp only [PyData.weightAll]; have := f.wt; omega, fun e m => by rw [List.mem_singleton.mp m]; exact f.dp⟩
theorem Fits.at {i : Nat} {d : PyData} (f : Fits k w n ds) (h : ds[i]? = some d) : Fit k w n d := by
  have m := List.mem_of_getElem? h
  refine ⟨f.ok d m, Nat.le_trans ?_ f.wt, f.dp d m⟩
  clear f
  induction ds generalizing i with
  | nil => cases m
  | cons e r ih =>
    simp only [PyData.weightAll]
    rcases List.mem_cons.mp m with rfl | m2
    · omega
    · obtain ⟨j, hj⟩ := List.getElem?_of_mem m2
      have := ih hj m2
      omega
end
/-- a text of plain signs -/
def Asc (l : Nat) (x : Str) : Prop := x.length ≤ l ∧ ∀ c ∈ x.cps.toList, c < 128
theorem Asc.fit {k l : Nat} {x : Str} (h : Asc l x) (hl : l ≤ 100 + k) : Fit k l 0 (.str x) := by
  refine ⟨?_, by rw [wt_str]; exact h.1, Nat.le_refl _⟩
  simp only [okD, Bool.and_eq_true, decide_eq_true_eq, List.all_eq_true]
  exact ⟨Nat.le_trans h.1 hl, h.2⟩
theorem Asc.of {k w n : Nat} {x : Str} (f : Fit k w n (.str x)) : Asc (100 + k) x := by
  have a := f.ok
  simp only [okD, Bool.and_eq_true, decide_eq_true_eq, List.all_eq_true] at a
  exact a
theorem Asc.app {l m : Nat} {x y : Str} (h : Asc l x) (g : Asc m y) : Asc (l + m) (x ++ y) := by
  refine ⟨by rw [PySem.strLen_append]; exact Nat.add_le_add h.1 g.1, fun c hc => ?_⟩
  have e : (x ++ y).cps.toList = x.cps.toList ++ y.cps.toList := TL.tl_append x y
  rw [e] at hc
  exact (List.mem_append.mp hc).elim (h.2 c) (g.2 c)
theorem Asc.cut {l : Nat} {x : Str} (h : Asc l x) (lo hi : Option Int) : Asc l (cutS x lo hi) := by
  refine ⟨?_, fun c hc => ?_⟩
  · show (((x.cps.toList.drop _).take _).toArray).size ≤ l
    rw [List.size_toArray, List.length_take, List.length_drop, Array.length_toList]
    have := h.1
    have e : x.length = x.cps.size := rfl
    omega
  · have hc : c ∈ ((x.cps.toList.drop (HT.sIx x.length 0 lo)).take (HT.sIx x.length x.length hi - HT.sIx x.length 0 lo)) := hc
    exact h.2 c (List.mem_of_mem_drop (List.mem_of_mem_take hc))
theorem upper_all : ∀ c, c < 128 → (Unicode.upperOf c).length = 1 ∧ ∀ d ∈ Unicode.upperOf c, d < 128 := by decide +kernel
theorem flat_ones {cs : List Nat} (g : Nat → List Nat) (h : ∀ c ∈ cs, (g c).length = 1 ∧ ∀ d ∈ g c, d < 128) :
    (cs.flatMap g).length = cs.length ∧ ∀ d ∈ cs.flatMap g, d < 128 := by
  induction cs with
  | nil => exact ⟨rfl, nofun⟩
  | cons c r ih =>
    obtain ⟨a, b⟩ := ih fun c m => h c (List.mem_cons_of_mem _ m)
    obtain ⟨a1, b1⟩ := h c (List.mem_cons_self ..)
    rw [List.flatMap_cons]
    refine ⟨by rw [List.length_append, a, a1, List.length_cons]; omega, fun d m => ?_⟩
    exact (List.mem_append.mp m).elim (b1 d) (b d)
theorem zip_map (g : Nat → List Nat) : ∀ (l : List Nat) (k : Nat), (l.zipIdx k).map (fun p => g p.1) = l.map g
  | [], _ => rfl
  | c :: l, k => by rw [List.zipIdx_cons, List.map_cons, List.map_cons, zip_map g l (k + 1)]
theorem upper_flat (x : Str) : (Txt.upper x).cps.toList = x.cps.toList.flatMap Unicode.upperOf := by
  show ((x.cps.mapIdx fun _ c => (Unicode.upperOf c).toArray).flatten).toList = _
  rw [Array.toList_flatten, Array.toList_mapIdx, List.mapIdx_eq_zipIdx_map]
  rw [List.flatMap_def]
  simp
  have e : (Array.toList ∘ fun x : Nat × Nat => (Unicode.upperOf x.1).toArray) = fun p => Unicode.upperOf p.1 := funext fun p => by simp
  rw [e, zip_map]
theorem Asc.upper {l : Nat} {x : Str} (h : Asc l x) : Asc l (Txt.upper x) := by
  obtain ⟨a, b⟩ := flat_ones (cs := x.cps.toList) Unicode.upperOf fun c m => upper_all c (h.2 c m)
  refine ⟨?_, fun d m => b d (by rw [← upper_flat]; exact m)⟩
  have e : (Txt.upper x).length = (Txt.upper x).cps.toList.length := by
    show (Txt.upper x).cps.size = _
    rw [Array.length_toList]
  rw [e, upper_flat, a]
  exact h.1
theorem digits_asc (m : Nat) : ∀ c ∈ (Nat.repr m).toList, c.toNat < 128 := by
  intro c hc
  have e : (Nat.repr m).toList = Nat.toDigits 10 m := by
    unfold Nat.repr
    simp
  rw [e] at hc
  have d := Nat.isDigit_of_mem_toDigits (by decide) (by decide) hc
  have d2 : (c.val ≥ '0'.val && c.val ≤ '9'.val) = true := d
  simp only [Bool.and_eq_true, decide_eq_true_eq] at d2
  have z : c.val.toNat ≤ 57 := UInt32.le_iff_toNat_le.mp d2.2
  show c.val.toNat < 128
  omega
theorem int_asc {i : Int} {k : Nat} (hk : k ≤ 50) (h : i.natAbs ≤ 10 ^ 64 + k) : Asc 66 (toString i) := by
  have h1 : i.natAbs < 10 ^ 65 := Nat.lt_of_le_of_lt h (Nat.lt_of_le_of_lt (Nat.add_le_add_left hk _) (by decide))
  have e := int_text_length_le10 (k := 65) (by decide) h1
  refine ⟨by show (Str.ofString (toString i)).length ≤ 66; rw [PySem.ofString_length]; exact e, fun c hc => ?_⟩
  have e2 : (Str.ofString (toString i)).cps.toList = (toString i).toList.map Char.toNat := by
    rw [Str.ofString_eq_toList]
  have hc : c ∈ (Str.ofString (toString i)).cps.toList := hc
  rw [e2] at hc
  obtain ⟨ch, hm, rfl⟩ := List.mem_map.mp hc
  cases i with
  | ofNat m => exact digits_asc m ch hm
  | negSucc m =>
    have e3 : (toString (Int.negSucc m)).toList = '-' :: (Nat.repr (m + 1)).toList := by
      show ("-" ++ Nat.repr (m + 1)).toList = _
      rw [String.toList_append] <;> rfl
    rw [e3] at hm
    rcases List.mem_cons.mp hm with rfl | hm
    · decide
    · exact digits_asc (m + 1) ch hm
theorem int_fit {i : Int} {k : Nat} (hk : k ≤ 50) (h : i.natAbs ≤ 10 ^ 64 + k) : Fit k 300 0 (.int i) := by
  refine ⟨by simp only [okD, decide_eq_true_eq]; exact h, ?_, Nat.le_refl _⟩
  simp only [PyData.weight]
  split
  · omega
  · rename_i z
    have z : i.natAbs ≠ 0 := by
      intro e
      exact z (by rw [Int.natAbs_eq_zero.mp e] <;> rfl)
    have h1 : i.natAbs < 2 ^ 250 := Nat.lt_of_le_of_lt h (Nat.lt_of_le_of_lt (Nat.add_le_add_left hk _) (by decide +kernel))
    have : i.natAbs.log2 < 250 := (Nat.log2_lt z).mpr h1
    omega
end K02
end

section
set_option Elab.async false
set_option linter.all false
set_option maxRecDepth 100000
set_option maxHeartbeats 4000000
namespace K02
open PySem PySem.Spec PyProof.Rows L2 Gd
/-- a piece -/
inductive Pz
  | cell (x y : Str)
  | num (i : Int)
  | op (w : Str) (a b : Pz)
def pzD : Pz → PyData
  | .cell x y => .tuple [.str "cell", .str x, .str y]
  | .num i => .tuple [.str "number", .int i]
  | .op w a b => .tuple [.str w, pzD a, pzD b]
def pzOk : Pz → Prop
  | .cell x y => isLab x = true ∧ isLab y = true
  | .num i => -(10 ^ 30 : Int) < i ∧ i < 10 ^ 30
  | .op w a b => w ∈ signs ∧ pzOk a ∧ pzOk b
def pzDeep : Pz → Nat
  | .cell _ _ => 1
  | .num _ => 1
  | .op _ a b => max (pzDeep a) (pzDeep b) + 1
def pzMany : Pz → Nat
  | .cell _ _ => 1
  | .num _ => 1
  | .op _ a b => 1 + pzMany a + pzMany b
theorem str_of {d : PyData} {x : Str} (h : isStr d x = true) : d = .str x := by
  cases d with
  | str y =>
    have : decide (y = x) = true := h
    rw [of_decide_eq_true this]
  | _ => cases h
theorem pz_of : ∀ (n : Nat) (d : PyData), 1 ≤ cnt n d → ∃ z, d = pzD z ∧ pzOk z ∧ pzDeep z ≤ n ∧ pzMany z = cnt n d
  | 0, _, h => by simp [cnt] at h
  | n + 1, d, h => by
    match d, h with
    | .tuple [w, e], h =>
      rw [cnt_two] at h ⊢
      split at h
      · rename_i c
        rw [if_pos c]
        rw [Bool.and_eq_true] at c
        rw [str_of c.1]
        cases e with
        | int i =>
          have c2 := c.2
          simp only [isNum, Bool.and_eq_true, decide_eq_true_eq] at c2
          exact ⟨.num i, rfl, c2, by show 1 ≤ n + 1; omega, rfl⟩
        | _ => exact absurd c.2 (by simp [isNum])
      · omega
    | .tuple [w, x, y], h =>
      rw [cnt_three] at h ⊢
      split at h
      · rename_i c
        rw [if_pos c]
        split at h
        · rename_i c2
          rw [if_pos c2]
          rw [Bool.and_eq_true] at c2
          rw [str_of c]
          cases x with
          | str x =>
            cases y with
            | str y => exact ⟨.cell x y, rfl, c2, by show 1 ≤ n + 1; omega, rfl⟩
            | _ => exact absurd c2.2 (by simp [isLabD])
          | _ => exact absurd c2.1 (by simp [isLabD])
        · omega
      · rename_i c
        rw [if_neg c]
        split at h
        · rename_i c2
          rw [if_pos c2]
          split at h
          · rename_i c3
            rw [if_pos c3]
            rw [Bool.and_eq_true, decide_eq_true_eq, decide_eq_true_eq] at c3
            obtain ⟨s, hs, hw⟩ := List.any_eq_true.mp c2
            rw [str_of hw]
            obtain ⟨a, rfl, oa, da, ma⟩ := pz_of n x c3.1
            obtain ⟨b, rfl, ob, db, mb⟩ := pz_of n y c3.2
            refine ⟨.op s a b, rfl, ⟨hs, oa, ob⟩, ?_, ?_⟩
            · show max (pzDeep a) (pzDeep b) + 1 ≤ n + 1
              omega
            · show 1 + pzMany a + pzMany b = _
              rw [ma, mb]
          · omega
        · omega
    | .none, h => simp [cnt] at h
    | .bool _, h => simp [cnt] at h
    | .int _, h => simp [cnt] at h
    | .str _, h => simp [cnt] at h
    | .list _, h => simp [cnt] at h
    | .dict _, h => simp [cnt] at h
    | .tuple [], h => simp [cnt] at h
    | .tuple [_], h => simp [cnt] at h
    | .tuple (_ :: _ :: _ :: _ :: _), h => simp [cnt] at h
/-- its cells from the left -/
def cells : Pz → List (Str × Str)
  | .cell x y => [(x, y)]
  | .num _ => []
  | .op _ a b => cells a ++ cells b
/-- all its pieces -/
def allP : Pz → List Pz
  | .cell x y => [.cell x y]
  | .num i => [.num i]
  | .op w a b => [.op w a b] ++ allP a ++ allP b
def faults : Pz → Bool
  | .op w a b => decide (w = "over") || faults a || faults b
  | _ => false
def cellD (x : Str × Str) : PyData := .tuple [.str x.1, .str x.2]
theorem cells_len : ∀ z, (cells z).length ≤ pzMany z
  | .cell _ _ => Nat.le_refl _
  | .num _ => Nat.zero_le _
  | .op _ a b => by
    have := cells_len a
    have := cells_len b
    show (cells a ++ cells b).length ≤ 1 + pzMany a + pzMany b
    rw [List.length_append]
    omega
theorem all_len : ∀ z, (allP z).length = pzMany z
  | .cell _ _ => rfl
  | .num _ => rfl
  | .op w a b => by
    show ([Pz.op w a b] ++ allP a ++ allP b).length = 1 + pzMany a + pzMany b
    rw [List.length_append, List.length_append, all_len a, all_len b]
    rfl
theorem cells_all : ∀ z, cells z = (allP z).filterMap fun p => match p with
    | .cell x y => some (x, y)
    | _ => none
  | .cell _ _ => rfl
  | .num _ => rfl
  | .op w a b => by
    show cells a ++ cells b = ([Pz.op w a b] ++ allP a ++ allP b).filterMap _
    rw [List.filterMap_append, List.filterMap_append, ← cells_all a, ← cells_all b]
    rfl
theorem faults_all : ∀ z, faults z = (allP z).any fun p => match p with
    | .op w _ _ => decide (w = "over")
    | _ => false
  | .cell _ _ => rfl
  | .num _ => rfl
  | .op w a b => by
    show (decide (w = "over") || faults a || faults b) = ([Pz.op w a b] ++ allP a ++ allP b).any _
    rw [List.any_append, List.any_append, ← faults_all a, ← faults_all b]
    simp
theorem pz_only : ∀ z, tupOnly (pzD z) = true
  | .cell _ _ => rfl
  | .num _ => rfl
  | .op _ a b => by
    simp only [pzD, tupOnly, tupOnlyAll, pz_only a, pz_only b, Bool.and_true]
    exact decide_eq_true (show 3 ≤ 1000 by decide)
end K02
end

section
set_option Elab.async false
set_option linter.all false
set_option maxRecDepth 100000
set_option maxHeartbeats 4000000
namespace K02
open PySem PySem.Spec PyProof.Rows L2 Gd
theorem flat_strs : ∀ ss : List Str, (ss.map V.str).all flatV = true
  | [] => rfl
  | x :: l => flat_strs l
theorem signs_in {w : Str} (h : w ∈ signs) : inV (.str w) (signs.map V.str) = true := by
  simp only [signs, List.mem_cons, List.not_mem_nil, or_false] at h
  rcases h with rfl | rfl | rfl | rfl <;> decide
theorem sign_not {w : Str} (h : w ∈ signs) : w ≠ "cell" ∧ w ≠ "number" := by
  simp only [signs, List.mem_cons, List.not_mem_nil, or_false] at h
  rcases h with rfl | rfl | rfl | rfl <;> decide
theorem deep_pos : ∀ z, 1 ≤ pzDeep z
  | .cell _ _ => Nat.le_refl _
  | .num _ => Nat.le_refl _
  | .op _ _ _ => Nat.le_add_left _ _
/-- what stands in a piece -/
theorem pz_at {K : PySem.W.Frag} {H : Hp} {v : V} : ∀ {z : Pz}, Dp K H v (pzD z) → ∃ a, v = .ref a ∧ match z with
    | .cell x y => SqT K H a [.str "cell", .str x, .str y]
    | .num i => SqT K H a [.str "number", .int i]
    | .op w p q => ∃ v1 v2, SqT K H a [.str w, v1, v2] ∧ Dp K H v1 (pzD p) ∧ Dp K H v2 (pzD q)
  | .cell x y, h => by
    cases h with
    | tup hS hA =>
      cases hA with
      | cons h1 hA =>
      cases hA with
      | cons h2 hA =>
      cases hA with
      | cons h3 hA =>
      cases hA
      cases h1
      cases h2
      cases h3
      exact ⟨_, rfl, hS⟩
  | .num i, h => by
    cases h with
    | tup hS hA =>
      cases hA with
      | cons h1 hA =>
      cases hA with
      | cons h2 hA =>
      cases hA
      cases h1
      cases h2
      exact ⟨_, rfl, hS⟩
  | .op w p q, h => by
    cases h with
    | tup hS hA =>
      cases hA with
      | cons h1 hA =>
      cases hA with
      | cons h2 hA =>
      cases hA with
      | cons h3 hA =>
      cases hA
      cases h1
      exact ⟨_, rfl, _, _, hS, h2, h3⟩
abbrev sCl : Stmt := topS 2
theorem scCl : FnScope ["part"] ["part"] (defScope sCl) := ⟨rfl, rfl, rfl, by decide +kernel, rfl, by decide +kernel, by decide +kernel⟩
abbrev sMay : Stmt := topS 4
theorem scMay : FnScope ["part"] ["part"] (defScope sMay) := ⟨rfl, rfl, rfl, by decide +kernel, rfl, by decide +kernel, by decide +kernel⟩
abbrev sAl : Stmt := topS 11
abbrev nAl : List Str := ["_law_piece_here", "_law_found"]
theorem scAl : FnScope nAl ["_law_piece_here"] (defScope sAl) := ⟨rfl, rfl, rfl, by decide +kernel, rfl, by decide +kernel, by decide +kernel⟩
def spCl (K : PySem.W.Frag) (n : Nat) : Sp := fun vs H Q _ => ∃ (v : V) (z : Pz), vs = [v] ∧ Dp K H v (pzD z) ∧ pzOk z ∧ pzDeep z ≤ n ∧ pzMany z ≤ 1000 ∧
  ∀ (us : List V) (p : Addr) (H' : Hp), Same H H' → H p = none → H' p = some (.lst us) → DpAll K H' us ((cells z).map cellD) → Q (.ref p) H'
def spAl (K : PySem.W.Frag) (n : Nat) : Sp := fun vs H Q _ => ∃ (v : V) (z : Pz), vs = [v] ∧ Dp K H v (pzD z) ∧ pzOk z ∧ pzDeep z ≤ n ∧ pzMany z ≤ 1000 ∧
  ∀ (us : List V) (p : Addr) (H' : Hp), Same H H' → H p = none → H' p = some (.lst us) → DpAll K H' us ((allP z).map pzD) → Q (.ref p) H'
def spMay (K : PySem.W.Frag) (n : Nat) : Sp := fun vs H Q _ => ∃ (v : V) (z : Pz), vs = [v] ∧ Dp K H v (pzD z) ∧ pzOk z ∧ pzDeep z ≤ n ∧ ∀ H', Same H H' → Q (.bl (faults z)) H'
structure Sg (K : PySem.W.Frag) (mg : Str → Option Value) (pS : Addr) : Prop where
  sgn : mg "_SIGNS" = some (.ref pS)
  sq : ∀ H, SqT K H pS (signs.map V.str)
theorem cells_only : ∀ xs : List (Str × Str), tupOnlyAll (xs.map cellD) = true
  | [] => rfl
  | x :: xs => by
    simp only [List.map_cons, tupOnlyAll, cells_only xs, Bool.and_true, cellD, tupOnly]
    exact decide_eq_true (show 2 ≤ 1000 by decide)
theorem alls_only : ∀ zs : List Pz, tupOnlyAll (zs.map pzD) = true
  | [] => rfl
  | z :: zs => by
    simp only [List.map_cons, tupOnlyAll, pz_only z, alls_only zs]
    rfl
theorem dp_append {K : PySem.W.Frag} {H : Hp} : ∀ {xs ys : List V} {ds es : List PyData}, DpAll K H xs ds → DpAll K H ys es → DpAll K H (xs ++ ys) (ds ++ es)
  | _, _, _, _, .nil, h => h
  | _, _, _, _, .cons a b, h => .cons a (dp_append b h)
section
variable {P : Program} {w : World} {K : PySem.W.Frag} {mg : Str → Option Value} {base : Heap} {f : Addr} {fd : FuncData} {pS : Addr}
theorem cl_none : FnOk P w K mg base CX0 1 f fd ["part"] (spCl K 0) := by
  have bad : ∀ vs H Q E, ¬ spCl K 0 vs H Q E := by
    rintro vs H Q E ⟨v, z, _, _, _, h, _⟩
    have := deep_pos z
    omega
  exact ⟨fun vs H Q E h => absurd h (bad vs H Q E), fun A outer s H args us vs Q E _ _ _ _ h => absurd h (bad vs H Q E)⟩
theorem cl_step (F : Fun K "cells_from_left" "cells_from_left" sCl f fd) {n : Nat} (G : FnOk P w K mg base CX0 (n + 1) f fd ["part"] (spCl K n)) (b : Binds K fd ["part"] []) (gF : mg "cells_from_left" = some (.ref f)) :
    FnOk P w K mg base CX0 (n + 2) f fd ["part"] (spCl K (n + 1)) := by
  refine F.ok scCl (fun vs H Q E h => ?_) (fun cdv A outer s H vs Q E hr h => ?_)
  · obtain ⟨v, z, rfl, _⟩ := h
    rfl
  obtain ⟨v, z, rfl, hd, ok, hn, hm, q⟩ := h
  have nd := scCl.nd
  have zl : sizeLine = 16777216 := rfl
  refine ⟨_, pss_cons (ps_if (pt_cmpR op_eq (pe_ix ix_tup (pv 0) pe_int (fun _ _ => rfl)) pe_str (nomark _)) (pss_one (ps_ret (pe_lst (pa_cons (pe_tup (pa_cons (pe_ix ix_tup (pv 0) pe_int (fun _ _ => rfl)) (pa_cons (pe_ix ix_tup (pv 0) pe_int (fun _ _ => rfl)) pa_nil))) pa_nil)))) pss_nil)
    (pss_cons (ps_if (pt_cmpR op_eq (pe_ix ix_tup (pv 0) pe_int (fun _ _ => rfl)) pe_str (nomark _)) (pss_one (ps_ret (pe_lst pa_nil))) pss_nil)
    (pss_one (ps_ret (pe_op op_cat (pe_call G hr (by rfl) gF F.kp b .nil pass0 (pa_cons (pe_ix ix_tup (pv 0) pe_int (fun _ _ => rfl)) pa_nil)) (pe_call G hr (by rfl) gF F.kp b .nil pass0 (pa_cons (pe_ix ix_tup (pv 0) pe_int (fun _ _ => rfl)) pa_nil)))))), ?_⟩
  obtain ⟨a, rfl, hz⟩ := pz_at hd
  cases z with
  | cell x y =>
    have hS : SqT K H a [.str "cell", .str x, .str y] := hz
    refine ⟨_, rfl, a, _, 0, _, rfl, rfl, hS, atI_nat (j := 0) rfl, rfl, _, rfl, iteT ?_⟩
    refine ⟨_, rfl, a, _, 1, _, rfl, rfl, hS, atI_nat (j := 1) rfl, _, rfl, a, _, 2, _, rfl, rfl, hS, atI_nat (j := 2) rfl, (by show 2 ≤ sizeLine; decide), fun t nt => ?_⟩
    have j1 := new_same (o := .tup [.str x, .str y]) nt
    have dt : Dp K (upd H t (.tup [.str x, .str y])) (.ref t) (cellD (x, y)) := .tup (SqT.of upd_same) (.cons (.str _) (.cons (.str _) .nil))
    generalize upd H t (.tup [.str x, .str y]) = H1 at j1 dt ⊢
    refine ⟨(by show 1 ≤ sizeLine; decide), fun p np => ?_⟩
    have j2 := new_same (o := .lst [.ref t]) np
    exact q [.ref t] p _ (j1.trans j2) (j1.free np) upd_same (.cons (Dp.same j2 _ dt) .nil)
  | num i =>
    have hS : SqT K H a [.str "number", .int i] := hz
    refine ⟨_, rfl, a, _, 0, _, rfl, rfl, hS, atI_nat (j := 0) rfl, rfl, _, rfl, iteF ?_⟩
    refine ⟨_, rfl, a, _, 0, _, rfl, rfl, hS, atI_nat (j := 0) rfl, rfl, _, rfl, iteT ?_⟩
    refine ⟨Nat.zero_le _, fun p np => ?_⟩
    exact q [] p _ (new_same np) np upd_same .nil
  | op o z1 z2 =>
    obtain ⟨v1, v2, hS, d1, d2⟩ : ∃ v1 v2, SqT K H a [.str o, v1, v2] ∧ Dp K H v1 (pzD z1) ∧ Dp K H v2 (pzD z2) := hz
    obtain ⟨ow, ok1, ok2⟩ : o ∈ signs ∧ pzOk z1 ∧ pzOk z2 := ok
    obtain ⟨nc, nn⟩ := sign_not ow
    have hm : 1 + pzMany z1 + pzMany z2 ≤ 1000 := hm
    have hn : max (pzDeep z1) (pzDeep z2) + 1 ≤ n + 1 := hn
    refine ⟨_, rfl, a, _, 0, _, rfl, rfl, hS, atI_nat (j := 0) rfl, rfl, _, rfl, ite2 (fun e => absurd (V.str.inj (of_decide_eq_true e)) nc) (fun _ => ?_)⟩
    refine ⟨_, rfl, a, _, 0, _, rfl, rfl, hS, atI_nat (j := 0) rfl, rfl, _, rfl, ite2 (fun e => absurd (V.str.inj (of_decide_eq_true e)) nn) (fun _ => ?_)⟩
    refine ⟨_, rfl, a, _, 1, v1, rfl, rfl, hS, atI_nat (j := 1) rfl, v1, z1, rfl, d1, ok1, by omega, by omega, fun us1 p1 H1 s1 n1 e1 h1 => ?_⟩
    refine ⟨_, rfl, a, _, 2, v2, rfl, rfl, same_tup s1 hS, atI_nat (j := 2) rfl, v2, z2, rfl, Dp.same s1 _ d2, ok2, by omega, by omega, fun us2 p2 H2 s2 n2 e2 h2 => ?_⟩
    have l1 := cells_len z1
    have l2 := cells_len z2
    have g1 : us1.length = (cells z1).length := by rw [DpAll.len h1, List.length_map]
    have g2 : us2.length = (cells z2).length := by rw [DpAll.len h2, List.length_map]
    refine ⟨p1, p2, _, _, rfl, rfl, s2 _ _ e1, e2, by omega, fun p np => ?_⟩
    have j3 := new_same (o := .lst (us1 ++ us2)) np
    have s12 := s1.trans s2
    refine q _ p _ (s12.trans j3) (s12.free np) upd_same ?_
    show DpAll K _ (us1 ++ us2) ((cells z1 ++ cells z2).map cellD)
    rw [List.map_append]
    exact dp_append (DpAll.same (s2.trans j3) _ h1) (DpAll.same j3 _ h2)
theorem ok_cl (F : Fun K "cells_from_left" "cells_from_left" sCl f fd) (b : Binds K fd ["part"] []) (gF : mg "cells_from_left" = some (.ref f)) : ∀ n : Nat, FnOk P w K mg base CX0 (n + 1) f fd ["part"] (spCl K n)
  | 0 => cl_none
  | n + 1 => cl_step F (ok_cl F b gF n) b gF
end
end K02
end

section
set_option Elab.async false
set_option linter.all false
set_option maxRecDepth 100000
set_option maxHeartbeats 4000000
namespace K02
open PySem PySem.Spec PyProof.Rows L2 Gd
section
variable {P : Program} {w : World} {K : PySem.W.Frag} {mg : Str → Option Value} {base : Heap} {f : Addr} {fd : FuncData} {pS : Addr}
theorem may_none : FnOk P w K mg base CX0 1 f fd ["part"] (spMay K 0) := by
  have bad : ∀ vs H Q E, ¬ spMay K 0 vs H Q E := by
    rintro vs H Q E ⟨v, z, _, _, _, h, _⟩
    have := deep_pos z
    omega
  exact ⟨fun vs H Q E h => absurd h (bad vs H Q E), fun A outer s H args us vs Q E _ _ _ _ h => absurd h (bad vs H Q E)⟩
theorem may_step (F : Fun K "may_fault" "may_fault" sMay f fd) (C : Sg K mg pS) {n : Nat} (G : FnOk P w K mg base CX0 (n + 1) f fd ["part"] (spMay K n)) (b : Binds K fd ["part"] []) (gF : mg "may_fault" = some (.ref f)) :
    FnOk P w K mg base CX0 (n + 2) f fd ["part"] (spMay K (n + 1)) := by
  refine F.ok scMay (fun vs H Q E h => ?_) (fun cdv A outer s H vs Q E hr h => ?_)
  · obtain ⟨v, z, rfl, _⟩ := h
    rfl
  obtain ⟨v, z, rfl, hd, ok, hn, q⟩ := h
  have nd := scMay.nd
  refine ⟨_, pss_cons (ps_if (pt_cmpR op_notIn_seq (pe_ix ix_tup (pv 0) pe_int (fun _ _ => rfl)) (pe_glob (v := .ref pS) (by rfl) C.sgn rfl) (by with_unfolding_all rfl)) (pss_one (ps_ret pe_bl)) pss_nil)
    (pss_one (ps_ret (pe_or (pe_cmpR op_eq (pe_ix ix_tup (pv 0) pe_int (fun _ _ => rfl)) pe_str (nomark _))
      (pe_or (pe_call G hr (by rfl) gF F.kp b .nil pass0 (pa_cons (pe_ix ix_tup (pv 0) pe_int (fun _ _ => rfl)) pa_nil))
      (pe_one (pe_call G hr (by rfl) gF F.kp b .nil pass0 (pa_cons (pe_ix ix_tup (pv 0) pe_int (fun _ _ => rfl)) pa_nil))))))), ?_⟩
  obtain ⟨a, rfl, hz⟩ := pz_at hd
  have sm : Same H H := fun _ _ e => e
  cases z with
  | cell x y =>
    have hS : SqT K H a [.str "cell", .str x, .str y] := hz
    refine ⟨_, rfl, a, _, 0, _, rfl, rfl, hS, atI_nat (j := 0) rfl, pS, _, rfl, .inr (C.sq _), rfl, flat_strs _, _, rfl, ?_⟩
    rw [show inV (.str "cell") (signs.map V.str) = false by decide]
    exact iteT (q _ sm)
  | num i =>
    have hS : SqT K H a [.str "number", .int i] := hz
    refine ⟨_, rfl, a, _, 0, _, rfl, rfl, hS, atI_nat (j := 0) rfl, pS, _, rfl, .inr (C.sq _), rfl, flat_strs _, _, rfl, ?_⟩
    rw [show inV (.str "number") (signs.map V.str) = false by decide]
    exact iteT (q _ sm)
  | op o z1 z2 =>
    obtain ⟨v1, v2, hS, d1, d2⟩ : ∃ v1 v2, SqT K H a [.str o, v1, v2] ∧ Dp K H v1 (pzD z1) ∧ Dp K H v2 (pzD z2) := hz
    obtain ⟨ow, ok1, ok2⟩ : o ∈ signs ∧ pzOk z1 ∧ pzOk z2 := ok
    have hn : max (pzDeep z1) (pzDeep z2) + 1 ≤ n + 1 := hn
    have qq : ∀ H', Same H H' → Q (.bl (decide (o = "over") || faults z1 || faults z2)) H' := q
    refine ⟨_, rfl, a, _, 0, _, rfl, rfl, hS, atI_nat (j := 0) rfl, pS, _, rfl, .inr (C.sq _), rfl, flat_strs _, _, rfl, ?_⟩
    rw [signs_in ow]
    refine iteF ?_
    refine ⟨_, rfl, a, _, 0, _, rfl, rfl, hS, atI_nat (j := 0) rfl, rfl, _, rfl, ite2 (fun e => ?_) (fun e => ?_)⟩
    · have e2 : o = "over" := V.str.inj (of_decide_eq_true e)
      have z := qq _ sm
      rw [decide_eq_true e2, Bool.true_or, Bool.true_or] at z
      exact z
    have e2 : o ≠ "over" := fun z => e (decide_eq_true (congrArg V.str z))
    rw [decide_eq_false e2, Bool.false_or] at qq
    refine ⟨_, rfl, a, _, 1, v1, rfl, rfl, hS, atI_nat (j := 1) rfl, v1, z1, rfl, d1, ok1, by omega, fun H1 s1 => ?_⟩
    refine ⟨_, rfl, ?_⟩
    cases ol : faults z1 with
    | true =>
      refine iteT ?_
      have z := qq _ s1
      rw [ol, Bool.true_or] at z
      exact z
    | false =>
      refine iteF ?_
      refine ⟨_, rfl, a, _, 2, v2, rfl, rfl, same_tup s1 hS, atI_nat (j := 2) rfl, v2, z2, rfl, Dp.same s1 _ d2, ok2, by omega, fun H2 s2 => ?_⟩
      have z := qq _ (s1.trans s2)
      rw [ol, Bool.false_or] at z
      exact z
theorem ok_may (F : Fun K "may_fault" "may_fault" sMay f fd) (C : Sg K mg pS) (b : Binds K fd ["part"] []) (gF : mg "may_fault" = some (.ref f)) : ∀ n : Nat, FnOk P w K mg base CX0 (n + 1) f fd ["part"] (spMay K n)
  | 0 => may_none
  | n + 1 => may_step F C (ok_may F C b gF n) b gF
theorem al_none : FnOk P w K mg base CX0 1 f fd ["_law_piece_here"] (spAl K 0) := by
  have bad : ∀ vs H Q E, ¬ spAl K 0 vs H Q E := by
    rintro vs H Q E ⟨v, z, _, _, _, h, _⟩
    have := deep_pos z
    omega
  exact ⟨fun vs H Q E h => absurd h (bad vs H Q E), fun A outer s H args us vs Q E _ _ _ _ h => absurd h (bad vs H Q E)⟩
theorem al_step (F : Fun K "_law_all" "_law_all" sAl f fd) {n : Nat} (G : FnOk P w K mg base CX0 (n + 1) f fd ["_law_piece_here"] (spAl K n)) (b : Binds K fd ["_law_piece_here"] []) (gF : mg "_law_all" = some (.ref f)) :
    FnOk P w K mg base CX0 (n + 2) f fd ["_law_piece_here"] (spAl K (n + 1)) := by
  refine F.ok scAl (fun vs H Q E h => ?_) (fun cdv A outer s H vs Q E hr h => ?_)
  · obtain ⟨v, z, rfl, _⟩ := h
    rfl
  obtain ⟨v, z, rfl, hd, ok, hn, hm, q⟩ := h
  have nd := scAl.nd
  have zl : sizeLine = 16777216 := rfl
  refine ⟨_, pss_cons (ps_set (i := 1) nd rfl (.inl rfl) (pe_lst (pa_cons (pv 0) pa_nil)))
    (C8.pss_cut (ps_if (pt_cmpR op_in_seq (pe_ix ix_tup (pv 0) pe_int (fun _ _ => rfl)) (pe_tup (pa_cons pe_str (pa_cons pe_str (pa_cons pe_str (pa_cons pe_str pa_nil))))) (by with_unfolding_all rfl))
      (pss_one (ps_set (i := 1) nd rfl (.inl rfl) (pe_op op_cat (pe_op op_cat (pv 1) (pe_call G hr (by rfl) gF F.kp b .nil pass0 (pa_cons (pe_ix ix_tup (pv 0) pe_int (fun _ _ => rfl)) pa_nil))) (pe_call G hr (by rfl) gF F.kp b .nil pass0 (pa_cons (pe_ix ix_tup (pv 0) pe_int (fun _ _ => rfl)) pa_nil))))) pss_nil)
    (pss_one (ps_ret (pv 1)))), ?_⟩
  obtain ⟨a, rfl, hz⟩ := pz_at hd
  refine ⟨_, rfl, (by show 1 ≤ sizeLine; decide), fun L nL => ?_⟩
  have j1 := new_same (o := .lst [.ref a]) nL
  have eL : upd H L (.lst [.ref a]) L = some (.lst [.ref a]) := upd_same
  generalize upd H L (.lst [.ref a]) = H1 at j1 eL ⊢
  refine ⟨fun σ' H' => Same H H' ∧ ∃ S us, H' S = some (.lst us) ∧ H S = none ∧ DpAll K H' us ((allP z).map pzD) ∧ σ' = [some (V.ref a), some (V.ref S)], ?_, ?_⟩
  · have hd1 := Dp.same j1 _ hd
    have lone : ∀ {H' : Hp}, Same H1 H' → (allP z).map pzD = [pzD z] → Same H H' ∧ ∃ S us, H' S = some (.lst us) ∧ H S = none ∧ DpAll K H' us ((allP z).map pzD) ∧ [some (V.ref a), some (V.ref L)] = [some (V.ref a), some (V.ref S)] := fun s e =>
      ⟨j1.trans s, L, [.ref a], s _ _ eL, nL, by rw [e]; exact .cons (Dp.same s _ hd1) .nil, rfl⟩
    cases z with
    | cell x y =>
      have hS : SqT K H a [.str "cell", .str x, .str y] := hz
      refine ⟨_, rfl, a, _, 0, _, rfl, rfl, same_tup j1 hS, atI_nat (j := 0) rfl, (by show 4 ≤ sizeLine; decide), fun T nT => ?_⟩
      have j2 := new_same (o := .tup [.str "plus", .str "less", .str "times", .str "over"]) nT
      refine ⟨T, _, rfl, .inr (SqT.of upd_same), rfl, rfl, _, rfl, ?_⟩
      rw [show inV (.str "cell") [.str "plus", .str "less", .str "times", .str "over"] = false by decide]
      exact iteF (lone j2 rfl)
    | num i =>
      have hS : SqT K H a [.str "number", .int i] := hz
      refine ⟨_, rfl, a, _, 0, _, rfl, rfl, same_tup j1 hS, atI_nat (j := 0) rfl, (by show 4 ≤ sizeLine; decide), fun T nT => ?_⟩
      have j2 := new_same (o := .tup [.str "plus", .str "less", .str "times", .str "over"]) nT
      refine ⟨T, _, rfl, .inr (SqT.of upd_same), rfl, rfl, _, rfl, ?_⟩
      rw [show inV (.str "number") [.str "plus", .str "less", .str "times", .str "over"] = false by decide]
      exact iteF (lone j2 rfl)
    | op o z1 z2 =>
      obtain ⟨v1, v2, hS, d1, d2⟩ : ∃ v1 v2, SqT K H a [.str o, v1, v2] ∧ Dp K H v1 (pzD z1) ∧ Dp K H v2 (pzD z2) := hz
      obtain ⟨ow, ok1, ok2⟩ : o ∈ signs ∧ pzOk z1 ∧ pzOk z2 := ok
      have hm : 1 + pzMany z1 + pzMany z2 ≤ 1000 := hm
      have hn : max (pzDeep z1) (pzDeep z2) + 1 ≤ n + 1 := hn
      refine ⟨_, rfl, a, _, 0, _, rfl, rfl, same_tup j1 hS, atI_nat (j := 0) rfl, (by show 4 ≤ sizeLine; decide), fun T nT => ?_⟩
      have j2 := new_same (o := .tup [.str "plus", .str "less", .str "times", .str "over"]) nT
      refine ⟨T, _, rfl, .inr (SqT.of upd_same), rfl, rfl, _, rfl, ?_⟩
      rw [show inV (.str o) [.str "plus", .str "less", .str "times", .str "over"] = true from signs_in ow]
      refine iteT ?_
      have s2 := j1.trans j2
      have eL2 := j2 _ _ eL
      generalize upd H1 T (.tup [.str "plus", .str "less", .str "times", .str "over"]) = H2 at s2 eL2 ⊢
      refine ⟨_, rfl, _, rfl, a, _, 1, v1, rfl, rfl, same_tup s2 hS, atI_nat (j := 1) rfl, v1, z1, rfl, Dp.same s2 _ d1, ok1, by omega, by omega, fun us1 p1 H3 s3 n1 e1 h1 => ?_⟩
      have l1 := all_len z1
      have l2 := all_len z2
      have g1 : us1.length = (allP z1).length := by rw [DpAll.len h1, List.length_map]
      have eL3 := s3 _ _ eL2
      refine ⟨L, p1, _, _, rfl, rfl, eL3, e1, by show 1 + us1.length ≤ sizeLine; omega, fun p np => ?_⟩
      have j4 := new_same (o := .lst ([V.ref a] ++ us1)) np
      have e4 : upd H3 p (.lst ([V.ref a] ++ us1)) p = some (.lst ([V.ref a] ++ us1)) := upd_same
      have s4 := (s2.trans s3).trans j4
      have h14 := DpAll.same j4 _ h1
      generalize upd H3 p (.lst ([V.ref a] ++ us1)) = H4 at s4 e4 h14 ⊢
      refine ⟨_, rfl, a, _, 2, v2, rfl, rfl, same_tup s4 hS, atI_nat (j := 2) rfl, v2, z2, rfl, Dp.same s4 _ d2, ok2, by omega, by omega, fun us2 p2 H5 s5 n2 e2 h2 => ?_⟩
      have g2 : us2.length = (allP z2).length := by rw [DpAll.len h2, List.length_map]
      refine ⟨p, p2, _, _, rfl, rfl, s5 _ _ e4, e2, by rw [List.length_append]; show 1 + us1.length + us2.length ≤ sizeLine; omega, fun p6 np6 => ?_⟩
      have j6 := new_same (o := .lst ([V.ref a] ++ us1 ++ us2)) np6
      have s6 := (s4.trans s5)
      refine ⟨s6.trans j6, p6, _, upd_same, s6.free np6, ?_, rfl⟩
      show DpAll K _ ([V.ref a] ++ us1 ++ us2) (([Pz.op o z1 z2] ++ allP z1 ++ allP z2).map pzD)
      rw [List.map_append, List.map_append]
      exact dp_append (dp_append (.cons (Dp.same (s6.trans j6) _ hd) .nil) (DpAll.same (s5.trans j6) _ h14)) (DpAll.same j6 _ h2)
  · rintro σ' H' ⟨s1, S, us, eS, nS, hS, rfl⟩
    exact ⟨_, rfl, q us S H' s1 nS eS hS⟩
theorem ok_al (F : Fun K "_law_all" "_law_all" sAl f fd) (b : Binds K fd ["_law_piece_here"] []) (gF : mg "_law_all" = some (.ref f)) : ∀ n : Nat, FnOk P w K mg base CX0 (n + 1) f fd ["_law_piece_here"] (spAl K n)
  | 0 => al_none
  | n + 1 => al_step F (ok_al F b gF n) b gF
end
end K02
end

section
set_option Elab.async false
set_option linter.all false
set_option maxRecDepth 100000
set_option maxHeartbeats 4000000
namespace K02
open PySem PySem.Spec PyProof.Rows L2 Gd
abbrev sLd : Stmt := topS 12
abbrev nLd : List Str := ["_law_feed_here", "_law_piece_here", "_law_labels"]
theorem scLd : FnScope nLd nLd (defScope sLd) := ⟨rfl, rfl, rfl, by decide +kernel, rfl, by decide +kernel, by decide +kernel⟩
def spLd (K : PySem.W.Frag) (n : Nat) : Sp := fun vs H Q _ => ∃ (p a : Addr) (v : V) (z : Pz) (S : Int) (ls : List Str), vs = [.ref p, v, .ref a] ∧ Feed H p S ∧ S + 2 * ((pzMany z : Nat) : Int) ≤ 900000000 ∧ Dp K H v (pzD z) ∧ pzOk z ∧ pzDeep z ≤ n ∧
  H a = some (.lst (ls.map V.str)) ∧ a ≠ p ∧ 1 ≤ ls.length ∧ ls.length ≤ 10 ∧ (∀ x ∈ ls, isLab x = true) ∧
  ∀ (v' : V) (z' : Pz) (H' : Hp), Ex1 p H H' → Feed H' p (S + 2 * ((pzMany z : Nat) : Int)) → Dp K H' v' (pzD z') → pzOk z' → pzDeep z' ≤ n → pzMany z' = pzMany z → Q v' H'
theorem many_pos : ∀ z, 1 ≤ pzMany z
  | .cell _ _ => Nat.le_refl _
  | .num _ => Nat.le_refl _
  | .op _ a b => by show 1 ≤ 1 + pzMany a + pzMany b; omega
theorem lab_at {ls : List Str} {r : Int} (h0 : 0 ≤ r) (h1 : r < ((ls.length : Nat) : Int)) : ∃ x, x ∈ ls ∧ atI (ls.map V.str) r = some (.str x) := by
  obtain ⟨k, rfl⟩ : ∃ k : Nat, r = ((k : Nat) : Int) := ⟨r.toNat, by omega⟩
  have hk : k < ls.length := by omega
  exact ⟨ls[k], List.getElem_mem hk, atI_nat (j := k) (by rw [List.getElem?_map, List.getElem?_eq_getElem hk]; rfl)⟩
section
variable {P : Program} {w : World} {K : PySem.W.Frag} {mg : Str → Option Value} {base : Heap} {f fT : Addr} {fd dT : FuncData}
theorem ld_none : FnOk P w K mg base CX0 1 f fd nLd (spLd K 0) := by
  have bad : ∀ vs H Q E, ¬ spLd K 0 vs H Q E := by
    rintro vs H Q E ⟨p, a, v, z, S, ls, _, _, _, _, _, h, _⟩
    have := deep_pos z
    omega
  exact ⟨fun vs H Q E h => absurd h (bad vs H Q E), fun A outer s H args us vs Q E _ _ _ _ h => absurd h (bad vs H Q E)⟩
theorem ld_step (F : Fun K "_law_led" "_law_led" sLd f fd) (mn : mg "len" = none) {n : Nat} (G : FnOk P w K mg base CX0 (n + 1) f fd nLd (spLd K n)) (b : Binds K fd nLd []) (gF : mg "_law_led" = some (.ref f))
    (FT : Fun K "_law_take" "_law_take" sTake fT dT) (GT : FnOk P w K mg base CX0 1 fT dT ["_law_feed_here", "_law_many"] spTake) (bT : Binds K dT ["_law_feed_here", "_law_many"] []) (gT : mg "_law_take" = some (.ref fT)) :
    FnOk P w K mg base CX0 (n + 2) f fd nLd (spLd K (n + 1)) := by
  refine F.ok scLd (fun vs H Q E h => ?_) (fun cdv A outer s H vs Q E hr h => ?_)
  · obtain ⟨p, a, v, z, S, ls, rfl, _⟩ := h
    rfl
  obtain ⟨p, la, v, z, S, ls, rfl, hF, hS0, hd, ok, hn, el, nlp, l1, l10, lab, q⟩ := h
  have nd := scLd.nd
  have zl : sizeLine = 16777216 := rfl
  have r1 := hr.mono (show 1 ≤ n + 1 by omega)
  refine ⟨_, pss_cons (ps_if (pt_cmpR op_eq (pe_ix ix_tup (pv 1) pe_int (fun _ _ => rfl)) pe_str (nomark _))
      (pss_one (ps_ret (pe_tup (pa_cons pe_str (pa_cons (pe_ix ix_list (pv 2) (pe_call GT r1 (by rfl) gT FT.kp bT .nil pass0 (pa_cons (pv 0) (pa_cons (pe_callB call_len_seq (by rfl) mn PySem.boot_len (pa_cons (pv 2) pa_nil)) pa_nil))) (fun _ _ => rfl))
        (pa_cons (pe_ix ix_list (pv 2) (pe_call GT r1 (by rfl) gT FT.kp bT .nil pass0 (pa_cons (pv 0) (pa_cons (pe_callB call_len_seq (by rfl) mn PySem.boot_len (pa_cons (pv 2) pa_nil)) pa_nil))) (fun _ _ => rfl)) pa_nil)))))) pss_nil)
    (pss_cons (ps_if (pt_cmpR op_eq (pe_ix ix_tup (pv 1) pe_int (fun _ _ => rfl)) pe_str (nomark _)) (pss_one (ps_ret (pv 1))) pss_nil)
    (pss_one (ps_ret (pe_tup (pa_cons (pe_ix ix_tup (pv 1) pe_int (fun _ _ => rfl)) (pa_cons (pe_call G hr (by rfl) gF F.kp b .nil pass0 (pa_cons (pv 0) (pa_cons (pe_ix ix_tup (pv 1) pe_int (fun _ _ => rfl)) (pa_cons (pv 2) pa_nil))))
      (pa_cons (pe_call G hr (by rfl) gF F.kp b .nil pass0 (pa_cons (pv 0) (pa_cons (pe_ix ix_tup (pv 1) pe_int (fun _ _ => rfl)) (pa_cons (pv 2) pa_nil)))) pa_nil))))))), ?_⟩
  obtain ⟨a, rfl, hz⟩ := pz_at hd
  have lpos : (0 : Int) < ((ls.map V.str).length : Nat) := by rw [List.length_map]; omega
  obtain ⟨xs0, e0⟩ := hF.lst
  cases z with
  | cell x y =>
    have hS : SqT K H a [.str "cell", .str x, .str y] := hz
    have hS0 : S + 2 * 1 ≤ 900000000 := hS0
    refine ⟨_, rfl, a, _, 0, _, rfl, rfl, hS, atI_nat (j := 0) rfl, rfl, _, rfl, iteT ?_⟩
    refine ⟨_, rfl, _, rfl, _, rfl, la, _, rfl, .inl (SqL.of el), p, _, S, rfl, hF, lpos, by rw [List.length_map]; omega, by omega, fun t1 H1 t10 t11 f1 x1 => ?_⟩
    have el1 := x1 _ _ nlp el
    rw [List.length_map] at t11
    obtain ⟨u1, hu1, eu1⟩ := lab_at t10 t11
    refine ⟨la, _, _, .str u1, rfl, rfl, SqL.of el1, eu1, ?_⟩
    refine ⟨_, rfl, _, rfl, _, rfl, la, _, rfl, .inl (SqL.of el1), ?_⟩
    refine ⟨p, _, S + 1, rfl, f1, lpos, by rw [List.length_map]; omega, by omega, fun t2 H2 t20 t21 f2 x2 => ?_⟩
    have el2 := x2 _ _ nlp el1
    rw [List.length_map] at t21
    obtain ⟨u2, hu2, eu2⟩ := lab_at t20 t21
    refine ⟨la, _, _, .str u2, rfl, rfl, SqL.of el2, eu2, (by show 3 ≤ sizeLine; decide), fun t nt => ?_⟩
    refine q (.ref t) (.cell u1 u2) _ ((x1.trans x2).trans (Ex1.new nt)) ((f2.stays nt).le (by show S + 1 + 1 ≤ S + 2 * 1; omega)) ?_ ⟨lab _ hu1, lab _ hu2⟩ (by show 1 ≤ n + 1; omega) rfl
    exact .tup (SqT.of upd_same) (.cons (.str _) (.cons (.str _) (.cons (.str _) .nil)))
  | num i =>
    have hS : SqT K H a [.str "number", .int i] := hz
    refine ⟨_, rfl, a, _, 0, _, rfl, rfl, hS, atI_nat (j := 0) rfl, rfl, _, rfl, iteF ?_⟩
    refine ⟨_, rfl, a, _, 0, _, rfl, rfl, hS, atI_nat (j := 0) rfl, rfl, _, rfl, iteT ?_⟩
    exact ⟨_, rfl, q _ _ H (Ex1.refl p H) (hF.le (by show S ≤ S + 2 * 1; omega)) hd ok hn rfl⟩
  | op o z1 z2 =>
    obtain ⟨v1, v2, hS, d1, d2⟩ : ∃ v1 v2, SqT K H a [.str o, v1, v2] ∧ Dp K H v1 (pzD z1) ∧ Dp K H v2 (pzD z2) := hz
    obtain ⟨ow, ok1, ok2⟩ : o ∈ signs ∧ pzOk z1 ∧ pzOk z2 := ok
    obtain ⟨nc, nn⟩ := sign_not ow
    have hn : max (pzDeep z1) (pzDeep z2) + 1 ≤ n + 1 := hn
    obtain ⟨M, hM⟩ : ∃ M, M = pzMany (Pz.op o z1 z2) := ⟨_, rfl⟩
    have hM2 : M = 1 + pzMany z1 + pzMany z2 := hM
    rw [← hM] at hS0 q
    refine ⟨_, rfl, a, _, 0, _, rfl, rfl, hS, atI_nat (j := 0) rfl, rfl, _, rfl, ite2 (fun e => absurd (V.str.inj (of_decide_eq_true e)) nc) (fun _ => ?_)⟩
    refine ⟨_, rfl, a, _, 0, _, rfl, rfl, hS, atI_nat (j := 0) rfl, rfl, _, rfl, ite2 (fun e => absurd (V.str.inj (of_decide_eq_true e)) nn) (fun _ => ?_)⟩
    refine ⟨_, rfl, a, _, 0, _, rfl, rfl, hS, atI_nat (j := 0) rfl, _, rfl, _, rfl, a, _, 1, v1, rfl, rfl, hS, atI_nat (j := 1) rfl, _, rfl, p, la, v1, z1, S, ls, rfl, hF, by omega, d1, ok1, by omega, el, nlp, l1, l10, lab, fun w1 y1 H1 x1 f1 e1 o1 g1 m1 => ?_⟩
    have u1 := Ex1.tups (K := K) x1 e0
    obtain ⟨xs1, e1'⟩ := f1.lst
    refine ⟨_, rfl, _, rfl, a, _, 2, v2, rfl, rfl, u1 _ _ hS, atI_nat (j := 2) rfl, _, rfl, p, la, v2, z2, _, ls, rfl, f1, by omega, Dp.tups u1 _ (pz_only _) d2, ok2, by omega, x1 _ _ nlp el, nlp, l1, l10, lab, fun w2 y2 H2 x2 f2 e2 o2 g2 m2 => ?_⟩
    have u2 := Ex1.tups (K := K) x2 e1'
    refine ⟨(by show 3 ≤ sizeLine; decide), fun t nt => ?_⟩
    have jt := new_same (o := .tup [.str o, w1, w2]) nt
    refine q (.ref t) (.op o y1 y2) _ ((x1.trans x2).trans (Ex1.new nt)) ((f2.stays nt).le (by omega)) ?_ ⟨ow, o1, o2⟩ (by show max (pzDeep y1) (pzDeep y2) + 1 ≤ n + 1; omega) (by show 1 + pzMany y1 + pzMany y2 = M; omega)
    exact .tup (SqT.of upd_same) (.cons (.str _) (.cons (Dp.same jt _ (Dp.tups u2 _ (pz_only _) e1)) (.cons (Dp.same jt _ e2) .nil)))
theorem ok_ld (F : Fun K "_law_led" "_law_led" sLd f fd) (mn : mg "len" = none) (b : Binds K fd nLd []) (gF : mg "_law_led" = some (.ref f))
    (FT : Fun K "_law_take" "_law_take" sTake fT dT) (GT : FnOk P w K mg base CX0 1 fT dT ["_law_feed_here", "_law_many"] spTake) (bT : Binds K dT ["_law_feed_here", "_law_many"] []) (gT : mg "_law_take" = some (.ref fT)) : ∀ n : Nat, FnOk P w K mg base CX0 (n + 1) f fd nLd (spLd K n)
  | 0 => ld_none
  | n + 1 => ld_step F mn (ok_ld F mn b gF FT GT bT gT n) b gF FT GT bT gT
end
end K02
end

section
set_option Elab.async false
set_option linter.all false
set_option maxRecDepth 100000
set_option maxHeartbeats 4000000
namespace K02
open PySem PySem.Spec PyProof.Rows L2 Gd
theorem cell_an (x y : Str × Str) (h1 : PySem.W.dataLe false id (cellD x) (cellD y) = true) (h2 : PySem.W.dataLe false id (cellD y) (cellD x) = true) : x = y := by
  have g : ∀ x y : PyData, PySem.W.dataLe false id x y = !PySem.W.dataLt y x := fun _ _ => rfl
  rw [g] at h1 h2
  have e1 : PySem.W.dataLt (cellD y) (cellD x) = false := by
    cases z : PySem.W.dataLt (cellD y) (cellD x) with
    | false => rfl
    | true => rw [z] at h1; cases h1
  have e2 : PySem.W.dataLt (cellD x) (cellD y) = false := by
    cases z : PySem.W.dataLt (cellD x) (cellD y) with
    | false => rfl
    | true => rw [z] at h2; cases h2
  have t := lex_total (O := itemOrd) (PySem.W.keyToks (cellD x)) (PySem.W.keyToks (cellD y)) e2 e1
  have tx : PySem.W.keyToks (cellD x) = [.inl 1, .inr x.1.cps.toList, .inl 1, .inr x.2.cps.toList, .inl 0] := rfl
  have ty : PySem.W.keyToks (cellD y) = [.inl 1, .inr y.1.cps.toList, .inl 1, .inr y.2.cps.toList, .inl 0] := rfl
  rw [tx, ty] at t
  injection t with _ t
  injection t with t1 t
  injection t with _ t
  injection t with t2 _
  exact Prod.ext (PySem.W.str_of_cps (Sum.inr.inj t1)) (PySem.W.str_of_cps (Sum.inr.inj t2))
/-- each once, where it is first met -/
def addOnce (acc : List (Str × Str)) (x : Str × Str) : List (Str × Str) := if x ∈ acc then acc else acc ++ [x]
def once (xs : List (Str × Str)) : List (Str × Str) := xs.foldl addOnce []
theorem once_snoc (xs : List (Str × Str)) (x : Str × Str) : once (xs ++ [x]) = addOnce (once xs) x := by
  unfold once
  rw [List.foldl_append]
  rfl
theorem fold_once : ∀ (xs acc : List (Str × Str)), acc.Nodup → (xs.foldl addOnce acc).Nodup ∧ ∀ x, x ∈ xs.foldl addOnce acc ↔ x ∈ acc ∨ x ∈ xs
  | [], acc, h => ⟨h, fun x => by simp⟩
  | y :: xs, acc, h => by
    rw [List.foldl_cons]
    have h2 : (addOnce acc y).Nodup := by
      unfold addOnce
      split
      · exact h
      · rename_i n
        exact List.nodup_append.mpr ⟨h, by simp, fun a ha b hb e => by rw [List.mem_singleton.mp hb] at e; exact n (e ▸ ha)⟩
    obtain ⟨a, b⟩ := fold_once xs (addOnce acc y) h2
    refine ⟨a, fun x => ?_⟩
    rw [b x]
    unfold addOnce
    split
    · rename_i n
      constructor
      · rintro (q | q)
        · exact .inl q
        · exact .inr (List.mem_cons_of_mem _ q)
      · rintro (q | q)
        · exact .inl q
        · rcases List.mem_cons.mp q with rfl | q
          · exact .inl n
          · exact .inr q
    · rw [List.mem_append, List.mem_singleton, List.mem_cons, or_assoc]
theorem once_nodup (xs : List (Str × Str)) : (once xs).Nodup := (fold_once xs [] List.nodup_nil).1
theorem once_mem (xs : List (Str × Str)) (x : Str × Str) : x ∈ once xs ↔ x ∈ xs := by
  rw [once, (fold_once xs [] List.nodup_nil).2 x]
  simp
/-- each once, in whatever order: told the same -/
theorem told_cells {xs ys : List (Str × Str)} (nx : xs.Nodup) (ny : ys.Nodup) (h : ∀ x, x ∈ xs ↔ x ∈ ys) : told (xs.map cellD) = told (ys.map cellD) := by
  refine told_same ((List.perm_ext_iff_of_nodup nx ny).mpr h |>.map cellD) fun a ha b hb l1 l2 => ?_
  obtain ⟨x, _, rfl⟩ := List.mem_map.mp ha
  obtain ⟨y, _, rfl⟩ := List.mem_map.mp hb
  rw [cell_an x y l1 l2]
theorem alike_cells (xs : List (Str × Str)) : PySem.W.AllAlike (xs.map cellD) := PySem.W.AllAlike.of fun x y => rfl
theorem sort_cells (xs : List (Str × Str)) : PySem.W.Sortable (xs.map cellD) := PySem.W.Sortable.tuples fun x => ⟨_, _, rfl⟩
end K02
end

section
set_option Elab.async false
set_option linter.all false
set_option maxRecDepth 100000
set_option maxHeartbeats 4000000
namespace K02
open PySem PySem.Spec PyProof.Rows L2 Gd
abbrev sRi : Stmt := topS 13
abbrev nRi : List Str := ["_law_piece_here", "_law_held", "_law_due", "_law_one", "_law_turn", "_law_told", "_law_over"]
theorem scRi : FnScope nRi ["_law_piece_here"] (defScope sRi) := ⟨rfl, rfl, rfl, by decide +kernel, rfl, by decide +kernel, by decide +kernel⟩
section
variable {X : Cx}
def rSlC (K : PySem.W.Frag) : V → Option Int → Option Int → Hp → VK → Prop := fun x lo hi H Q => ∃ a xs, x = .ref a ∧ SqT K H a xs ∧ ∀ p H', Same H H' → SqT K H' p (cutV xs lo hi) → Q (.ref p) H'
end
abbrev sCo : Stmt := topS 3
def spCo (K : PySem.W.Frag) : Sp := fun vs H Q _ => ∃ (v : V) (z : Pz), vs = [v] ∧ Dp K H v (pzD z) ∧ pzOk z ∧ pzDeep z ≤ 5 ∧ pzMany z ≤ 31 ∧
  ∀ (us : List V) (p : Addr) (H' : Hp), Same H H' → H p = none → H' p = some (.lst us) → DpAll K H' us (told ((once (cells z)).map cellD)) → Q (.ref p) H'
/-- what repr asks -/
def ShP (d : PyData) : Prop := d.showable = true ∧ d.shown.length ≤ sizeLine ∧ d.depth ≤ 60
def cellOf : Pz → Option (Str × Str)
  | .cell x y => some (x, y)
  | _ => none
theorem cells_of_all (z : Pz) : cells z = (allP z).filterMap cellOf := by
  rw [cells_all]
  congr 1
theorem lab_ok {x : Str} (h : isLab x = true) : PyData.strOk x = true := by
  have a := (isLab_ascii h).2
  rw [List.all_eq_true] at a
  unfold PyData.strOk
  rw [Array.all_eq_true']
  intro c hc
  exact decide_eq_true (Nat.lt_trans (of_decide_eq_true (a c (by simpa using hc))) (by decide))
theorem cell_lay {x : Str × Str} (hx : isLab x.1 = true) (hy : isLab x.2 = true) : (cellD x).canLay0 = true ∧ (cellD x).depth ≤ 1 := by
  constructor
  · simp only [cellD, PyData.canLay0, PyData.canLayAll0, lab_ok hx, lab_ok hy, Bool.and_true]
  · simp [cellD, PyData.depth, PyData.depthAll]
theorem cell_shaped {x : Str × Str} (hx : isLab x.1 = true) (hy : isLab x.2 = true) : SeqAt.shaped (cellD x) = true := by
  obtain ⟨a, b⟩ := cell_lay hx hy
  unfold SeqAt.shaped
  rw [a, Bool.true_and]
  exact decide_eq_true (by omega)
theorem cells_lay : ∀ {xs : List (Str × Str)}, (∀ x ∈ xs, isLab x.1 = true ∧ isLab x.2 = true) → PyData.canLayAll0 (xs.map cellD) = true ∧ PyData.depthAll (xs.map cellD) ≤ 1
  | [], _ => ⟨rfl, Nat.zero_le _⟩
  | x :: xs, h => by
    obtain ⟨a, b⟩ := cells_lay fun y hy => h y (List.mem_cons_of_mem _ hy)
    obtain ⟨c, d⟩ := cell_lay (h x (by simp)).1 (h x (by simp)).2
    refine ⟨by simp only [List.map_cons, PyData.canLayAll0, a, c, Bool.and_true], ?_⟩
    simp only [List.map_cons, PyData.depthAll]
    omega
theorem cells_shaped {xs : List (Str × Str)} (h : ∀ x ∈ xs, isLab x.1 = true ∧ isLab x.2 = true) : SeqAt.shaped (.list (xs.map cellD)) = true := by
  obtain ⟨a, b⟩ := cells_lay h
  unfold SeqAt.shaped
  have e : (PyData.list (xs.map cellD)).depth = PyData.depthAll (xs.map cellD) + 1 := by
    unfold PyData.depth
    rfl
  rw [e]
  simp only [PyData.canLay0, a, Bool.true_and, decide_eq_true_eq]
  omega
theorem cell_eqv (x y : Str × Str) : PyData.eqv (cellD x) (cellD y) = decide (x = y) := by
  have e : PyData.eqv (cellD x) (cellD y) = (decide (x.1 = y.1) && decide (x.2 = y.2)) := by
    simp [cellD, PyData.eqv, PyData.eqvAll]
    first | rfl | rw [Bool.beq_eq_decide_eq] | simp [beq_eq_decide]
  rw [e]
  by_cases h1 : x.1 = y.1
  · by_cases h2 : x.2 = y.2
    · rw [decide_eq_true h1, decide_eq_true h2, decide_eq_true (Prod.ext h1 h2)]; rfl
    · rw [decide_eq_false h2, Bool.and_false, decide_eq_false (fun z => h2 (congrArg (·.2) z))]
  · rw [decide_eq_false h1, Bool.false_and, decide_eq_false (fun z => h1 (congrArg (·.1) z))]
theorem any_cells (x : Str × Str) : ∀ xs : List (Str × Str), ((xs.map cellD).any fun z => PyData.eqv z (cellD x)) = decide (x ∈ xs)
  | [] => by simp
  | y :: xs => by
    rw [List.map_cons, List.any_cons, any_cells x xs, cell_eqv]
    by_cases h : y = x
    · rw [decide_eq_true h, Bool.true_or, decide_eq_true (by rw [h]; simp)]
    · rw [decide_eq_false h, Bool.false_or]
      have : (x ∈ y :: xs) ↔ x ∈ xs := by
        rw [List.mem_cons]
        exact ⟨fun q => q.elim (fun e => absurd e.symm h) id, .inr⟩
      exact (decide_eq_decide.mpr this).symm
theorem all_ok : ∀ {z : Pz}, pzOk z → ∀ p ∈ allP z, pzOk p
  | .cell _ _, h, p, hp => by rw [List.mem_singleton.mp hp]; exact h
  | .num _, h, p, hp => by rw [List.mem_singleton.mp hp]; exact h
  | .op w a b, h, p, hp => by
    have hp : p ∈ [Pz.op w a b] ++ allP a ++ allP b := hp
    rcases List.mem_append.mp hp with q | q
    · rcases List.mem_append.mp q with q | q
      · rw [List.mem_singleton.mp q]; exact h
      · exact all_ok h.2.1 p q
    · exact all_ok h.2.2 p q
theorem once_lab {z : Pz} (h : pzOk z) (i : Nat) : ∀ x ∈ once (((allP z).take i).filterMap cellOf), isLab x.1 = true ∧ isLab x.2 = true := fun x hx => by
  rw [once_mem] at hx
  obtain ⟨p, hp, e⟩ := List.mem_filterMap.mp hx
  have o := all_ok h p (List.mem_of_mem_take hp)
  cases p with
  | cell a b =>
    cases Option.some.inj (show some (a, b) = some x from e)
    exact o
  | _ => cases e
def isOver : Pz → Bool
  | .op w _ _ => decide (w = "over")
  | _ => false
theorem faults_over (z : Pz) : faults z = (allP z).any isOver := by
  rw [faults_all]
  congr 1
theorem word_at {K : PySem.W.Frag} {H : Hp} {v : V} : ∀ {z : Pz}, Dp K H v (pzD z) → ∃ (a : Addr), v = .ref a ∧ ∃ (w : Str) (rest : List V), SqT K H a (.str w :: rest) ∧ isOver z = decide (V.str w = V.str "over")
  | .cell x y, h => by
    obtain ⟨a, rfl, hS⟩ := pz_at h
    exact ⟨a, rfl, _, _, hS, show false = decide (V.str "cell" = V.str "over") by decide⟩
  | .num i, h => by
    obtain ⟨a, rfl, hS⟩ := pz_at h
    exact ⟨a, rfl, _, _, hS, show false = decide (V.str "number" = V.str "over") by decide⟩
  | .op w p q, h => by
    obtain ⟨a, rfl, v1, v2, hS, _, _⟩ := pz_at h
    refine ⟨a, rfl, _, _, hS, ?_⟩
    show decide (w = "over") = _
    exact decide_eq_decide.mpr ⟨fun e => by rw [e], fun e => V.str.inj e⟩
def spRi (K : PySem.W.Frag) : Sp := fun vs H Q _ => ∃ (v : V) (z : Pz), vs = [v] ∧ Dp K H v (pzD z) ∧ pzOk z ∧ pzDeep z ≤ 5 ∧ pzMany z ≤ 31 ∧ ShP (pzD z) ∧ ShP (.list (told ((once (cells z)).map cellD))) ∧ ∀ H', Same H H' → Q (.bl true) H'
section
variable {P : Program} {w : World} {K : PySem.W.Frag} {mg : Str → Option Value} {base : Heap} {f fA fO fM : Addr} {fd dA dO dM : FuncData}
theorem ok_ri (F : Fun K "_law_right" "_law_right" sRi f fd) (mp : mg "repr" = none) (ms : mg "sorted" = none) (mr : mg "range" = none) (slT : ∀ X : Cx, SlR X (rSlC X.K))
    (FA : Fun K "_law_all" "_law_all" sAl fA dA) (GA : FnOk P w K mg base CX0 6 fA dA ["_law_piece_here"] (spAl K 5)) (bA : Binds K dA ["_law_piece_here"] []) (gA : mg "_law_all" = some (.ref fA))
    (FO : Fun K "cells_of" "cells_of" sCo fO dO) (GO : FnOk P w K mg base CX0 7 fO dO ["part"] (spCo K)) (bO : Binds K dO ["part"] []) (gO : mg "cells_of" = some (.ref fO))
    (FM : Fun K "may_fault" "may_fault" sMay fM dM) (GM : FnOk P w K mg base CX0 6 fM dM ["part"] (spMay K 5)) (bM : Binds K dM ["part"] []) (kM : KBinds K dM ["part"] ["part"] onlyK onlyK) (gM : mg "may_fault" = some (.ref fM)) :
    FnG P w K mg base CX0 8 f fd ["_law_piece_here"] (spRi K) := by
  refine okG F scRi (fun vs H Q E h => ?_) (fun cv A out s H vs Q E gd hr h => ?_)
  · obtain ⟨v, z, rfl, _⟩ := h
    rfl
  obtain ⟨v, z, rfl, hd, ok, hn, hm, sp, sc, q⟩ := h
  have nd := scRi.nd
  have zl : sizeLine = 16777216 := rfl
  have r6 := hr.mono (show 6 ≤ 7 by decide)
  have hu5 : (A.deeper (envOfC "_law_right" (defScope sRi) s.heap.objs.size f cv)).units + 65 < cLine := by have := hr.un; omega
  refine ⟨_, pss_cons (ps_set (i := 1) nd rfl (.inl rfl) (pe_callB (call_repr gd hr.units) (by rfl) mp (by decide +kernel) (pa_cons (pv 0) pa_nil)))
      (pss_cons (ps_set (i := 2) nd rfl (.inl rfl) (pe_lst pa_nil))
      (pss_cons (ps_for PassesOwn.never rfl (pi_list (pe_call GA r6 (by rfl) gA FA.kp bA .nil pass0 (pa_cons (pv 0) pa_nil))) (pg_name (i := 3) nd rfl (.inl rfl))
        (pss_one (ps_if (PW.pt (pw_and (pt_cmpR op_eq (pe_ix ix_tup (pv 3) pe_int (fun _ _ => rfl)) pe_str (nomark _)) (pw_and1 (pt_cmpR (op_notInD hu5) (pe_slice (slT _) (pv 3) (po_some pe_int) po_none) (pv 2) (by with_unfolding_all rfl)))))
          (pss_one (ps_expr (pe_bm PySem.F.plainAttrs_list PySem.F.slot_list_append PySem.F.type_list_append mt_append (pv 2) (pa_cons (pe_slice (slT _) (pv 3) (po_some pe_int) po_none) pa_nil)))) pss_nil)))
      (pss_cons (ps_set (i := 2) nd rfl (.inl rfl) (pe_callB (call_sortedD hr.units) (by rfl) ms (by decide +kernel) (pa_cons (pv 2) pa_nil)))
      (pss_cons (ps_for PassesOwn.never rfl (pi_range1 (by rfl) mr (pa_cons pe_int pa_nil)) (pg_name (i := 4) nd rfl (.inl rfl))
        (pss_cons (ps_set (i := 5) nd rfl (.inl rfl) (pe_call GO hr (by rfl) gO FO.kp bO .nil pass0 (pa_cons (pv 0) pa_nil)))
        (pss_cons (ps_if (PW.pt (pw_or (pt_cmpR op_ne (pe_callB (call_repr gd hr.units) (by rfl) mp (by decide +kernel) (pa_cons (pv 5) pa_nil)) (pe_callB (call_repr gd hr.units) (by rfl) mp (by decide +kernel) (pa_cons (pv 2) pa_nil)) (nomark _))
            (pw_or1 (pt_cmpR op_ne (pe_callB (call_repr gd hr.units) (by rfl) mp (by decide +kernel) (pa_cons (pv 0) pa_nil)) (pv 1) (nomark _))))) pss_never pss_nil)
        (pss_cons (ps_expr (pe_bm PySem.F.plainAttrs_list PySem.F.slot_list_append PySem.F.type_list_append mt_append (pv 5) (pa_cons (pe_tup (pa_cons pe_str (pa_cons pe_str pa_nil))) pa_nil)))
        (pss_one (ps_expr (pe_bm0 PySem.F.plainAttrs_list PySem.F.slot_list_reverse PySem.F.type_list_reverse mt_reverse (pv 5))))))))
      (pss_cons (ps_set (i := 6) nd rfl (.inl rfl) (pe_cmpR (op_neL0 hr.units0) (pe_lc (own := [("_law_one", 3)]) (g := gName 3) rfl nd (pi_list (pe_call GA r6 (by rfl) gA FA.kp bA .nil pass0 (pa_cons (pv 0) pa_nil))) (blkOk_by (N := nRi) (sc := defScope sRi) (by decide +kernel)) (fun _ _ _ _ _ => pg_name (i := 3) nd rfl (Or.inl rfl))
          (fun _ _ _ _ _ => pts_one (pt_cmpR op_eq (pe_ix (r := rIxT K) ix_tup (pv 3) pe_int (fun _ _ => rfl)) pe_str (nomark _))) (fun _ _ _ _ _ => pv 3)) (pe_lst pa_nil) (nomark _)))
      (pss_one (ps_ret (pe_and (pe_cmpR op_eq (pe_callB (call_repr gd hr.units) (by rfl) mp (by decide +kernel) (pa_cons (pe_lst (pa_cons (pe_call GM r6 (by rfl) gM FM.kp bM .nil pass0 (pa_cons (pv 0) pa_nil)) (pa_cons (pe_kw GM r6 (by rfl) gM FM.kp kM pass0 (pk_cons (pv 0) pk_nil)) pa_nil))) pa_nil))
          (pe_callB (call_repr gd hr.units) (by rfl) mp (by decide +kernel) (pa_cons (pe_lst (pa_cons (pv 6) (pa_cons (pv 6) pa_nil))) pa_nil)) (nomark _))
        (pe_one (pe_cmpR op_eq (pe_callB (call_repr gd hr.units) (by rfl) mp (by decide +kernel) (pa_cons (pv 0) pa_nil)) (pv 1) (nomark _))))))))))), ?_⟩
  obtain ⟨held, hheld⟩ : ∃ t : Str, t = (pzD z).shown := ⟨_, rfl⟩
  refine ⟨_, rfl, v, _, rfl, hd, sp.1, sp.2.1, sp.2.2, ?_⟩
  rw [← hheld]
  refine ⟨Nat.zero_le _, fun D nD => ?_⟩
  have s1 := new_same (o := .lst []) nD
  have eD : upd H D (.lst []) D = some (.lst []) := upd_same
  generalize upd H D (.lst []) = H1 at s1 eD ⊢
  have onz := pz_only z
  refine ⟨_, rfl, v, z, rfl, Dp.same s1 _ hd, ok, hn, by omega, fun as LA H2 s2 nLA eLA hAs => ?_⟩
  have nLD : LA ≠ D := fun e => by rw [e, eD] at nLA; cases nLA
  refine ⟨LA, rfl, ⟨_, SqL.of eLA⟩, ?_⟩
  have s12 := s1.trans s2
  have eD2 := s2 _ _ eD
  refine for_it walk_list (fun i σ H3 => (∀ c o, c ≠ D → H2 c = some o → H3 c = some o) ∧ ∃ us, H3 D = some (.lst us) ∧ DpAll K H3 us ((once (((allP z).take i).filterMap cellOf)).map cellD) ∧ ∃ y3, σ = [some v, some (.str held), some (.ref D), y3, none, none, none])
    ⟨fun _ _ _ e => e, [], eD2, .nil, none, rfl⟩ (fun i σ H3 _ h => SqL.of (h.1 _ _ nLD eLA)) ?_ ?_
  · rintro i x σ H3 H4 hi ⟨k3, us, eU, hU, y3, rfl⟩ ⟨rfl, ex⟩
    have u3 : Tups K H2 H4 := Ex1.tups k3 eD2
    obtain ⟨d, ed, hd3⟩ := DpAll.at_ (DpAll.tups u3 _ (alls_only _) hAs) ex
    rw [List.getElem?_map, Option.map_eq_some_iff] at ed
    obtain ⟨zi, ezi, rfl⟩ := ed
    obtain ⟨a, rfl, hz⟩ := pz_at hd3
    have lb := once_lab ok i
    have skip : cellOf zi = none → ((allP z).take (i + 1)).filterMap cellOf = ((allP z).take i).filterMap cellOf := fun e => by
      rw [List.take_add_one, ezi, List.filterMap_append]
      simp [e]
    cases zi with
    | cell x y =>
      have hS : SqT K H4 a [.str "cell", .str x, .str y] := hz
      have lx : isLab x = true ∧ isLab y = true := all_ok ok _ (List.mem_of_getElem? ezi)
      have step : ((allP z).take (i + 1)).filterMap cellOf = ((allP z).take i).filterMap cellOf ++ [(x, y)] := by
        rw [List.take_add_one, ezi, List.filterMap_append]
        rfl
      refine ⟨_, rfl, a, _, 0, _, rfl, rfl, hS, atI_nat (j := 0) rfl, rfl, _, rfl, iteT ?_⟩
      refine ⟨_, rfl, _, rfl, a, _, rfl, hS, fun p H5 s5 hp => ?_⟩
      have ecut : cutV [V.str "cell", .str x, .str y] (some 1) none = [.str x, .str y] := by rfl
      rw [ecut] at hp
      have eU5 := s5 _ _ eU
      have hU5 := DpAll.same s5 _ hU
      refine ⟨_, rfl, cellD (x, y), _, .tup hp (.cons (.str _) (.cons (.str _) .nil)), .lst (SqL.of eU5) hU5, cell_shaped lx.1 lx.2, cells_shaped lb, _, rfl, ?_⟩
      rw [any_cells]
      have hlen : us.length ≤ 1000 := by
        rw [DpAll.len hU, List.length_map]
        have e1 := (once_nodup (((allP z).take i).filterMap cellOf)).length_le_of_subset (fun w hw => (once_mem _ w).mp hw)
        have e2 := List.length_filterMap_le cellOf ((allP z).take i)
        have e3 := List.length_take_le' i (allP z)
        have e4 := all_len z
        omega
      by_cases m : (x, y) ∈ once (((allP z).take i).filterMap cellOf)
      · rw [decide_eq_true m]
        refine iteF ?_
        exact ⟨fun c o n e => s5 _ _ (k3 c o n e), us, eU5, by rw [step, once_snoc, addOnce, if_pos m]; exact hU5, _, rfl⟩
      · rw [decide_eq_false m]
        refine iteT ?_
        refine ⟨_, rfl, .inl ⟨rfl, _, SqL.of eU5⟩, _, rfl, _, rfl, a, _, rfl, same_tup s5 hS, fun p2 H6 s6 hp2 => ?_⟩
        rw [ecut] at hp2
        have eU6 := s6 _ _ eU5
        refine ⟨D, us, _, rfl, rfl, eU6, by omega, ?_⟩
        refine ⟨fun c o n e => by rw [upd_ne n]; exact s6 _ _ (s5 _ _ (k3 c o n e)), us ++ [.ref p2], upd_same, ?_, _, rfl⟩
        rw [step, once_snoc, addOnce, if_neg m, List.map_append]
        have t7 : Tups K H6 (upd H6 D (.lst (us ++ [.ref p2]))) := .upd_lst eU6
        exact dp_append (DpAll.tups t7 _ (cells_only _) (DpAll.same s6 _ hU5)) (.cons (.tup (t7 _ _ hp2) (.cons (.str _) (.cons (.str _) .nil))) .nil)
    | num i =>
      have hS : SqT K H4 a [.str "number", .int i] := hz
      refine ⟨_, rfl, a, _, 0, _, rfl, rfl, hS, atI_nat (j := 0) rfl, rfl, _, rfl, iteF ?_⟩
      exact ⟨k3, us, eU, by rw [skip rfl]; exact hU, _, rfl⟩
    | op w z1 z2 =>
      obtain ⟨v1, v2, hS, _, _⟩ : ∃ v1 v2, SqT K H4 a [.str w, v1, v2] ∧ Dp K H4 v1 (pzD z1) ∧ Dp K H4 v2 (pzD z2) := hz
      have ne := (sign_not (all_ok ok _ (List.mem_of_getElem? ezi)).1).1
      refine ⟨_, rfl, a, _, 0, _, rfl, rfl, hS, atI_nat (j := 0) rfl, rfl, _, rfl, ite2 (fun q => absurd (V.str.inj (of_decide_eq_true q)) ne) (fun _ => ?_)⟩
      exact ⟨k3, us, eU, by rw [skip rfl]; exact hU, _, rfl⟩
  · rintro σ H3 ⟨k3, us, eU, hU, y3, rfl⟩
    have la : as.length = (allP z).length := by rw [DpAll.len hAs, List.length_map]
    rw [la, List.take_length, ← cells_of_all] at hU
    have s3 : Same H H3 := fun c o e => k3 c o (ne_of_none e nD) (s12 _ _ e)
    have lc : (once (cells z)).length ≤ 31 := by
      have e1 := (once_nodup (cells z)).length_le_of_subset (fun w hw => (once_mem _ w).mp hw)
      have e2 := cells_len z
      omega
    refine ⟨_, rfl, D, us, _, rfl, SqL.of eU, hU, alike_cells _, sort_cells _, by rw [List.length_map]; omega, fun d hd => ?_, fun ws T nT hws => ?_⟩
    · obtain ⟨x, hx, rfl⟩ := List.mem_map.mp hd
      have : (cellD x).depth = 1 := by simp [cellD, PyData.depth, PyData.depthAll]
      omega
    have j4 := new_same (o := .lst ws) nT
    have s4 := s3.trans j4
    have eT : upd H3 T (.lst ws) T = some (.lst ws) := upd_same
    have hws4 := DpAll.same j4 _ hws
    generalize upd H3 T (.lst ws) = H4 at s4 eT hws4 ⊢
    obtain ⟨rt, hrt⟩ : ∃ t : Str, t = (PyData.list (told ((once (cells z)).map cellD))).shown := ⟨_, rfl⟩
    have no : ∀ x : Str, ¬ ((!decide (V.str x = V.str x)) = true) := fun x => by simp
    refine ⟨2, rfl, by decide, by decide, ?_⟩
    refine for_it walk_range (fun i σ H5 => Same H4 H5 ∧ ∃ y3 y4 y5, σ = [some v, some (.str held), some (.ref T), y3, y4, y5, none])
      ⟨fun _ _ e => e, _, _, _, rfl⟩ (fun _ _ _ _ _ => trivial) ?_ ?_
    · rintro i x σ H5 H6 hi ⟨s5, y3', y4, y5, rfl⟩ ⟨rfl, rfl⟩
      have s46 := s4.trans s5
      refine ⟨_, rfl, v, z, rfl, Dp.same s46 _ hd, ok, hn, hm, fun ts TO H7 s7 nTO eTO hTO => ?_⟩
      have s57 := s5.trans s7
      refine ⟨_, rfl, .ref TO, _, rfl, .lst (SqL.of eTO) hTO, sc.1, sc.2.1, sc.2.2, ?_⟩
      rw [← hrt]
      refine ⟨_, rfl, .ref T, _, rfl, .lst (SqL.of (s57 _ _ eT)) (DpAll.same s57 _ hws4), sc.1, sc.2.1, sc.2.2, ?_⟩
      rw [← hrt]
      refine ⟨rfl, _, rfl, ite2 (fun e => absurd e (no _)) (fun _ => ?_)⟩
      refine ⟨_, rfl, v, _, rfl, Dp.same (s4.trans s57) _ hd, sp.1, sp.2.1, sp.2.2, ?_⟩
      rw [← hheld]
      refine ⟨_, rfl, rfl, _, rfl, ite2 (fun e => absurd e (no _)) (fun _ => ?_)⟩
      have lts : ts.length ≤ 31 := by
        rw [DpAll.len hTO, (told_perm _).length_eq, List.length_map]
        exact lc
      refine ⟨_, rfl, .inl ⟨rfl, _, SqL.of eTO⟩, (by show 2 ≤ sizeLine; decide), fun t nt => ?_⟩
      have jt := new_same (o := .tup [.str "a", .str "a"]) nt
      refine ⟨TO, ts, _, rfl, rfl, jt _ _ eTO, by omega, ?_⟩
      refine ⟨_, rfl, .inl ⟨rfl, _, SqL.of upd_same⟩, TO, _, rfl, rfl, upd_same, ?_⟩
      exact ⟨own_same (s5.free nTO) (own_same (s5.free nTO) (s57.trans jt)), _, _, _, rfl⟩
    · rintro σ H5 ⟨s5, y3', y4, y5, rfl⟩
      have s05 := s4.trans s5
      refine ⟨_, rfl, v, z, rfl, Dp.same s05 _ hd, ok, hn, by omega, fun as2 L2 H6 s6 nL2 eL2 hAs2 => ?_⟩
      have la2 : as2.length = (allP z).length := by rw [DpAll.len hAs2, List.length_map]
      have al31 := all_len z
      have s06 := s05.trans s6
      refine ⟨L2, rfl, ⟨_, SqL.of eL2⟩, fun E nE => ?_⟩
      refine lc_it walk_list (fun i H7 => Same H6 H7 ∧ ∃ acc, H7 E = some (.lst acc) ∧ acc.length ≤ i ∧ acc.isEmpty = !(((allP z).take i).any isOver)) ⟨new_same nE, [], upd_same, Nat.le_refl _, rfl⟩ (fun i H7 _ h => SqL.of (h.1 _ _ eL2)) ?_ ?_
      · rintro i x H7 H8 hi ⟨s7, acc, eE, lacc, hacc⟩ ⟨rfl, ex⟩
        obtain ⟨d, ed, hd8⟩ := DpAll.at_ (DpAll.same s7 _ hAs2) ex
        rw [List.getElem?_map, Option.map_eq_some_iff] at ed
        obtain ⟨zi, ezi, rfl⟩ := ed
        obtain ⟨a, rfl, w0, rest, hS, hw⟩ := word_at hd8
        have st : ((allP z).take (i + 1)).any isOver = (((allP z).take i).any isOver || isOver zi) := by
          rw [List.take_add_one, ezi, List.any_append]
          simp
        refine ⟨rfl, ?_⟩
        refine ⟨_, rfl, a, _, 0, _, rfl, rfl, hS, atI_nat (j := 0) rfl, rfl, _, rfl, ite2 (fun e => ?_) (fun e => ?_)⟩
        · have e2 : isOver zi = true := by rw [hw]; exact e
          refine ⟨_, rfl, acc, eE, by omega, own_same nE s7, acc ++ [.ref a], upd_same, by rw [List.length_append]; show acc.length + 1 ≤ i + 1; omega, ?_⟩
          rw [st, e2, Bool.or_true]
          cases acc <;> rfl
        · have e2 : isOver zi = false := by rw [hw]; exact Bool.eq_false_iff.mpr e
          exact ⟨s7, acc, eE, by omega, by rw [st, e2, Bool.or_false]; exact hacc⟩
      rintro H7 ⟨s7, acc, eE, lacc, hacc⟩
      rw [la2, List.take_length] at hacc
      refine ⟨Nat.zero_le _, fun zz nzz => ?_⟩
      have j8 := new_same (o := .lst []) nzz
      have ez : upd H7 zz (.lst []) zz = some (.lst []) := upd_same
      have eE8 := j8 _ _ eE
      have s08 := (s06.trans s7).trans j8
      generalize upd H7 zz (.lst []) = H8 at ez eE8 s08 ⊢
      refine ⟨E, zz, acc, rfl, rfl, SqL.of eE8, SqL.of ez, ?_⟩
      rw [if_pos rfl, hacc, Bool.not_not, ← faults_over]
      obtain ⟨bt, hbt⟩ : ∃ t : Str, t = (PyData.list [.bool (faults z), .bool (faults z)]).shown := ⟨_, rfl⟩
      have two : ShP (.list [.bool (faults z), .bool (faults z)]) := by
        cases faults z
        · exact ⟨by decide +kernel, by decide +kernel, by decide +kernel⟩
        · exact ⟨by decide +kernel, by decide +kernel, by decide +kernel⟩
      refine ⟨_, rfl, v, z, rfl, Dp.same s08 _ hd, ok, hn, fun H9 s9 => ?_⟩
      refine ⟨_, rfl, v, z, rfl, Dp.same (s08.trans s9) _ hd, ok, hn, fun H10 s10 => ?_⟩
      refine ⟨(by show 2 ≤ sizeLine; decide), fun p1 np1 => ?_⟩
      have j11 := new_same (o := .lst [.bl (faults z), .bl (faults z)]) np1
      refine ⟨.ref p1, _, rfl, .lst (SqL.of upd_same) (.cons (.bl _) (.cons (.bl _) .nil)), two.1, two.2.1, two.2.2, ?_⟩
      rw [← hbt]
      generalize upd H10 p1 (.lst [.bl (faults z), .bl (faults z)]) = H11 at j11 ⊢
      refine ⟨_, rfl, _, rfl, (by show 2 ≤ sizeLine; decide), fun p2 np2 => ?_⟩
      have j12 := new_same (o := .lst [.bl (faults z), .bl (faults z)]) np2
      refine ⟨.ref p2, _, rfl, .lst (SqL.of upd_same) (.cons (.bl _) (.cons (.bl _) .nil)), two.1, two.2.1, two.2.2, ?_⟩
      rw [← hbt]
      generalize upd H11 p2 (.lst [.bl (faults z), .bl (faults z)]) = H12 at j12 ⊢
      have s12' := (((s08.trans s9).trans s10).trans j11).trans j12
      refine ⟨rfl, _, rfl, ite2 (fun _ => ?_) (fun e => absurd (decide_eq_true rfl) e)⟩
      refine ⟨_, rfl, v, _, rfl, Dp.same s12' _ hd, sp.1, sp.2.1, sp.2.2, ?_⟩
      rw [← hheld]
      refine ⟨_, rfl, rfl, ?_⟩
      rw [decide_eq_true rfl]
      exact q _ s12'
end
end K02
end

section
set_option Elab.async false
set_option linter.all false
set_option maxRecDepth 100000
set_option maxHeartbeats 4000000
namespace K02
open PySem PySem.Spec PyProof.Rows L2 Gd
theorem lab_pl {x : Str} (h : isLab x = true) : Szg.Pl x := by
  obtain ⟨a, b⟩ := isLab_ascii h
  rw [List.all_eq_true] at b
  exact ⟨fun c hc => of_decide_eq_true (b c hc), by omega⟩
theorem sign_pl {w : Str} (h : w ∈ signs) : Szg.Pl w := by
  have key : ∀ s : Str, (s.cps.toList.all fun c => decide (c < 128)) = true → s.length ≤ 30 → Szg.Pl s := fun s a b => ⟨fun c hc => of_decide_eq_true (List.all_eq_true.mp a c hc), b⟩
  simp only [signs, List.mem_cons, List.not_mem_nil, or_false] at h
  rcases h with rfl | rfl | rfl | rfl <;> exact key _ (by decide +kernel) (by decide +kernel)
theorem word_pl : Szg.Pl "cell" ∧ Szg.Pl "number" := by
  have key : ∀ s : Str, (s.cps.toList.all fun c => decide (c < 128)) = true → s.length ≤ 30 → Szg.Pl s := fun s a b => ⟨fun c hc => of_decide_eq_true (List.all_eq_true.mp a c hc), b⟩
  exact ⟨key _ (by decide +kernel) (by decide +kernel), key _ (by decide +kernel) (by decide +kernel)⟩
open Szg in
/-- a piece's size -/
theorem pz_sm : ∀ {z : Pz}, pzOk z → Sm (300 * pzMany z) (pzDeep z) (pzD z)
  | .cell x y, h => (Sms.cons (sm_str word_pl.1) (Sms.cons (sm_str (lab_pl h.1)) (Sms.cons (sm_str (lab_pl h.2)) Sms.nil))).tup.mono (by show _ ≤ 300 * 1; decide) (by show 1 ≤ 1; decide)
  | .num i, h => (Sms.cons (sm_str word_pl.2) (Sms.cons (sm_int (i := i) (by
      have h : -(10 ^ 30 : Int) < i ∧ i < 10 ^ 30 := h
      have e : (10 : Nat) ^ 30 ≤ 10 ^ 62 := by decide
      have : i.natAbs ≤ 10 ^ 30 := by omega
      exact Nat.le_trans this e)) Sms.nil)).tup.mono (by show _ ≤ 300 * 1; decide) (by show 1 ≤ 1; decide)
  | .op w a b, h => by
    obtain ⟨hw, ha, hb⟩ : w ∈ signs ∧ pzOk a ∧ pzOk b := h
    have sa := (pz_sm ha).mono (Nat.le_refl _) (Nat.le_max_left (pzDeep a) (pzDeep b))
    have sb := (pz_sm hb).mono (Nat.le_refl _) (Nat.le_max_right (pzDeep a) (pzDeep b))
    have g := (Sms.cons ((sm_str (sign_pl hw)).mono (Nat.le_refl _) (Nat.zero_le (max (pzDeep a) (pzDeep b)))) (Sms.cons sa (Sms.cons sb Sms.nil))).tup
    refine g.mono ?_ (Nat.le_refl _)
    show 30 + 1 + (300 * pzMany a + 1 + (300 * pzMany b + 1 + 0)) + 1 ≤ 300 * (1 + pzMany a + pzMany b)
    omega
theorem pz_shown {z : Pz} (h : pzOk z) (m : pzMany z ≤ 31) (n : pzDeep z ≤ 5) : ShP (pzD z) := by
  have g := (pz_sm h).shown (by omega) (by omega)
  exact g
theorem cells_lab {z : Pz} (h : pzOk z) : ∀ x ∈ once (cells z), isLab x.1 = true ∧ isLab x.2 = true := fun x hx => by
  have := once_lab h (allP z).length x
  rw [List.take_length, ← cells_of_all] at this
  exact this hx
open Szg in
theorem told_shown {z : Pz} (h : pzOk z) (m : pzMany z ≤ 31) : ShP (.list (told ((once (cells z)).map cellD))) := by
  have hl : (told ((once (cells z)).map cellD)).length ≤ 31 := by
    have e1 := (once_nodup (cells z)).length_le_of_subset (fun w hw => (once_mem _ w).mp hw)
    have e2 := cells_len z
    rw [(told_perm _).length_eq, List.length_map]
    omega
  have g := (Sms.all (w := 80) (n := 1) (ds := told ((once (cells z)).map cellD)) fun d hd => by
    have hd := (told_perm _).mem_iff.mp hd
    obtain ⟨x, hx, rfl⟩ := List.mem_map.mp hd
    obtain ⟨a, b⟩ := cells_lab h x hx
    exact (Sms.cons (sm_str (lab_pl a)) (Sms.cons (sm_str (lab_pl b)) Sms.nil)).tup.mono (by decide) (by decide)).lst
  exact g.shown (by omega) (by omega)
end K02
end

section
set_option Elab.async false
set_option linter.all false
set_option maxRecDepth 100000
set_option maxHeartbeats 4000000
/-! Sets of tuples whose items are carried by value (texts, numbers): what a search meets, adding, laying anew. -/
namespace Tp
open PySem PySem.Spec PyProof.Rows L2
section
variable {P : Program} {w : World} {K : Type} [DecidableEq K] {kk : KeyKind P w K} {A : Around} {E : Value → Shared → Prop} {s : Shared}
theorem cls_val {v : Value} (c : carriedByValue v = true) (n : Nat) : ofAClassStatement n v = pure false := by
  cases v with
  | ref _ => cases c
  | _ => cases n <;> rfl
theorem hash_val {v : Value} (c : carriedByValue v = true) (n : Nat) : ∃ b, hashByValue n v = pure b := by
  cases v with
  | ref _ => cases c
  | _ => cases n <;> exact ⟨_, rfl⟩
theorem cls_tup {k : List K} {b : Addr} {Q : Bool → Shared → Prop} (hk : IsTupleKey kk s.heap k b) (q : Q false s) : wpAny (model P w) A (ofAClassStatement 8 (.ref b)) Q E s := by
  have hT := hk.typeIs
  obtain ⟨o, xs, n, ho, -, hd, hi⟩ := hk
  unfold ofAClassStatement
  refine wpAny_bind (wpAny_typeOf hT ?_)
  dsimp only
  rw [show (("tuple" : String) == "tuple") = true by decide]
  simp only [if_true]
  refine wpAny_bind (wpAny_pure (by
    simp only [Bool.not_true, Bool.false_eq_true, if_false]
    show wpAny _ _ (seqItems? (.ref b) >>= _) _ _ s
    refine wpAny_bind (wpAny_seqItems ho hd ?_)
    dsimp only
    refine wpAny_bind (?_ : wpAny _ _ (forIn xs _ _) _ _ s)
    rw [← Array.forIn_toList]
    refine wpAny_forIn_list _ (fun left r s' => (r.1 = none ∧ s' = s) ∧ ∀ v ∈ left, carriedByValue v = true) _ ?_ ?_ _ _ ⟨⟨rfl, rfl⟩, hi.byValue⟩
    · rintro v left r s' ⟨⟨_, rfl⟩, hc⟩
      rw [cls_val (hc v (by simp))]
      refine wpAny_bind (wpAny_pure ?_)
      simp only [Bool.false_eq_true, if_false]
      exact wpAny_pure ⟨⟨rfl, rfl⟩, fun u hu => hc u (by simp [hu])⟩
    · rintro ⟨r1, r2⟩ s' ⟨⟨e, rfl⟩, _⟩
      cases (show r1 = none from e)
      exact wpAny_pure q))
theorem hash_tup {k : List K} {b : Addr} {Q : Bool → Shared → Prop} (hk : IsTupleKey kk s.heap k b) (q : ∀ x, Q x s) : wpAny (model P w) A (hashByValue 8 (.ref b)) Q E s := by
  have hT := hk.typeIs
  obtain ⟨o, xs, n, ho, -, hd, hi⟩ := hk
  unfold hashByValue
  refine wpAny_bind (wpAny_specialOf hT F.slot_tuple_hash.lookup ?_)
  refine wpAny_bind ((wpAny_seqItems ho hd ?_ : wpAny _ _ (seqItems? (.ref b)) _ _ s))
  refine wpAny_bind (?_ : wpAny _ _ (forIn xs _ _) _ _ s)
  rw [← Array.forIn_toList]
  refine wpAny_forIn_list _ (fun left r s' => ((r.1 = none ∨ ∃ z, r.1 = some z) ∧ s' = s) ∧ ∀ v ∈ left, carriedByValue v = true) _ ?_ ?_ _ _ ⟨⟨.inl rfl, rfl⟩, hi.byValue⟩
  · rintro v left r s' ⟨⟨_, rfl⟩, hc⟩
    obtain ⟨z, ez⟩ := hash_val (hc v (by simp)) 7
    rw [ez]
    refine wpAny_bind (wpAny_pure ?_)
    cases z
    · exact wpAny_pure (wpAny_pure (q _))
    · exact wpAny_pure ⟨⟨.inl rfl, rfl⟩, fun u hu => hc u (by simp [hu])⟩
  · rintro ⟨r1, r2⟩ s' ⟨⟨e, rfl⟩, _⟩
    rcases r1 with _ | z
    · exact wpAny_pure (q _)
    · exact wpAny_pure (q _)
/-- what a search tells of tuples shows nothing -/
theorem unseen {k : List K} {b : Addr} {Q : Bool → Shared → Prop} (hk : IsTupleKey kk s.heap k b) {ys : List Value} (hy : ∀ y ∈ ys, ∃ k' c, y = Value.ref c ∧ IsTupleKey kk s.heap k' c) (q : Q false s) :
    wpAny (model P w) A (searchCouldBeSeen (.ref b) ys) Q E s := by
  unfold searchCouldBeSeen
  refine wpAny_bind (wpAny_forIn_list _ (fun left r s' => (r.1 = none ∧ s' = s) ∧ ∀ y ∈ left, ∃ k' c, y = Value.ref c ∧ IsTupleKey kk s.heap k' c) _ ?_ ?_ _ _ ⟨⟨rfl, rfl⟩, hy⟩)
  · rintro v left r s' ⟨⟨_, rfl⟩, hl⟩
    obtain ⟨k', c, rfl, hc⟩ := hl v (by simp)
    have hl' : ∀ y ∈ left, ∃ k' c, y = Value.ref c ∧ IsTupleKey kk s'.heap k' c := fun u hu => hl u (by simp [hu])
    dsimp only
    cases hv : (b == c || (carriedByValue (.ref b) && carriedByValue (.ref c))) with
    | true =>
      rw [if_pos rfl]
      exact wpAny_pure ⟨⟨rfl, rfl⟩, hl'⟩
    | false =>
      rw [if_neg Bool.false_ne_true]
      have nn : ∀ {α : Type} (x y : α), (if (!true) = true then x else y) = y := fun x y => if_neg (by decide)
      refine wpAny_bind (wpAny_eqIsQuiet_tuple hk ?_)
      rw [nn]
      refine wpAny_bind (wpAny_eqIsQuiet_tuple hc ?_)
      rw [nn]
      refine wpAny_bind (cls_tup hk ?_)
      rw [if_neg Bool.false_ne_true]
      refine wpAny_bind (cls_tup hc ?_)
      rw [if_neg Bool.false_ne_true]
      exact wpAny_pure ⟨⟨rfl, rfl⟩, hl'⟩
  · rintro ⟨r1, r2⟩ s' ⟨⟨e, rfl⟩, _⟩
    cases (show r1 = none from e)
    exact wpAny_pure q
/-- a row's hash and entry: where the tuple stands, what it holds -/
abbrev hsh (kk : KeyKind P w K) (r : Addr × List K) : Int := tupleKeyHash kk r.2
abbrev ent (kk : KeyKind P w K) (r : Addr × List K) : Int × Value := (hsh kk r, .ref r.1)
/-- the set at a holds these rows, each once -/
structure Has (kk : KeyKind P w K) (h : Heap) (a : Addr) (L : List (Addr × List K)) (es : Array (Int × Value)) (ep : Nat) (t : SetTable) : Prop where
  ob : ∃ o, h.get? a = some o ∧ o.ExactSet ∧ o.data = .set es ep t
  ents : es.toList = L.map (ent kk)
  tab : TabOk t (L.map (hsh kk))
  once : (L.map (·.2)).Nodup
  led : w.params.followText "set-order" = true ∨ t.led = true
  room : L.length * 5 < t.mask * 3
  few : L.length < 64
variable {a : Addr} {L : List (Addr × List K)} {es : Array (Int × Value)} {ep : Nat} {t : SetTable} {h : Heap}
theorem Has.size (R : Has kk h a L es ep t) : es.size = L.length := by
  rw [← Array.length_toList, R.ents, List.length_map]
theorem Has.places (R : Has kk h a L es ep t) : t.place.size = L.length := by
  rw [R.tab.sz, List.length_map]
theorem Has.fits (R : Has kk h a L es ep t) : t.fits es.size = true := by
  have := R.room
  unfold SetTable.fits SetTable.fill
  rw [R.tab.dm, R.places, R.size, beq_self_eq_true, Bool.true_and]
  exact decide_eq_true (show L.length + 0 ≤ t.mask by omega)
theorem Has.odd (R : Has kk h a L es ep t) : ¬ t.gaveWay = true := by
  unfold SetTable.gaveWay
  rw [mask_odd R.tab.mok]
  decide
theorem Has.at (R : Has kk h a L es ep t) {i : Nat} {r : Addr × List K} (e : L[i]? = some r) : es[i]? = some (ent kk r) := by
  rw [← Array.getElem?_toList, R.ents, List.getElem?_map, e]
  rfl
theorem no_dummy (m : Nat) : ∀ (n : Nat) (p : SetTable.Probe), p.dummy = none → (nth m p n).dummy = none
  | 0, _, e => e
  | n + 1, p, e => no_dummy m n (adv m p) (by unfold adv; split <;> exact e)
theorem look {x : Addr} {k : List K} {z : Int} (ez : z = tupleKeyHash kk k) (R : Has kk s.heap a L es ep t) (hT : ∀ r ∈ L, IsTupleKey kk s.heap r.2 r.1) (hx : IsTupleKey kk s.heap k x) (hu : A.units < cLine)
    {N : Nat} (hN : N < 10 * SetTable.turns t.mask) (fr : way t.mask z N ∉ t.place.toList) (oc : ∀ c, c < N → way t.mask z c ∈ t.place.toList) {Q : SetFound → Shared → Prop}
    (qin : k ∈ L.map (·.2) → Q (.there none) s) (qout : k ∉ L.map (·.2) → Q (.free (way t.mask z N) false) s) :
    ∀ (f c : Nat) (st : Option SetTable.Probe), st.getD (t.probeStart z) = nth t.mask (t.probeStart z) c → c ≤ N → N < c + f →
      (∀ (i : Nat) r, L[i]? = some r → r.2 = k → ∃ d, c ≤ d ∧ d < N ∧ t.place.toList[i]? = some (way t.mask z d)) → wpAny (model P w) A (setSearchFrom a (.ref x) z true f st) Q E s := by
  intro f
  induction f with
  | zero => intro c _ _ h1 h2; omega
  | succ f ih =>
    intro c st hst hc hf hr
    obtain ⟨o, ho, hex, hd⟩ := R.ob
    rw [setSearchFrom_succ]
    refine wpAny_bind (wpAny_setState_of ho hd R.fits ?_)
    dsimp only
    refine wp_if_neg R.odd ?_
    try refine wpAny_bind (wpAny_pure ?_)
    obtain ⟨p, hp⟩ : ∃ p, p = nth t.mask (t.probeStart z) c := ⟨_, rfl⟩
    have ej : ∀ q, (nth t.mask p q).j = way t.mask z (c + q) := fun q => by
      rw [hp, ← nth_add]
      rfl
    have eN : way t.mask z (c + (N - c)) = way t.mask z N := by rw [Nat.add_sub_cancel' hc]
    have sp := go_spec t R.tab.ris R.tab.dm (fun i => (es[i]?.map (·.1)).getD 0) z (10 * SetTable.turns t.mask) (N - c) p (by rw [hp]; exact no_dummy _ _ _ rfl) (by omega)
      (fun q hq => by rw [ej]; exact oc _ (by omega)) (by rw [ej, eN]; exact fr)
    have hash : ∀ (i : Nat) r, L[i]? = some r → (es[i]?.map (·.1)).getD 0 = hsh kk r := fun i r e => by rw [R.at e]; rfl
    rw [hst, ← hp]
    rcases sp with ⟨q, i, hq, hi, hh, hno, hpr⟩ | ⟨hno, hpr⟩
    · have hpr : t.probe (fun i => (es[i]?.map (·.1)).getD 0) z p = _ := hpr
      rw [hpr]
      dsimp only
      rw [ej] at hi ⊢
      have il : i < L.length := by
        rw [← R.places, ← Array.length_toList]
        exact (List.getElem?_eq_some_iff.mp hi).1
      obtain ⟨r, er⟩ : ∃ r, L[i]? = some r := ⟨_, List.getElem?_eq_getElem il⟩
      have rm : r ∈ L := List.mem_of_getElem? er
      have further : wpAny (model P w) A (searchRest a (.ref x) z true f es t (way t.mask z (c + q)) i (nth t.mask p (q + 1))) Q E s := by
        unfold searchRest
        rw [R.at er]
        dsimp only
        refine wpAny_bind (wpAny_holding (wpAny_eqBool_tuple hu (hT r rm) hx ?_))
        refine wpAny_bind (wpAny_setState_of ho hd R.fits ?_)
        dsimp only
        by_cases same : r.2 = k
        · rw [decide_eq_true same]
          refine wp_if_pos rfl (wpAny_pure (qin ?_))
          exact List.mem_map.mpr ⟨r, rm, same⟩
        · rw [decide_eq_false same]
          refine wp_if_neg (by decide) ?_
          try refine wpAny_bind (wpAny_pure ?_)
          rw [sameMem]
          dsimp only
          have live : t.slot (way t.mask z (c + q)) = .live i := slot_live R.tab.ris hi
          simp only [if_true, live, R.at er]
          refine wpAny_bind (wpAny_isSame_ref_self (wpAny_bind (wpAny_pure ?_)))
          simp only [if_true, Bool.false_eq_true, if_false]
          refine ih (c + (q + 1)) _ (by rw [hp, ← nth_add]; rfl) (by omega) (by omega) fun i2 r2 e2 k2 => ?_
          obtain ⟨d, d1, d2, d3⟩ := hr i2 r2 e2 k2
          refine ⟨d, ?_, d2, d3⟩
          rcases Nat.lt_trichotomy d (c + q) with y | y | y
          · refine absurd ?_ (hno (d - c) i2 (by omega) (by rw [ej, Nat.add_sub_cancel' d1]; exact d3))
            rw [hash i2 r2 e2, ez, ← k2]
          · rw [y] at d3
            have l2 := slot_live R.tab.ris d3
            rw [live] at l2
            injection l2 with l2
            rw [← l2, er] at e2
            cases e2
            exact absurd k2 same
          · exact y
      by_cases hl : t.led = true
      · refine wp_if_neg (by rw [hl]; decide) ?_
        try refine wpAny_bind (wpAny_pure ?_)
        exact further
      · refine wp_if_pos (by rw [Bool.eq_false_iff.mpr hl]; rfl) (wpAny_bind (unseen hx (fun y hy => ?_) ?_))
        · obtain ⟨e, he, ee⟩ := List.mem_map.mp hy
          have he1 : e ∈ es := by
            have : e ∈ es ∧ e.1 = z := by simpa using he
            exact this.1
          have he2 : e ∈ es.toList := by simpa using he1
          rw [R.ents] at he2
          obtain ⟨r2, m2, e2⟩ := List.mem_map.mp he2
          exact ⟨r2.2, r2.1, by rw [← ee, ← e2], hT r2 m2⟩
        · refine wp_if_neg Bool.false_ne_true ?_
          try refine wpAny_bind (wpAny_pure ?_)
          exact further
    · have hpr : t.probe (fun i => (es[i]?.map (·.1)).getD 0) z p = _ := hpr
      rw [hpr, ej, eN]
      dsimp only
      refine wpAny_pure (qout fun hm => ?_)
      obtain ⟨r, rm, ek⟩ := List.mem_map.mp hm
      obtain ⟨i, hi, e⟩ := List.getElem_of_mem rm
      have er : L[i]? = some r := by rw [List.getElem?_eq_getElem hi, e]
      obtain ⟨d, d1, d2, d3⟩ := hr i r er ek
      refine hno (d - c) i (by omega) (by rw [ej, Nat.add_sub_cancel' d1]; exact d3) ?_
      rw [hash i r er, ez, ← ek]
/-- the search as adding asks for it -/
theorem look0 {x : Addr} {k : List K} {z : Int} (ez : z = tupleKeyHash kk k) (R : Has kk s.heap a L es ep t) (hT : ∀ r ∈ L, IsTupleKey kk s.heap r.2 r.1) (hx : IsTupleKey kk s.heap k x) (hu : A.units < cLine) {Q : SetFound → Shared → Prop}
    (qin : k ∈ L.map (·.2) → Q (.there none) s) (qout : ∀ N, k ∉ L.map (·.2) → way t.mask z N ∉ t.place.toList → (∀ c, c < N → way t.mask z c ∈ t.place.toList) → Q (.free (way t.mask z N) false) s) :
    wpAny (model P w) A (setSearch a (.ref x) z true) Q E s := by
  have room := R.room
  obtain ⟨N, hN, fr, oc⟩ := R.tab.first (by rw [List.length_map]; omega) z
  have big : N < 0 + 100000 := by
    have : 10 * SetTable.turns t.mask ≤ 1420 := by
      unfold SetTable.turns
      rcases R.tab.mok with e | e | e <;> omega
    omega
  refine look ez R hT hx hu hN fr oc qin (fun n => qout N n fr oc) 100000 0 none rfl (Nat.zero_le _) big fun i r er ek => ?_
  have e1 : (L.map (hsh kk))[i]? = some z := by rw [List.getElem?_map, er, ez, ← ek]; rfl
  have il : i < t.place.toList.length := by
    rw [Array.length_toList, R.places]
    exact (List.getElem?_eq_some_iff.mp er).1
  obtain ⟨d, d1, d2⟩ := R.tab.before fr e1 (List.getElem?_eq_getElem il)
  exact ⟨d, Nat.zero_le _, d1, by rw [List.getElem?_eq_getElem il, d2]⟩
/-- a tuple is none of the sets -/
theorem tup_stays {h h' : Heap} {k : List K} {b : Addr} {o : Obj} (x : IsTupleKey kk h k b) (ho : h.get? a = some o) (hd : o.data = .set es ep t) (sb : Heap.SameBut a h h') : IsTupleKey kk h' k b := by
  obtain ⟨o2, xs, n, e, c, d, i⟩ := x
  refine ⟨o2, xs, n, (sb.2 b fun q => ?_).trans e, c, d, i⟩
  rw [q, ho] at e
  rw [← Option.some.inj e, hd] at d
  cases d
theorem filter_each {α β : Type} {f : α → Option β} {g : α → β} : ∀ {l : List α}, (∀ x ∈ l, f x = some (g x)) → l.filterMap f = l.map g
  | [], _ => rfl
  | x :: l, q => by
    rw [List.filterMap_cons_some (q x (by simp)), List.map_cons, filter_each fun y hy => q y (by simp [hy])]
theorem all_rows {α : Type} (d : α) (l : List α) : (List.range l.length).map (fun i => l.getD i d) = l := by
  refine List.ext_getElem (by simp) fun i h1 h2 => ?_
  simp [List.getD_eq_getElem?_getD, h2]
/-- the table laid anew -/
theorem relay {o : Obj} (ho : s.heap.get? a = some o) (hex : o.ExactSet) (hd : o.data = .set es ep t) (ee : es.toList = L.map (ent kk)) (pl : t.place.size = L.length) (dm : t.dummies = #[]) (fl : L.length ≤ t.mask)
    (nd : (L.map (·.2)).Nodup) (ld : w.params.followText "set-order" = true ∨ t.led = true) (few : L.length < 64) {wanted M : Nat} (hw : SetTable.sizeAbove wanted - 1 = M) (hM : MaskOk M) (hz : SetTable.sizeAbove wanted ≤ 128)
    (rm : L.length * 5 < M * 3) {Q : Unit → Shared → Prop} (q : ∀ h' L' es' ep' t', Heap.SameBut a s.heap h' → Has kk h' a L' es' ep' t' → L'.Perm L → Q () { s with heap := h' }) : wpAny (model P w) A (setRelay a wanted) Q E s := by
  have sz : es.size = L.length := by rw [← Array.length_toList, ee, List.length_map]
  have fits : t.fits es.size = true := by
    unfold SetTable.fits SetTable.fill
    rw [dm, pl, sz, beq_self_eq_true, Bool.true_and]
    exact decide_eq_true (show L.length + 0 ≤ t.mask from fl)
  obtain ⟨t', ord, e, hp, T, em, el, epl, ed⟩ := relaid_ok t (hs := es.map (·.1)) (wanted := wanted) hw hM (by rw [Array.size_map, sz]; omega)
  rw [Array.size_map, sz] at hp
  obtain ⟨L', eL⟩ : ∃ L', L' = ord.toList.map fun i => L.getD i (0, []) := ⟨_, rfl⟩
  have at_ : ∀ i ∈ ord.toList, es[i]? = some (ent kk (L.getD i (0, []))) := fun i hi => by
    have il : i < L.length := List.mem_range.mp (hp.mem_iff.mp hi)
    rw [← Array.getElem?_toList, ee, List.getElem?_map, List.getD_eq_getElem?_getD, List.getElem?_eq_getElem il]
    rfl
  have e1 : (ord.filterMap (es[·]?)).toList = L'.map (ent kk) := by
    have : (ord.filterMap (es[·]?)).toList = ord.toList.filterMap fun i => es[i]? := by simp
    rw [this, filter_each at_, eL, List.map_map]
    rfl
  have e2 : (ord.toList.map fun i => (es.map (·.1)).getD i 0) = L'.map (hsh kk) := by
    rw [eL, List.map_map]
    refine List.map_congr_left fun i hi => ?_
    have : (es.map (·.1))[i]? = some (hsh kk (L.getD i (0, []))) := by rw [Array.getElem?_map, at_ i hi]; rfl
    simp only [Array.getD_eq_getD_getElem?, this]
    rfl
  have pm : L'.Perm L := by
    have := hp.map fun i => L.getD i (0, ([] : List K))
    rw [all_rows, ← eL] at this
    exact this
  rw [e2] at T
  have s2 : (ord.filterMap (es[·]?)).size = L.length := by rw [← Array.length_toList, e1, List.length_map, pm.length_eq]
  rw [setRelay_eq]
  refine wpAny_bind (wpAny_setState_of ho hd fits ?_)
  dsimp only
  refine wp_if_neg (by rw [sizeLine_eq]; omega) ?_
  try refine wpAny_bind (wpAny_pure ?_)
  rw [e]
  dsimp only
  refine wpAny_bind ?_
  refine wp_if_neg (by rw [s2, sz]; simp) ?_
  try refine wpAny_bind (wpAny_pure ?_)
  refine wpAny_pure ?_
  dsimp only
  refine wpAny_storeSet_of ho hd ?_ (by rw [s2, sizeLine_eq]; omega)
  have sb : Heap.SameBut a s.heap (s.heap.update a (Obj.putSet (ord.filterMap (es[·]?)) t')) := Heap.SameBut.update ..
  refine q _ L' _ (ep + 1) t' sb ⟨⟨_, store_at ho hd, ⟨hex.1, hex.2.1, hex.2.2⟩, rfl⟩, e1, T, (pm.map (·.2)).nodup_iff.mpr nd, by rw [el]; exact ld, ?_, by rw [pm.length_eq]; exact few⟩ pm
  rw [pm.length_eq, em]
  exact rm
theorem TabOk.noplain {t : SetTable} {hs : List Int} (T : TabOk t hs) (b : Bool) : TabOk { t with plain := b } hs := ⟨T.ris, T.dm, T.sz, T.mok, T.bd, T.reach⟩
/-- adding -/
theorem add {x : Addr} {k : List K} {z : Int} (ez : z = tupleKeyHash kk k) (R : Has kk s.heap a L es ep t) (hT : ∀ r ∈ L, IsTupleKey kk s.heap r.2 r.1) (hx : IsTupleKey kk s.heap k x) (hu : A.units < cLine) (few : L.length + 1 < 64) {Q : Bool → Shared → Prop}
    (q : ∀ b h' L' es' ep' t', Heap.SameBut a s.heap h' → Has kk h' a L' es' ep' t' → (k ∈ L.map (·.2) → L' = L) → (k ∉ L.map (·.2) → L'.Perm ((x, k) :: L)) → Q b { s with heap := h' }) :
    wpAny (model P w) A (setAddHashed a (.ref x) z) Q E s := by
  obtain ⟨o, ho, hex, hd⟩ := R.ob
  have room := R.room
  unfold setAddHashed
  refine wpAny_holding ?_
  rw [show (100000 : Nat) = 99999 + 1 from rfl, setAddHashedIn_succ]
  refine wpAny_bind (wpAny_setState_of ho hd R.fits ?_)
  dsimp only
  refine wp_if_neg (by simp [byScan, Value.scannable]) ?_
  try refine wpAny_bind (wpAny_pure ?_)
  refine wpAny_bind (look0 ez R hT hx hu (fun m => ?_) fun N m fr oc => ?_)
  · dsimp only
    exact wpAny_pure (q false s.heap L es ep t (Heap.SameBut.refl a s.heap) R (fun _ => rfl) fun n => absurd m n)
  dsimp only
  refine wpAny_bind (wpAny_setState_of ho hd R.fits ?_)
  dsimp only
  obtain ⟨q1, q2, q3, q4, q5, _, _, _, q9⟩ := R.tab.put fr oc
  generalize t.put (way t.mask z N) = pt at q1 q3 q4 q5 q9 ⊢
  obtain ⟨t1, p⟩ := pt
  dsimp only at q1 q3 q4 q5 q9 ⊢
  rw [← q1] at q2 q3
  obtain ⟨L1, e1⟩ : ∃ L1, L1 = L.take p ++ (x, k) :: L.drop p := ⟨_, rfl⟩
  have pm : L1.Perm ((x, k) :: L) := by rw [e1]; exact put_perm L p (x, k)
  have len1 : L1.length = L.length + 1 := pm.length_eq
  have hs1 : (L.map (hsh kk)).take p ++ z :: (L.map (hsh kk)).drop p = L1.map (hsh kk) := by
    rw [e1, List.map_append, List.map_cons, List.map_take, List.map_drop, ez]
  have ee1 : (SetTable.insertAt es p (z, Value.ref x)).toList = L1.map (ent kk) := by
    rw [SetTable.toList_insertAt, R.ents, e1, List.map_append, List.map_cons, List.map_take, List.map_drop, ez]
  have sz1 : (SetTable.insertAt es p (z, Value.ref x)).size = L.length + 1 := by
    rw [← Array.length_toList, ee1, List.length_map, len1]
  have nd1 : (L1.map (·.2)).Nodup := (pm.map (·.2)).nodup_iff.mpr (List.nodup_cons.mpr ⟨m, R.once⟩)
  rw [hs1] at q3
  rw [List.length_map] at q9
  rw [R.size]
  generalize SetTable.insertAt es p (z, Value.ref x) = es1 at ee1 sz1 ⊢
  have go : ∀ t2 : SetTable, TabOk t2 (L1.map (hsh kk)) → t2.mask = t.mask → t2.led = t.led → t2.fill = L.length + 1 →
      wpAny (model P w) A (storeSet a es1 t2 >>= fun _ => if (!false && t2.tooFull) = true then (setRelay a (SetTable.grown (L.length + 1)) >>= fun _ => pure true) else pure true) Q E s := fun t2 T2 m2 l2 f2 => by
    have sb : Heap.SameBut a s.heap (s.heap.update a (Obj.putSet es1 t2)) := Heap.SameBut.update ..
    have ho1 := store_at (es' := es1) (t' := t2) ho hd
    have ld : w.params.followText "set-order" = true ∨ t2.led = true := by rw [l2]; exact R.led
    refine wpAny_bind (wpAny_storeSet_of ho hd ?_ (by rw [sz1, sizeLine_eq]; omega))
    generalize s.heap.update a (Obj.putSet es1 t2) = h1 at sb ho1 ⊢
    have pl1 : t2.place.size = L1.length := by rw [T2.sz, List.length_map]
    cases full : t2.tooFull with
    | false =>
      refine wp_if_neg (by decide) (wpAny_pure (q true h1 L1 es1 (ep + 1) t2 sb ⟨⟨_, ho1, ⟨hex.1, hex.2.1, hex.2.2⟩, rfl⟩, ee1, T2, nd1, ld, ?_, by omega⟩ (fun y => absurd y m) fun _ => pm))
      unfold SetTable.tooFull at full
      rw [decide_eq_false_iff_not, f2] at full
      omega
    | true =>
      refine wp_if_pos rfl (wpAny_bind ?_)
      unfold SetTable.tooFull at full
      rw [decide_eq_true_eq, f2, m2] at full
      have relay1 : ∀ M, SetTable.sizeAbove (SetTable.grown (L.length + 1)) - 1 = M → MaskOk M → SetTable.sizeAbove (SetTable.grown (L.length + 1)) ≤ 128 → (L.length + 1) * 5 < M * 3 →
          wpAny (model P w) A (setRelay a (SetTable.grown (L.length + 1))) (fun _ s' => wpAny (model P w) A (pure true) Q E s') E { s with heap := h1 } := fun M a1 a2 a3 a4 => by
        refine relay (kk := kk) (s := { s with heap := h1 }) ho1 ⟨hex.1, hex.2.1, hex.2.2⟩ rfl ee1 pl1 T2.dm (by omega) nd1 ld (by omega) a1 a2 a3 (by rw [len1]; exact a4) ?_
        intro h2 L2 es2 ep2 t3 sb2 R2 pm2
        exact wpAny_pure (q true h2 L2 es2 ep2 t3 (sb.trans sb2) R2 (fun y => absurd y m) fun _ => pm2.trans pm)
      have two : (t.mask = 7 ∧ L.length = 4) ∨ (t.mask = 31 ∧ L.length = 18) := by
        rcases R.tab.mok with e | e | e
        · exact .inl ⟨e, by omega⟩
        · exact .inr ⟨e, by omega⟩
        · omega
      rcases two with ⟨_, e⟩ | ⟨_, e⟩
      · exact relay1 31 (by rw [e]; exact congrArg (· - 1) size_20) (.inr (.inl rfl)) (by rw [e]; exact Nat.le_trans (Nat.le_of_eq size_20) (by decide)) (by omega)
      · exact relay1 127 (by rw [e]; exact congrArg (· - 1) size_76) (.inr (.inr rfl)) (by rw [e]; exact Nat.le_trans (Nat.le_of_eq size_76) (by decide)) (by omega)
  by_cases plain : t1.plain = true
  · refine wp_if_pos plain (wpAny_bind (hash_tup hx fun b => ?_))
    cases b
    · exact go _ (TabOk.noplain q3 false) q4 q5 q9
    · exact go t1 q3 q4 q5 q9
  · refine wp_if_neg plain (wpAny_bind (wpAny_pure ?_))
    exact go t1 q3 q4 q5 q9
end
end Tp
end

section
set_option Elab.async false
set_option linter.all false
set_option maxRecDepth 100000
set_option maxHeartbeats 4000000
/-! set(xs) of a list of tuples whose items are carried by value; sorted of it. -/
namespace Tp
open PySem PySem.Spec PyProof.Rows L2
section
variable {P : Program} {w : World} {K : Type} [DecidableEq K] {kk : KeyKind P w K} {A : Around} {E : Value → Shared → Prop} {s : Shared}
/-- a set as it is made -/
abbrev setO (w : World) : Obj := { cls := .type "set", dict := none, data := .set #[] 0 (.fresh 0 0 (!w.params.followText "set-order")) }
theorem fresh {h : Heap} {a : Addr} (e : h.get? a = some (setO w)) : Has kk h a [] #[] 0 (.fresh 0 0 (!w.params.followText "set-order")) := by
  refine ⟨⟨_, e, ⟨rfl, rfl, rfl⟩, rfl⟩, rfl, ⟨.nil, rfl, rfl, .inl rfl, (fun _ m => nomatch m), (fun _ _ _ m => nomatch m)⟩, .nil, ?_, (by show 0 * 5 < 7 * 3; decide), (by show 0 < 64; decide)⟩
  show _ ∨ (!w.params.followText "set-order") = true
  cases w.params.followText "set-order"
  · exact .inr rfl
  · exact .inl rfl
/-- what is in the set behind i turns -/
def Met (ks : List (Addr × List K)) (i : Nat) (L : List (Addr × List K)) : Prop := (∀ r ∈ L, r ∈ ks.take i) ∧ (∀ r ∈ ks.take i, r.2 ∈ L.map (·.2)) ∧ L.length ≤ i
theorem Met.next {ks L L' : List (Addr × List K)} {i : Nat} {r : Addr × List K} (g : Met ks i L) (e : ks[i]? = some r) (h1 : r.2 ∈ L.map (·.2) → L' = L) (h2 : r.2 ∉ L.map (·.2) → L'.Perm (r :: L)) : Met ks (i + 1) L' := by
  have et : ks.take (i + 1) = ks.take i ++ [r] := by rw [List.take_add_one, e]; rfl
  obtain ⟨g1, g2, g3⟩ := g
  rw [Met, et]
  by_cases m : r.2 ∈ L.map (·.2)
  · rw [h1 m]
    refine ⟨fun q hq => List.mem_append_left _ (g1 q hq), fun q hq => ?_, by omega⟩
    rcases List.mem_append.mp hq with y | y
    · exact g2 q y
    · rw [List.mem_singleton.mp y]; exact m
  · have p := h2 m
    refine ⟨fun q hq => ?_, fun q hq => ?_, by rw [p.length_eq]; show L.length + 1 ≤ i + 1; omega⟩
    · rcases List.mem_cons.mp (p.mem_iff.mp hq) with y | y
      · rw [y]; simp
      · exact List.mem_append_left _ (g1 q y)
    · rw [(p.map (·.2)).mem_iff, List.map_cons, List.mem_cons]
      rcases List.mem_append.mp hq with y | y
      · exact .inr (g2 q y)
      · rw [List.mem_singleton.mp y]; exact .inl rfl
variable {a : Addr} {L : List (Addr × List K)} {es : Array (Int × Value)} {ep : Nat} {t : SetTable}
theorem Has.kept {h h' : Heap} (R : Has kk h a L es ep t) (k : ∀ o, h.get? a = some o → h'.get? a = some o) : Has kk h' a L es ep t := by
  obtain ⟨o, ho, r⟩ := R.ob
  exact ⟨⟨o, k o ho, r⟩, R.ents, R.tab, R.once, R.led, R.room, R.few⟩
theorem key_kept {h h' : Heap} {k : List K} {b : Addr} (x : IsTupleKey kk h k b) (q : ∀ c o, h.get? c = some o → h'.get? c = some o) : IsTupleKey kk h' k b := by
  obtain ⟨o, xs, n, ho, r⟩ := x
  exact ⟨o, xs, n, q b o ho, r⟩
/-- the loop of set.update -/
theorem fill {I S : Addr} {fp wr : List Addr} {G : Array GenState → Array GenState → Prop} {n : Nat} {Pv : Nat → Value → Prop} {St : Nat → Shared → Prop} {R : Result → Shared → Prop} (W : WalksS P w A.in1 I fp wr G n Pv St) (hS : S ∉ fp)
    {ks : List (Addr × List K)} (hn : n = ks.length) (few : ks.length < 64) (val : ∀ i v, Pv i v → ∃ r, ks[i]? = some r ∧ v = .ref r.1) {h0 : Heap} (hk : ∀ r ∈ ks, IsTupleKey kk h0 r.2 r.1) (nS : h0.get? S = none) (nw : ∀ b ∈ wr, h0.get? b = none)
    (hu : A.in1.units < cLine) (fin : Shared) (mv : Moved (S :: wr) G fin fin)
    (hR : ∀ s' L es ep t, Moved (S :: wr) G fin s' → Has kk s'.heap S L es ep t → Met ks n L → (∀ b o, h0.get? b = some o → s'.heap.get? b = some o) → R (.ok (.ret .none)) s') :
    ∀ (m i : Nat) (s : Shared), n - i = m → i ≤ n → St i s → Moved (S :: wr) G fin s → (∀ b o, h0.get? b = some o → s.heap.get? b = some o) → (∃ L es ep t, Has kk s.heap S L es ep t ∧ Met ks i L) →
      codeAny (model P w) A (.builtin "set.update.loop" ⟨[.ref S, .ref I], []⟩) R s := by
  have Sw : S ∉ wr := fun y => hS (W.sub _ y)
  have sub : ∀ b ∈ wr, b ∈ S :: wr := fun b y => List.mem_cons_of_mem _ y
  have old : ∀ {s s' : Shared}, Moved wr G s s' → (∀ b o, h0.get? b = some o → s.heap.get? b = some o) → ∀ b o, h0.get? b = some o → s'.heap.get? b = some o := fun mo k b o e =>
    mo.heap b o (fun y => by rw [nw b y] at e; cases e) (k b o e)
  intro m
  induction m with
  | zero =>
    intro i s hm hi st mo k ⟨L, es, ep, t, g, met⟩
    obtain rfl : i = n := by omega
    refine codeAny_builtin F.entry_set_update_loop (by
      rw [Around.under_plainId F.plain_set_update_loop _]
      show wpAny _ A.in1 (pyNext (.ref I) >>= _) _ _ s
      exact wpAny_bind (W.done s _ _ st fun s' m' => wpAny_pure (hR s' L es ep t (mo.trans W.gtrans (m'.mono sub)) (g.kept fun o e => m'.heap S o Sw e) met (old m' k))))
  | succ m ih =>
    intro i s hm hi st mo k ⟨L, es, ep, t, g, met⟩
    refine codeAny_builtin F.entry_set_update_loop ?_
    rw [Around.under_plainId F.plain_set_update_loop _]
    show wpAny _ A.in1 (pyNext (.ref I) >>= _) _ _ s
    refine wpAny_bind (W.item i s _ _ (by omega) st fun v s' pv st' m' => ?_)
    obtain ⟨r, er, rfl⟩ := val i v pv
    have k' := old m' k
    have keys : ∀ q ∈ ks, IsTupleKey kk s'.heap q.2 q.1 := fun q hq => key_kept (hk q hq) k'
    have hr := keys r (List.mem_of_getElem? er)
    show wpAny _ A.in1 (holding [Value.ref r.1] (setAdd S (.ref r.1)) >>= _) _ _ s'
    refine wpAny_bind (wpAny_holding ?_)
    unfold setAdd
    refine wpAny_holding (wpAny_bind (wpAny_pyHash_tuple hu hr ?_))
    refine add (s := { s' with toks := s'.toks + (r.2.length + 1) }) rfl (g.kept fun o e => m'.heap S o Sw e) (fun q hq => keys q (List.mem_of_mem_take (met.1 q hq))) hr hu (by have := met.2.2; omega) fun b h' L' es' ep' t' sb g' c1 c2 => ?_
    have k2 : ∀ b o, h0.get? b = some o → h'.get? b = some o := fun b o e => (sb.2 b fun y => by rw [y, nS] at e; cases e).trans (k' b o e)
    refine wpAny_pure ⟨plainId_quiet F.plain_set_update_loop _, ih (i + 1) _ (by omega) (by omega) (W.frame _ s' _ _ st' (Nat.le_add_right _ _) fun b hb o e => (sb.2 b fun y => hS (y ▸ hb)).trans e) ?_ k2 ⟨L', es', ep', t', g', met.next er c1 c2⟩⟩
    exact mo.trans W.gtrans ((m'.mono sub).then_heap (Nat.le_add_right _ _) fun b o hb e => (sb.2 b fun y => hb (by rw [y]; simp)).trans e)
end
end Tp
namespace Tp
open PySem PySem.Spec PyProof.Rows L2 PySem.W
theorem perm_map {α β : Type} {f : α → β} {xs ys : List β} (p : xs.Perm ys) : ∀ l : List α, ys = l.map f → ∃ l' : List α, l'.Perm l ∧ xs = l'.map f := by
  induction p with
  | nil =>
    intro l e
    exact ⟨[], by rw [List.map_eq_nil_iff.mp e.symm], rfl⟩
  | cons x _ ih =>
    intro l e
    obtain ⟨y, l0, rfl, rfl, e2⟩ := List.map_eq_cons_iff.mp e.symm
    obtain ⟨l', p', e'⟩ := ih l0 e2.symm
    exact ⟨y :: l', p'.cons y, by rw [List.map_cons, e']⟩
  | swap x y _ =>
    intro l e
    obtain ⟨u, l0, rfl, rfl, e2⟩ := List.map_eq_cons_iff.mp e.symm
    obtain ⟨v, l1, rfl, rfl, e3⟩ := List.map_eq_cons_iff.mp e2
    exact ⟨v :: u :: l1, .swap .., by rw [List.map_cons, List.map_cons, e3]⟩
  | trans _ _ ih1 ih2 =>
    intro l e
    obtain ⟨l2, p2, e2⟩ := ih2 l e
    obtain ⟨l1, p1, e1⟩ := ih1 l2 e2
    exact ⟨l1, p1.trans p2, e1⟩
section
variable {P : Program} {w : World} {K : Type} [DecidableEq K] {kk : KeyKind P w K} {A : Around} {E : Value → Shared → Prop} {s : Shared} {a : Addr} {L : List (Addr × List K)} {es : Array (Int × Value)} {ep : Nat} {t : SetTable}
/-- sorted of a set -/
theorem sorted_set {β : Type} {Rl : Value → β → Prop} {enc : β → PyData} {Good : List β → Prop} {Q : Value → Shared → Prop} (R : Has kk s.heap a L es ep t) (hh : A.handled = none) (hu : A.units + 64 < cLine)
    (bs_of : ∀ out : List Value, out.Perm (L.map fun r => Value.ref r.1) → ∃ bs : List β, Good bs ∧ EachIs Rl out bs ∧ EachIs (fun v b => Reads s.heap v (enc b) []) out bs ∧ AllAlike (bs.map enc) ∧ Sortable (bs.map enc) ∧ ∀ b ∈ bs, (enc b).depth ≤ 50)
    (q : ∀ s' p (out : List Value) (bs : List β) (c : Nat), (∀ b o, s.heap.get? b = some o → s'.heap.get? b = some o) → s'.gens = s.gens → s'.os = s.os → s.heap.objs.size ≤ p → s'.heap.get? p = some (seqObj "list" out.toArray c) →
      Good bs → out.length ≤ 64 → EachIs Rl out (bs.mergeSort (dataLe false enc)) → Q (.ref p) s') : wpAny (model P w) A (call (.builtin "sorted") [.ref a]) Q E s := by
  obtain ⟨o, ho, hex, hd⟩ := R.ob
  have few := R.few
  have sz := R.size
  refine Calls.call_function_entry kind_sorted plain_sorted entry_sorted (args_sorted1 _) ?_
  unfold Builtin.«sorted»
  refine wpAny_bind (m := checkCount "sorted" 1 1 _) (wpAny_pure ?_)
  refine wpAny_bind (collect_set (A := A.in1) hh ⟨o, ho, hex.1, hd⟩ R.fits (by unfold scanBound; omega) R.tab.ris R.led fun s1 vs k1 hz g1 o1 pm => ?_)
  have ev : es.toList.map (·.2) = L.map fun r => Value.ref r.1 := by
    rw [R.ents, List.map_map]
    rfl
  rw [ev] at pm
  have lv : vs.length = L.length := by rw [pm.length_eq, List.length_map]
  obtain ⟨bs, good, e1, e2, al, so, dp⟩ := bs_of vs pm
  have lb : bs.length = vs.length := e1.length.symm
  refine wpAny_bind (wpAny_newList ?_ (by rw [sizeLine_eq]; omega))
  have hoL : (s1.heap.push (seqObj "list" vs.toArray 0)).get? s1.heap.objs.size = some (seqObj "list" vs.toArray 0) := Heap.get?_push_size _ rfl
  refine wpAny_bind (wpAny_holding (list_sort_data (s := { s1 with heap := s1.heap.push (seqObj "list" vs.toArray 0) }) hoL e1
    (e2.mono fun v b r => ⟨[], PyProof.Rows.Reads.keeps (fun b u e => Heap.get?_push_of_some _ (k1 b u e)) r, by simp⟩) al so (by rw [sizeLine_eq]; omega) (fun b hb => ?_) fun out lo eo => ?_))
  · have := dp b hb
    show A.units + 1 + 1 + (enc b).depth < cLine
    omega
  obtain ⟨c, hc⟩ := sortedHeap_at (vs := vs) (out := out.toArray) hoL
  refine wpAny_pure ⟨_, rfl, q _ s1.heap.objs.size out bs c (fun b u e => ?_) g1 o1 hz hc good (by omega) eo⟩
  have e' := k1 b u e
  have hlt := Heap.lt_size e'
  show (sortedHeap (s1.heap.push (seqObj "list" vs.toArray 0)) s1.heap.objs.size vs out.toArray).get? b = some u
  rw [sortedHeap_old (Nat.ne_of_lt hlt) (by rw [size_push']; exact Nat.lt_succ_of_lt hlt)]
  exact Heap.get?_push_of_some _ e'
set_option maxHeartbeats 3200000 in
/-- set(xs) -/
theorem call_set {l : Addr} {items : Array Value} {ks : List (Addr × List K)} {Q : Value → Shared → Prop} (hh : A.handled = none) (hl : s.heap.IsList l items) (hit : items.toList = ks.map fun r => Value.ref r.1) (hk : ∀ r ∈ ks, IsTupleKey kk s.heap r.2 r.1)
    (few : ks.length < 64) (hu : A.units + 3 < cLine) (q : ∀ (h' : Heap) (tk : Nat) L es ep t, Has kk h' s.heap.objs.size L es ep t → Met ks ks.length L → (∀ b o, s.heap.get? b = some o → h'.get? b = some o) → Q (.ref s.heap.objs.size) { s with heap := h', toks := tk }) :
    wpAny (model P w) A (call (.type "set") [.ref l]) Q E s := by
  have isz : items.size = ks.length := by rw [← Array.length_toList, hit, List.length_map]
  obtain ⟨_, _, hmro⟩ := F.called_set.mro
  have hmade := F.called_set.made
  have hsub := F.called_set.sub
  have h1 := F.called_set.notType
  have h2 := F.called_set.canCreate
  have hct := F.typeCall_set_1 (.ref l)
  refine wpAny_call (codeAny_of_tree (by
    show wpAny _ _ (callAny (.type "set") _) _ _ _
    refine wpAny_pure ⟨Code.quiet_builtin _ (by decide +kernel), codeAny_builtin F.entry_type_call ?_⟩
    rw [Around.under_plain (weight_type_call_type "set" [.ref l] []) rfl]
    repeat (any_goals (first | assumption | wp_step))
    obtain ⟨H1, eH1⟩ : ∃ H1, H1 = s.heap.push (setO w) := ⟨_, rfl⟩
    refine codeAny_mono (code_set_led1 (.ref l) (E := E) (Q₁ := fun obj s₁ => obj = .ref s.heap.objs.size ∧ s₁ = { s with heap := H1 }) ⟨rfl, by rw [eH1]⟩) fun r s₁ hr => ?_
    rcases r with e | fl
    · exact hr
    cases fl with
    | ret obj =>
      obtain ⟨rfl, rfl⟩ := hr
      have hS : H1.get? s.heap.objs.size = some (setO w) := by rw [eH1]; exact Heap.get?_push_size _ rfl
      have up : ∀ b o, s.heap.get? b = some o → H1.get? b = some o := fun b o e => by rw [eH1]; exact Heap.get?_push_of_some _ e
      have zH : H1.objs.size = s.heap.objs.size + 1 := by rw [eH1, Heap.size_push]
      have hT : Shared.TypeIs { s with heap := H1 } (.ref s.heap.objs.size) "set" := ⟨_, hS, rfl⟩
      have hli := F.called_set.init.lookup
      have hbi := F.called_set.init.bind (.ref s.heap.objs.size)
      repeat (any_goals (first | assumption | wp_step))
      refine codeAny_mono (codeAny_call_builtin (R := wants (fun r s₂ => r = .none ∧ ∃ h' tk L es ep t, s₂ = { s with heap := h', toks := tk } ∧ Has kk h' s.heap.objs.size L es ep t ∧ Met ks ks.length L ∧ ∀ b o, s.heap.get? b = some o → h'.get? b = some o) E)
        F.called_set.init.plain F.entry_set_init (check_set_init_1 hT ?_)) fun r₂ s₂ hr₂ => ?_
      · obtain ⟨⟨_, od, _, os⟩, hol, rfl, nl, rfl⟩ := hl
        have hol1 := up _ _ hol
        have hl1 : H1.IsList l items := ⟨_, hol1, rfl, nl, rfl⟩
        have hsls := F.sub_list_set
        have hslf := F.sub_list_frozenset
        have hne : (Value.type "list" == Value.type "dict") = false := by decide
        unfold Builtin.«set.__init__» noKeywords Builtin.Frozenset.updateFrom
        generalize ePI : pyIter = PI
        wp_walk
        subst ePI
        refine wpAny_pyIter_list hl1 (wpAny_bind (wpAny_runValue ?_))
        have ll : l < s.heap.objs.size := Heap.lt_size hol
        have h3 : A.in1.in1.in1.handled = none := by simp [hh]
        have lI : l ≠ H1.objs.size := by rw [zH]; exact Nat.ne_of_lt (Nat.lt_succ_of_lt ll)
        have nf : s.heap.objs.size ∉ [H1.objs.size, l] := by
          rw [zH, List.mem_cons, List.mem_singleton]
          exact fun y => y.elim (fun e => Nat.succ_ne_self _ e.symm) fun e => Nat.lt_irrefl _ (e ▸ ll)
        have none_at : ∀ b, s.heap.objs.size ≤ b → s.heap.get? b = none := fun b hb => by
          cases y : s.heap.get? b with
          | none => rfl
          | some o => exact absurd (Nat.lt_of_lt_of_le (Heap.lt_size y) hb) (Nat.lt_irrefl _)
        have up2 : ∀ b o, H1.get? b = some o → (H1.push { cls := .type "list_iterator", data := .fields #[.ref l, .int 0 0] }).get? b = some o := fun b o e => Heap.get?_push_of_some _ e
        refine fill (kk := kk) (h0 := s.heap) (fin := { s with heap := H1.push { cls := .type "list_iterator", data := .fields #[.ref l, .int 0 0] } }) ((Walks.list h3 _ l lI items).toS) nf isz few (fun i v hv => ?_) hk (none_at _ (Nat.le_refl _)) (fun b hb => none_at b ?_) hu
          (Moved.refl (fun _ => rfl)) (fun s' L es ep t mo g met k => ?_) (items.size - 0) 0 _ (by omega) (Nat.zero_le _) ⟨⟨_, Heap.get?_push_size _ rfl, rfl, rfl⟩, hl1.push _⟩ (Moved.refl (fun _ => rfl)) (fun b o e => up2 b o (up b o e)) ⟨[], #[], 0, _, fresh (up2 _ _ hS), (fun _ m => nomatch m), (fun _ m => nomatch m), Nat.le_refl _⟩
        · have hv' : items.toList[i]? = some v := by rw [Array.getElem?_toList]; exact hv
          rw [hit, List.getElem?_map, Option.map_eq_some_iff] at hv'
          obtain ⟨r, er, ev⟩ := hv'
          exact ⟨r, er, ev.symm⟩
        · rw [List.mem_singleton.mp hb, zH]
          exact Nat.le_succ _
        · obtain ⟨h', g2, d', tk', os'⟩ := s'
          obtain rfl : g2 = s.gens := mo.gens
          obtain rfl : d' = s.drawn := mo.drawn
          obtain rfl : os' = s.os := mo.os
          show wpAny _ _ _ _ _ _
          refine wpAny_pure ?_
          show wpAny _ _ (ret Value.none) _ _ _
          rw [isz] at met
          exact wpAny_pure ⟨rfl, h', tk', L, es, ep, t, rfl, g, met, k⟩
      · rcases r₂ with e | fl₂
        · exact hr₂
        cases fl₂ with
        | ret r =>
          obtain ⟨rfl, h', tk, L, es, ep, t, rfl, g, met, k⟩ := hr₂
          repeat (any_goals (first | assumption | wp_step))
          exact q _ _ _ _ _ _ g met k
        | _ => exact hr₂.elim
    | _ => exact hr.elim))
end
end Tp
end

section
set_option Elab.async false
set_option linter.all false
set_option maxRecDepth 100000
set_option maxHeartbeats 4000000
/-! set(xs) of a list of tuples of texts and numbers, sorted(set): the rules. -/
namespace Gd
open PySem PySem.Spec PyProof.Rows L2 PySem.W
def TsO (P : Program) (w : World) (a : Addr) (L : List (Addr × List Key)) : HO := .ext fun h => ∃ es ep t, Tp.Has (mixKind P w) h a L es ep t
theorem tsO_ok {P : Program} {w : World} {H : Hp} {h : Heap} {a : Addr} {L : List (Addr × List Key)} {es : Array (Int × Value)} {ep : Nat} {t : SetTable} (R : Tp.Has (mixKind P w) h a L es ep t) : ObjOk P w H h a (TsO P w a L) := by
  obtain ⟨o, ho, -⟩ := R.ob
  refine ⟨⟨es, ep, t, R⟩, ⟨o, ho⟩, fun h1 h2 p k => ?_⟩
  have ⟨es', ep', t', R'⟩ := p
  exact ⟨es', ep', t', Tp.Has.kept R' k⟩
def keyD : Key → PyData
  | .inl i => .int i
  | .inr x => .str x
def rowD (r : Addr × List Key) : PyData := .tuple (r.2.map keyD)
theorem keys_dp {K : PySem.W.Frag} {H : Hp} : ∀ ks : List Key, DpAll K H (ks.map kV) (ks.map keyD)
  | [] => .nil
  | .inl i :: ks => .cons (.int i) (keys_dp ks)
  | .inr x :: ks => .cons (.str x) (keys_dp ks)
theorem keys_plain {h : Heap} : ∀ {ks : List Key} {vs : List Value} {as : List Addr}, ReadsAll h vs (ks.map keyD) as → as = []
  | [], _, _, r => by
    cases r
    rfl
  | .inl i :: ks, _, _, r => by
    cases r with
    | cons a b =>
      cases a
      rw [keys_plain b]
      rfl
  | .inr x :: ks, _, _, r => by
    cases r with
    | cons a b =>
      cases a
      rw [keys_plain b]
      rfl
theorem refs_are : ∀ {ks : List (Addr × List Key)} {us : List Value}, Vals (ks.map fun r => V.ref r.1) us → us = ks.map fun r => Value.ref r.1
  | [], _, .nil => rfl
  | r :: ks, _, .cons a b => by
    cases a
    rw [refs_are b]
    rfl
section
variable {X : Cx}
theorem isKey {pins : List (Addr × Obj)} {σ : L2.St} {H : Hp} {s : Shared} {b : Addr} {k : List Key} (I : Inv X pins σ H s) (h : SqT X.K H b (k.map kV)) : IsTupleKey (mixKind X.prog X.w) s.heap k b := by
  obtain ⟨its, r, ⟨o, ho, hc, n, hd⟩, _⟩ := I.tuple h
  exact ⟨o, its.toArray, n, ho, hc, hd, by simpa using items_are r⟩
def rSetTp (K : PySem.W.Frag) (P : Program) (w : World) : List V → Hp → VK → Prop := fun xs H Q => ∃ (l : Addr) (ks : List (Addr × List Key)), xs = [.ref l] ∧ SqL K H l (ks.map fun r => V.ref r.1) ∧ (∀ r ∈ ks, SqT K H r.1 (r.2.map kV)) ∧ ks.length < 64 ∧
  ∀ a L, H a = none → (∀ r ∈ L, r ∈ ks) → (∀ r ∈ ks, r.2 ∈ L.map (·.2)) → (L.map (·.2)).Nodup → Q (.ref a) (upd H a (TsO P w a L))
theorem call_setTp (hc : X.calm = true) (hu : X.A.units + 64 < cLine) : CallR X (.type "set") (rSetTp X.K X.prog X.w) := by
  intro pins s σ H xs us Q I r h
  obtain ⟨l, ks, rfl, hl, hk, few, q⟩ := h
  rw [Vals.ref1 r]
  obtain ⟨its, rv, pl, hz⟩ := I.list hl
  refine Tp.call_set (kk := mixKind X.prog X.w) (I.ok.hd hc) pl.isList (by simpa using refs_are rv) (fun r hr => isKey I (hk r hr)) few (by omega) fun h' tk L es ep t R g k => ?_
  refine ⟨.ref s.heap.objs.size, _, I.laid (t' := tk) k (Nat.le_refl _) (tsO_ok R), rfl, q _ L (I.hok.fresh (Nat.le_refl _)) (fun r hr => List.mem_of_mem_take (g.1 r hr)) (fun r hr => g.2.1 r (by rw [List.take_length]; exact hr)) R.once⟩
def rSortTp (K : PySem.W.Frag) (P : Program) (w : World) : List V → Hp → VK → Prop := fun xs H Q => ∃ (a : Addr) (L : List (Addr × List Key)), xs = [.ref a] ∧ H a = some (TsO P w a L) ∧ (∀ r ∈ L, SqT K H r.1 (r.2.map kV)) ∧
  (∀ L' : List (Addr × List Key), L'.Perm L → AllAlike (L'.map rowD) ∧ Sortable (L'.map rowD)) ∧ ∀ (us : List V) (p : Addr) (ds : List PyData), ds.Perm (L.map rowD) → H p = none → DpAll K H us (told ds) → Q (.ref p) (upd H p (.lst us))
theorem row_depth (r : Addr × List Key) : (rowD r).depth ≤ 1 := by
  have : ∀ ks : List Key, PyData.depthAll (ks.map keyD) = 0 := by
    intro ks
    induction ks with
    | nil => rfl
    | cons k ks ih =>
      cases k <;> simp [keyD, PyData.depthAll, PyData.depth, ih]
  unfold rowD PyData.depth
  rw [this]
  exact Nat.le_refl _
theorem call_sortTp (hc : X.calm = true) (hu : X.A.units + 64 < cLine) : CallR X (.builtin "sorted") (rSortTp X.K X.prog X.w) := by
  intro pins s σ H xs us Q I r h
  obtain ⟨a, L, rfl, ha, hk, fm, q⟩ := h
  rw [Vals.ref1 r]
  obtain ⟨es, ep, t, R⟩ : ∃ es ep t, Tp.Has (mixKind X.prog X.w) s.heap a L es ep t := (I.hok a _ ha).1
  refine Tp.sorted_set (β := PyData) (Rl := RD X.K H) (enc := id) (Good := fun ds => ds.Perm (L.map rowD)) R (I.ok.hd hc) hu (fun out pm => ?_) fun s' p out ds c k g o hp hg good lo eo => ?_
  · obtain ⟨L', pL, rfl⟩ := Tp.perm_map pm L rfl
    have there : ∀ r ∈ L', SqT X.K H r.1 (r.2.map kV) := fun r hr => hk r (pL.mem_iff.mp hr)
    have e1 : ∀ M : List (Addr × List Key), (∀ r ∈ M, SqT X.K H r.1 (r.2.map kV)) → EachIs (RD X.K H) (M.map fun r => Value.ref r.1) (M.map rowD) ∧ EachIs (fun v d => Reads s.heap v (id d) []) (M.map fun r => Value.ref r.1) (M.map rowD) := by
      intro M
      induction M with
      | nil => exact fun _ => ⟨.nil, .nil⟩
      | cons r M ih =>
        intro hM
        obtain ⟨i1, i2⟩ := ih fun x hx => hM x (by simp [hx])
        have d : Dp X.K H (.ref r.1) (rowD r) := .tup (hM r (by simp)) (keys_dp r.2)
        refine ⟨.cons ⟨_, show RelV (.ref r.1) (.ref r.1) from rfl, d⟩ i1, .cons ?_ i2⟩
        obtain ⟨as, rd⟩ := Dp.reads I (rowD r) _ (Value.ref r.1) d (show RelV (.ref r.1) (.ref r.1) from rfl)
        have rd' : Reads s.heap (.ref r.1) (.tuple (r.2.map keyD)) as := rd
        have e : as = [] := by
          cases rd' with
          | tuple h1 h2 h3 h4 => exact keys_plain h4
        rw [e] at rd
        exact rd
    obtain ⟨al, so⟩ := fm L' pL
    refine ⟨L'.map rowD, pL.map _, (e1 L' there).1, (e1 L' there).2, by rw [List.map_id]; exact al, by rw [List.map_id]; exact so, fun d hd => ?_⟩
    obtain ⟨r, _, rfl⟩ := List.mem_map.mp hd
    exact Nat.le_trans (row_depth r) (by decide)
  · obtain ⟨ws, r2, A2⟩ := of_each eo
    have hn : H p = none := I.hok.fresh hp
    have hw : ws.length ≤ sizeLine := by
      have := r2.length
      rw [sizeLine_eq]
      omega
    have J : Inv X pins σ (upd H p (.lst ws)) { s with heap := s'.heap, gens := s'.gens, drawn := s'.drawn, toks := s'.toks } :=
      I.call (ch := []) (Un.laid k hp hn) (I.hok.laid k hp ⟨hw, out, c, r2, hg⟩) (by rw [g]; exact I.bare) (fun _ z => nomatch z)
    have e : s' = { s with heap := s'.heap, gens := s'.gens, drawn := s'.drawn, toks := s'.toks } := by
      cases s'
      cases s
      cases o
      rfl
    rw [e]
    exact ⟨.ref p, _, J, rfl, q ws p ds good hn A2⟩
end
end Gd
end

section
set_option Elab.async false
set_option linter.all false
set_option maxRecDepth 100000
set_option maxHeartbeats 4000000
namespace K02
open PySem PySem.Spec PyProof.Rows L2 Gd
theorem scCo : FnScope ["part"] ["part"] (defScope sCo) := ⟨rfl, rfl, rfl, by decide +kernel, rfl, by decide +kernel, by decide +kernel⟩
def keyOf (x : Str × Str) : List Key := [.inr x.1, .inr x.2]
theorem key_inj {x y : Str × Str} (h : keyOf x = keyOf y) : x = y := by
  injection h with h1 h2
  injection h2 with h2 _
  exact Prod.ext (Sum.inr.inj h1) (Sum.inr.inj h2)
theorem row_cell {r : Addr × List Key} {x : Str × Str} (h : r.2 = keyOf x) : rowD r = cellD x := by
  unfold rowD
  rw [h]
  rfl
/-- a list of cells, as rows -/
theorem rows_of {K : PySem.W.Frag} {H : Hp} : ∀ {us : List V} {cs : List (Str × Str)}, DpAll K H us (cs.map cellD) → ∃ ks : List (Addr × List Key), us = ks.map (fun r => V.ref r.1) ∧ ks.map (·.2) = cs.map keyOf ∧ ∀ r ∈ ks, SqT K H r.1 (r.2.map kV)
  | [], [], _ => ⟨[], rfl, rfl, fun _ h => nomatch h⟩
  | _ :: _, [], h => by cases h
  | [], _ :: _, h => by cases h
  | u :: us, x :: cs, h => by
    cases h with
    | cons a b =>
      obtain ⟨ks, e1, e2, h3⟩ := rows_of (us := us) (cs := cs) b
      cases a with
      | @tup t xs _ hS hA =>
        cases hA with
        | cons h1 hA =>
        cases hA with
        | cons h2 hA =>
        cases hA
        cases h1
        cases h2
        refine ⟨(t, keyOf x) :: ks, by rw [e1]; rfl, by rw [List.map_cons, List.map_cons, e2], fun r hr => ?_⟩
        rcases List.mem_cons.mp hr with rfl | hr
        · exact hS
        · exact h3 r hr
/-- what the rows of a set of cells are as data -/
theorem cells_back {L : List (Addr × List Key)} (h : ∀ r ∈ L, ∃ x, r.2 = keyOf x) : ∃ cs : List (Str × Str), L.map (·.2) = cs.map keyOf ∧ L.map rowD = cs.map cellD := by
  induction L with
  | nil => exact ⟨[], rfl, rfl⟩
  | cons r L ih =>
    obtain ⟨cs, e1, e2⟩ := ih fun y hy => h y (by simp [hy])
    obtain ⟨x, ex⟩ := h r (by simp)
    exact ⟨x :: cs, by rw [List.map_cons, List.map_cons, e1, ex], by rw [List.map_cons, List.map_cons, e2, row_cell ex]⟩
section
variable {P : Program} {w : World} {K : PySem.W.Frag} {mg : Str → Option Value} {base : Heap} {f fC : Addr} {fd dC : FuncData}
theorem ok_co (F : Fun K "cells_of" "cells_of" sCo f fd) (ms : mg "sorted" = none) (mt : mg "set" = none)
    (FC : Fun K "cells_from_left" "cells_from_left" sCl fC dC) (GC : FnOk P w K mg base CX0 6 fC dC ["part"] (spCl K 5)) (bC : Binds K dC ["part"] []) (gC : mg "cells_from_left" = some (.ref fC)) : FnOk P w K mg base CX0 7 f fd ["part"] (spCo K) := by
  refine F.ok scCo (fun vs H Q E h => ?_) (fun cdv A outer s H vs Q E hr h => ?_)
  · obtain ⟨v, z, rfl, _⟩ := h
    rfl
  obtain ⟨v, z, rfl, hd, ok, hn, hm, q⟩ := h
  have nd := scCo.nd
  refine ⟨_, pss_one (ps_ret (pe_callB (call_sortTp rfl hr.units) (by rfl) ms (by decide +kernel) (pa_cons (pe_callTy (call_setTp rfl hr.units) (by rfl) mt (by decide +kernel) (pa_cons (pe_call GC hr (by rfl) gC FC.kp bC .nil pass0 (pa_cons (pv 0) pa_nil)) pa_nil)) pa_nil))), ?_⟩
  refine ⟨_, rfl, v, z, rfl, hd, ok, hn, by omega, fun us p1 H1 s1 n1 e1 h1 => ?_⟩
  obtain ⟨ks, rfl, ek, hk⟩ := rows_of h1
  have lk : ks.length = (cells z).length := by
    have := congrArg List.length ek
    simpa using this
  have lz := cells_len z
  refine ⟨p1, ks, rfl, SqL.of e1, hk, by omega, fun a L na sub all nd => ?_⟩
  have j2 := new_same (o := TsO P w a L) na
  have form : ∀ r ∈ ks, ∃ x ∈ cells z, r.2 = keyOf x := fun r hr => by
    have : r.2 ∈ ks.map (·.2) := List.mem_map.mpr ⟨r, hr, rfl⟩
    rw [ek] at this
    obtain ⟨x, hx, e⟩ := List.mem_map.mp this
    exact ⟨x, hx, e.symm⟩
  have formL : ∀ M : List (Addr × List Key), M.Perm L → ∀ r ∈ M, ∃ x, r.2 = keyOf x := fun M p r hr => by
    obtain ⟨x, _, e⟩ := form r (sub r (p.mem_iff.mp hr))
    exact ⟨x, e⟩
  refine ⟨a, L, rfl, upd_same, fun r hr => same_tup j2 (hk r (sub r hr)), fun M p => ?_, fun us2 p2 ds pm np2 hds => ?_⟩
  · obtain ⟨cs, _, e2⟩ := cells_back (formL M p)
    rw [e2]
    exact ⟨alike_cells cs, sort_cells cs⟩
  obtain ⟨cs, e1', e2'⟩ := cells_back (formL L (List.Perm.refl L))
  rw [e2'] at pm
  obtain ⟨cs', pc, rfl⟩ := Tp.perm_map pm cs rfl
  have ncs : cs.Nodup := nodup_of_map (by rw [← e1']; exact nd)
  have mem : ∀ x, x ∈ cs' ↔ x ∈ once (cells z) := fun x => by
    rw [pc.mem_iff, once_mem]
    constructor
    · intro hx
      have : keyOf x ∈ L.map (·.2) := by rw [e1']; exact List.mem_map.mpr ⟨x, hx, rfl⟩
      obtain ⟨r, hr, er⟩ := List.mem_map.mp this
      obtain ⟨y, hy, ey⟩ := form r (sub r hr)
      rw [← key_inj (ey.symm.trans er)]
      exact hy
    · intro hx
      have : keyOf x ∈ ks.map (·.2) := by rw [ek]; exact List.mem_map.mpr ⟨x, hx, rfl⟩
      obtain ⟨r, hr, er⟩ := List.mem_map.mp this
      have := all r hr
      rw [er, e1'] at this
      obtain ⟨y, hy, ey⟩ := List.mem_map.mp this
      rw [← key_inj ey]
      exact hy
  rw [told_cells (pc.nodup_iff.mpr ncs) (once_nodup _) mem] at hds
  have j3 := new_same (o := .lst us2) np2
  exact q us2 p2 _ ((s1.trans j2).trans j3) ((s1.trans j2).free np2) upd_same (DpAll.same j3 _ hds)
end
end K02
end

section
set_option Elab.async false
set_option linter.all false
set_option maxRecDepth 100000
set_option maxHeartbeats 4000000
namespace K02
open PySem PySem.Spec PyProof.Rows L2 Gd
abbrev sLaw : Stmt := topS 14
abbrev nLaw : List Str := ["_law_script", "_law_k", "_law_feed_here", "_law_turn", "_law_piece_here", "_law_labels", "_law_cell", "_law_over", "_law_fixed", "_law_again"]
theorem scLaw : FnScope nLaw ["_law_script"] (defScope sLaw) := ⟨rfl, rfl, rfl, by decide +kernel, rfl, by decide +kernel, by decide +kernel⟩
def spLaw (K : PySem.W.Frag) : Sp := fun vs H Q _ => ∃ (a : Addr) (ns : List Int), vs = [.ref a] ∧ SqL K H a (ns.map V.int) ∧ ns.length ≤ 63 ∧ ∀ H', Q (.bl true) H'
theorem upto {n : Nat} : Walk (Itr 0 n) n (fun _ => True) (YFn fun i => .int ((i : Nat) : Int)) := by
  have h := walk_range (lo := 0) (n := n)
  simp only [Int.zero_add] at h
  exact h
theorem ex1_seq {K : PySem.W.Frag} {H H' : Hp} {p a : Addr} {xs : List V} (n : H p = none) (x : Ex1 p H H') (h : SqL K H a xs) : SqL K H' a xs := by
  rcases h with (h | ⟨o, h⟩) | h
  · exact .inl (.inl (x _ _ (ne_of_none h n) h))
  · exact .inl (.inr ⟨o, x _ _ (ne_of_none h n) h⟩)
  · exact .inr h
theorem feed_same {H H' : Hp} {p : Addr} {S : Int} (F : Feed H p S) (s : Same H H') : Feed H' p S := by
  obtain ⟨g, x, z, ep, a, b⟩ := F
  exact ⟨g, x, z, s _ _ ep, a, b⟩
theorem ex1_ofS {H H' : Hp} {p : Addr} (s : Same H H') : Ex1 p H H' := fun b u _ e => s b u e
theorem ex1_off {H H' : Hp} {p q : Addr} {o : HO} (n : H q = none) (x : Ex2 p q (upd H q o) H') : Ex1 p H H' := fun b u nb e => x b u nb (ne_of_none e n) (by rw [upd_ne (ne_of_none e n)]; exact e)
theorem pc_pz {d : PyData} {c : Nat} (h : Pc 5 c d) : ∃ z, d = pzD z ∧ pzOk z ∧ pzDeep z ≤ 5 ∧ pzMany z = c := by
  have e := h.cnt
  have b := h.pos
  obtain ⟨z, e1, e2, e3, e4⟩ := pz_of 5 d (by omega)
  exact ⟨z, e1, e2, e3, by omega⟩
/-- the six fixed pieces -/
def fixedZ : List Pz :=
  [.cell "b" "a", .num 0, .op "over" (.num 1) (.num 2), .op "plus" (.cell "b" "a") (.cell "a" "b"), .op "times" (.op "plus" (.cell "b" "a") (.op "over" (.num 1) (.num 2))) (.cell "b" "a"), .op "less" (.cell "b" "a") (.cell "b" "a")]
theorem fixed_ok : ∀ z ∈ fixedZ, pzOk z ∧ pzDeep z ≤ 5 ∧ pzMany z ≤ 31 := by
  have la : isLab "a" = true := by decide +kernel
  have lb : isLab "b" = true := by decide +kernel
  have n0 : ∀ i : Int, -3 < i → i < 3 → pzOk (.num i) := fun i h1 h2 => (show -(10 ^ 30 : Int) < i ∧ i < 10 ^ 30 from ⟨by omega, by omega⟩)
  have w : ∀ {x : Str}, x ∈ signs → x ∈ signs := fun h => h
  have o1 : ("over" : Str) ∈ signs := by simp [signs]
  have o2 : ("plus" : Str) ∈ signs := by simp [signs]
  have o3 : ("times" : Str) ∈ signs := by simp [signs]
  have o4 : ("less" : Str) ∈ signs := by simp [signs]
  have c : pzOk (.cell "b" "a") := ⟨lb, la⟩
  have c2 : pzOk (.cell "a" "b") := ⟨la, lb⟩
  have ov : pzOk (.op "over" (.num 1) (.num 2)) := ⟨o1, n0 1 (by decide) (by decide), n0 2 (by decide) (by decide)⟩
  have pl : pzOk (.op "plus" (.cell "b" "a") (.op "over" (.num 1) (.num 2))) := ⟨o2, c, ov⟩
  intro z hz
  simp only [fixedZ, List.mem_cons, List.not_mem_nil, or_false] at hz
  rcases hz with rfl | rfl | rfl | rfl | rfl | rfl
  · exact ⟨c, by decide, by decide⟩
  · exact ⟨n0 0 (by decide) (by decide), by decide, by decide⟩
  · exact ⟨ov, by decide, by decide⟩
  · exact ⟨⟨o2, c, c2⟩, by decide, by decide⟩
  · exact ⟨⟨o3, pl, c⟩, by decide, by decide⟩
  · exact ⟨⟨o4, c, c⟩, by decide, by decide⟩
section
variable {P : Program} {w : World} {K : PySem.W.Frag} {mg : Str → Option Value} {base : Heap} {f fF fT fL fC fD fR fO : Addr} {fd dF dT dL dC dD dR dO : FuncData}
theorem ok_law (F : Fun K "law" "law" sLaw f fd) (mn : mg "len" = none) (mr : mg "range" = none) (mi : mg "min" = none) (ma : mg "max" = none) (mp : mg "repr" = none)
    (FF : Fun K "_law_feed" "_law_feed" sFeed fF dF) (GF : FnOk P w K mg base CX0 1 fF dF ["_law_script", "_law_k"] (spFeed K)) (bF : Binds K dF ["_law_script", "_law_k"] []) (gF : mg "_law_feed" = some (.ref fF))
    (FT : Fun K "_law_take" "_law_take" sTake fT dT) (GT : FnOk P w K mg base CX0 1 fT dT ["_law_feed_here", "_law_many"] spTake) (bT : Binds K dT ["_law_feed_here", "_law_many"] []) (gT : mg "_law_take" = some (.ref fT))
    (FL : Fun K "_law_label" "_law_label" sLabel fL dL) (GL : FnOk P w K mg base CX0 2 fL dL ["_law_feed_here"] spLabel) (bL : Binds K dL ["_law_feed_here"] []) (gL : mg "_law_label" = some (.ref fL))
    (FC : Fun K "_law_piece" "_law_piece" sPiece fC dC) (GC : FnOk P w K mg base CX0 7 fC dC ["_law_feed_here", "_law_deep", "_law_room"] (spPiece K 5)) (bC : Binds K dC ["_law_feed_here", "_law_deep", "_law_room"] []) (gC : mg "_law_piece" = some (.ref fC))
    (FD : Fun K "_law_led" "_law_led" sLd fD dD) (GD : FnOk P w K mg base CX0 6 fD dD nLd (spLd K 5)) (bD : Binds K dD nLd []) (gD : mg "_law_led" = some (.ref fD))
    (FR : Fun K "_law_right" "_law_right" sRi fR dR) (GR : FnG P w K mg base CX0 8 fR dR ["_law_piece_here"] (spRi K)) (bR : Binds K dR ["_law_piece_here"] []) (gR : mg "_law_right" = some (.ref fR))
    (FO : Fun K "cells_of" "cells_of" sCo fO dO) (GO : FnOk P w K mg base CX0 7 fO dO ["part"] (spCo K)) (bO : Binds K dO ["part"] []) (kO : KBinds K dO ["part"] ["part"] onlyK onlyK) (gO : mg "cells_of" = some (.ref fO)) :
    FnG P w K mg base CX0 9 f fd ["_law_script"] (spLaw K) := by
  refine okG F scLaw (fun vs H Q E h => ?_) (fun cv A out s H vs Q E gd hr h => ?_)
  · obtain ⟨a, ns, rfl, _⟩ := h
    rfl
  obtain ⟨a, ns, rfl, hS, hl, q⟩ := h
  have nd := scLaw.nd
  have zl : sizeLine = 16777216 := rfl
  have hr1 := hr.mono (show 1 ≤ 8 by decide)
  have hr2 := hr.mono (show 2 ≤ 8 by decide)
  have hr6 := hr.mono (show 6 ≤ 8 by decide)
  have hr7 := hr.mono (show 7 ≤ 8 by decide)
  refine ⟨_, (C8.pss_cut (ps_for PassesOwn.never rfl (pi_range1 (by rfl) mr (pa_cons (pe_callB (call_max2 rfl) (by rfl) ma (by decide +kernel) (pa_cons pe_int (pa_cons (pe_callB (call_min2 rfl) (by rfl) mi (by decide +kernel) (pa_cons pe_int (pa_cons (pe_callB call_len_seq (by rfl) mn PySem.boot_len (pa_cons (pv 0) pa_nil)) pa_nil))) pa_nil))) pa_nil)) (pg_name (i := 1) nd rfl (.inl rfl)) (pss_cons (ps_set (i := 2) nd rfl (.inr rfl) (pe_call GF hr1 (by rfl) gF FF.kp bF .nil pass0 (pa_cons (pv 0) (pa_cons (pv 1) pa_nil)))) (pss_one (ps_for PassesOwn.never rfl (pi_range1 (by rfl) mr (pa_cons (pe_ix ix_list (pe_lst (pa_cons pe_int (pa_cons pe_int (pa_cons pe_int (pa_cons pe_int (pa_cons pe_int (pa_cons pe_int (pa_cons pe_int (pa_cons pe_int pa_nil))))))))) (pe_call GT hr1 (by rfl) gT FT.kp bT .nil pass0 (pa_cons (pv 2) (pa_cons pe_int pa_nil))) (fun _ _ => rfl)) pa_nil)) (pg_name (i := 3) nd rfl (.inl rfl)) (pss_cons (ps_set (i := 4) nd rfl (.inl rfl) (pe_call GC hr7 (by rfl) gC FC.kp bC .nil pass0 (pa_cons (pv 2) (pa_cons pe_int (pa_cons (pe_lst (pa_cons pe_int pa_nil)) pa_nil))))) (pss_cons (ps_setLc (i := 5) (own := [("_law_again", 9)]) (g := gName 9) (tt := tYes) rfl nd rfl rfl (by rfl) (pi_range1 (by rfl) mr (pa_cons (pe_op op_add pe_int (pe_call GT hr1 (by rfl) gT FT.kp bT .nil pass0 (pa_cons (pv 2) (pa_cons pe_int pa_nil)))) pa_nil)) (blkOk_by (N := nLaw) (sc := defScope sLaw) (by decide +kernel)) (fun _ _ _ _ _ => pg_name (i := 9) nd rfl (Or.inl rfl)) (fun _ _ _ _ _ => pts_nil) (fun _ _ _ _ _ => (pe_call GL hr2 (by rfl) gL FL.kp bL .nil pass0 (pa_cons (pv 2) pa_nil)))) (pss_cons (ps_if (PW.pt (pw_or (pt_not (pt_val (pe_callG GR gd hr (by rfl) gR FR.kp bR .nil pass0 (pa_cons (pv 4) pa_nil)))) (pw_or1 (pt_not (pt_val (pe_callG GR gd hr (by rfl) gR FR.kp bR .nil pass0 (pa_cons (pe_call GD hr6 (by rfl) gD FD.kp bD .nil pass0 (pa_cons (pv 2) (pa_cons (pv 4) (pa_cons (pv 5) pa_nil)))) pa_nil))))))) pss_never pss_nil) (pss_one (ps_if (pt_cmpR op_ne (pe_callB (call_repr gd hr.units) (by rfl) mp (by decide +kernel) (pa_cons (pe_kw GO hr7 (by rfl) gO FO.kp kO pass0 (pk_cons (pv 4) pk_nil)) pa_nil)) (pe_callB (call_repr gd hr.units) (by rfl) mp (by decide +kernel) (pa_cons (pe_call GO hr7 (by rfl) gO FO.kp bO .nil pass0 (pa_cons (pv 4) pa_nil)) pa_nil)) (nomark _)) pss_never pss_nil)))))))))
    (pss_cons (ps_set (i := 6) nd rfl (.inl rfl) (pe_tup (pa_cons pe_str (pa_cons pe_str (pa_cons pe_str pa_nil))))) (pss_cons (ps_set (i := 7) nd rfl (.inl rfl) (pe_tup (pa_cons pe_str (pa_cons (pe_tup (pa_cons pe_str (pa_cons pe_int pa_nil))) (pa_cons (pe_tup (pa_cons pe_str (pa_cons pe_int pa_nil))) pa_nil))))) (pss_cons (ps_set (i := 8) nd rfl (.inl rfl) (pe_lst (pa_cons (pv 6) (pa_cons (pe_tup (pa_cons pe_str (pa_cons pe_int pa_nil))) (pa_cons (pv 7) (pa_cons (pe_tup (pa_cons pe_str (pa_cons (pv 6) (pa_cons (pe_tup (pa_cons pe_str (pa_cons pe_str (pa_cons pe_str pa_nil)))) pa_nil)))) (pa_cons (pe_tup (pa_cons pe_str (pa_cons (pe_tup (pa_cons pe_str (pa_cons (pv 6) (pa_cons (pv 7) pa_nil)))) (pa_cons (pv 6) pa_nil)))) pa_nil))))))) (pss_one (ps_ret (pe_cmpR (op_eqL0 hr.units0) (pe_lc (own := [("_law_piece_here", 4)]) (g := gName 4) rfl nd (pi_list (pe_op op_cat (pv 8) (pe_lst (pa_cons (pe_tup (pa_cons pe_str (pa_cons (pv 6) (pa_cons (pv 6) pa_nil)))) pa_nil)))) (blkOk_by (N := nLaw) (sc := defScope sLaw) (by decide +kernel)) (fun _ _ _ _ _ => pg_name (i := 4) nd rfl (Or.inl rfl)) (fun _ _ _ _ _ => pts_one (pt_not (pt_val (pe_callG GR gd hr (by rfl) gR FR.kp bR .nil pass0 (pa_cons (pv 4) pa_nil))))) (fun _ _ _ _ _ => pv 4)) (pe_lst pa_nil) (nomark _)))))))), ?_⟩
  have hlen : (ns.map V.int).length = ns.length := List.length_map _
  refine ⟨fun σ' H' => ∃ x1 x2 x3 x4 x5 x9, σ' = [some (.ref a), x1, x2, x3, x4, x5, none, none, none, x9], ?_, ?_⟩
  · have lo5 : ∀ m : Int, 0 ≤ m → 0 ≤ (if m < 5 then m else 5) ∧ (if m < 5 then m else 5) ≤ 5 := by
      intro m h0
      split <;> omega
    obtain ⟨b0, b5⟩ := lo5 ((ns.map V.int).length : Int) (by omega)
    generalize hmm : (if ((ns.map V.int).length : Int) < 5 then ((ns.map V.int).length : Int) else 5) = mn at b0 b5
    have hi1 : ∀ m : Int, 0 ≤ m → m ≤ 5 → 0 ≤ (if m > 1 then m else 1) ∧ (if m > 1 then m else 1) ≤ 5 := by
      intro m h0 h5
      split <;> omega
    obtain ⟨c0, c5⟩ := hi1 mn b0 b5
    refine ⟨_, rfl, a, _, rfl, .inl hS, 5, _, rfl, 1, _, rfl, ?_⟩
    rw [hmm]
    refine ⟨_, rfl, by omega, by omega, ?_⟩
    refine for_range (lo := 0) (fun i σ H' => SqL K H' a (ns.map V.int) ∧ ∃ x1 x2 x3 x4 x5 x9, σ = [some (.ref a), x1, x2, x3, x4, x5, none, none, none, x9]) ⟨hS, _, _, _, _, _, _, rfl⟩ ?_ ?_
    · rintro i σ H1 hi ⟨hS1, x1, x2, x3, x4, x5, x9, rfl⟩
      have hi5 : (i : Int) < 5 := by omega
      refine ⟨_, rfl, _, rfl, a, ns, 0 + i, rfl, hS1, by omega, by omega, fun p fs np hF => ?_⟩
      have xp : Ex1 p H1 (upd H1 p (.lst fs)) := .at
      generalize upd H1 p (.lst fs) = H2 at hF xp ⊢
      refine ⟨(by show 8 ≤ sizeLine; decide), fun z8 n8 => ?_⟩
      have jz := new_same (o := .lst [.int 3, .int 1, .int 4, .int 1, .int 8, .int 2, .int 5, .int 3]) n8
      refine ⟨_, rfl, p, 8, 0, rfl, feed_same hF jz, by omega, by omega, by omega, fun r H3 r0 r1 F3 y3 => ?_⟩
      have ez := y3 z8 _ (hF.ne n8) upd_same
      obtain ⟨nt, hnt, ea⟩ := at_map (f := V.int) (xs := [3, 1, 4, 1, 8, 2, 5, 3]) (r := r) r0 r1
      have ntb : 0 ≤ nt ∧ nt ≤ 8 := by
        simp only [List.mem_cons, List.not_mem_nil, or_false] at hnt
        rcases hnt with rfl | rfl | rfl | rfl | rfl | rfl | rfl | rfl <;> omega
      refine ⟨z8, _, r, .int nt, rfl, rfl, SqL.of ez, ea, nt, rfl, by omega, by omega, ?_⟩
      have X3 : Ex1 p H1 H3 := xp.trans ((Ex1.new n8).trans y3)
      refine for_range (lo := 0) (n := nt.toNat) (fun j σ H' => Ex1 p H1 H' ∧ Feed H' p (1 + 3000 * j) ∧ ∃ x3 x4 x5 x9, σ = [some (.ref a), some (.int (0 + i)), some (.ref p), x3, x4, x5, none, none, none, x9]) ⟨X3, F3.le (by omega), _, _, _, _, rfl⟩ ?_ ?_
      · rintro j σ H' hj ⟨XX, FF', y3, y4, y5, y9, rfl⟩
        have hj8 : (j : Int) < 8 := by omega
        have r5 : room 5 = 2046 := by decide
        -- the piece
        refine ⟨_, rfl, (by show 1 ≤ sizeLine; decide), fun qr nqr => ?_⟩
        refine ⟨p, qr, 5, 1 + 3000 * j, 15, rfl, rfl, by omega, by omega, FF'.ne nqr, FF'.stays nqr, by omega, upd_same, by omega, by omega, fun v d c H4 x4 F4 e4 D4 P4 le4 => ?_⟩
        have X4 : Ex1 p H1 H4 := XX.trans (ex1_off nqr x4)
        obtain ⟨z, rfl, zok, zd, zm⟩ := pc_pz P4
        have zm15 : pzMany z ≤ 15 := by omega
        -- the labels
        refine ⟨_, rfl, p, 3, 1 + 3000 * j + 2046, rfl, F4.le (by omega), by omega, by omega, by omega, fun r5 H5 r50 r51 F5 y5 => ?_⟩
        refine ⟨_, _, rfl, rfl, _, rfl, by omega, by omega, fun D nD => ?_⟩
        have nDp : D ≠ p := F5.ne nD
        have X5 : Ex1 p H1 H5 := X4.trans y5
        have e4q := y5 _ _ (FF'.ne nqr) e4
        obtain ⟨xs4, ep4⟩ := F4.lst
        have D5 := Dp.tups (Ex1.tups (K := K) y5 ep4) _ (pz_only z) D4
        have jD := new_same (o := .lst []) nD
        obtain ⟨nl, hnl⟩ : ∃ nl : Nat, ((nl : Nat) : Int) = 1 + r5 := ⟨(1 + r5).toNat, by omega⟩
        rw [← hnl, Int.toNat_natCast]
        refine lc_it upto (fun i H6 => Ex1 p H5 H6 ∧ Feed H6 p (1 + 3000 * j + 2047 + 10 * ((i : Nat) : Int)) ∧ ∃ ls : List Str, H6 D = some (.lst (ls.map V.str)) ∧ ls.length = i ∧ ∀ x ∈ ls, isLab x = true)
          ⟨Ex1.new nD, (feed_same F5 jD).le (by omega), [], upd_same, rfl, fun _ h => nomatch h⟩ (fun _ _ _ _ => trivial) ?_ ?_
        · rintro k x H6 H7 hk ⟨x6, F6, ls, eD, lls, lab⟩ ⟨rfl, rfl⟩
          refine ⟨rfl, ?_⟩
          refine ⟨_, rfl, p, _, rfl, F6, by omega, fun y H8 x8 F8 ly => ?_⟩
          have eD8 := x8 _ _ nDp eD
          refine ⟨_, eD8, by rw [List.length_map]; omega, ?_, ?_, ls ++ [y], by rw [upd_same, List.map_append]; rfl, by rw [List.length_append, lls]; rfl, fun u hu => ?_⟩
          · exact fun b u nb e => by
              rw [upd_ne (ne_of_none e nD)]
              exact (x6.trans x8) b u nb e
          · obtain ⟨g, x, t, ep, t0, t1⟩ := F8
            exact ⟨g, x, t, by rw [upd_ne (Ne.symm nDp)]; exact ep, t0, by omega⟩
          · rcases List.mem_append.mp hu with h | h
            · exact lab u h
            · rw [List.mem_singleton.mp h]; exact ly
        rintro H6 ⟨x6, F6, ls, eD, lls, lab⟩
        obtain ⟨xs5, ep5⟩ := F5.lst
        have D6 := Dp.tups (Ex1.tups (K := K) x6 ep5) _ (pz_only z) D5
        have X6 : Ex1 p H1 H6 := X5.trans x6
        have sh := fun {z : Pz} (h : pzOk z) (m : pzMany z ≤ 15) (n : pzDeep z ≤ 5) => And.intro (pz_shown h (by omega) n) (told_shown h (by omega))
        refine ⟨_, rfl, v, z, rfl, D6, zok, zd, by omega, (sh zok zm15 zd).1, (sh zok zm15 zd).2, fun H7 s7 => ⟨_, rfl, iteF ?_⟩⟩
        refine ⟨_, rfl, _, rfl, _, rfl, p, D, v, z, _, ls, rfl, feed_same F6 s7, by omega, Dp.same s7 _ D6, zok, zd, s7 _ _ eD, nDp, by omega, by omega, lab, fun v8 z8 H8 x8 F8 D8 ok8 d8 m8 => ?_⟩
        refine ⟨v8, z8, rfl, D8, ok8, d8, by omega, (sh ok8 (by omega) d8).1, (sh ok8 (by omega) d8).2, fun H9 s9 => ⟨_, rfl, iteF ?_⟩⟩
        obtain ⟨xs7, ep7⟩ := (feed_same F6 s7).lst
        have D9 := Dp.same s9 _ (Dp.tups (Ex1.tups (K := K) x8 ep7) _ (pz_only z) (Dp.same s7 _ D6))
        have X9 : Ex1 p H1 H9 := X6.trans ((ex1_ofS s7).trans (x8.trans (ex1_ofS s9)))
        have F9 := feed_same F8 s9
        have sc := (sh zok zm15 zd).2
        obtain ⟨rt, hrt⟩ : ∃ t : Str, t = (PyData.list (told ((once (cells z)).map cellD))).shown := ⟨_, rfl⟩
        refine ⟨_, rfl, v, z, rfl, D9, zok, zd, by omega, fun ta pa Ha sa na ea ha => ?_⟩
        refine ⟨.ref pa, _, rfl, .lst (SqL.of ea) ha, sc.1, sc.2.1, sc.2.2, ?_⟩
        rw [← hrt]
        refine ⟨_, rfl, v, z, rfl, Dp.same sa _ D9, zok, zd, by omega, fun tb pb Hb sb nb eb hb => ?_⟩
        refine ⟨.ref pb, _, rfl, .lst (SqL.of eb) hb, sc.1, sc.2.1, sc.2.2, ?_⟩
        rw [← hrt]
        refine ⟨rfl, _, rfl, ite2 (fun e => absurd e (by simp)) (fun _ => ?_)⟩
        exact ⟨X9.trans (ex1_ofS (sa.trans sb)), (feed_same F9 (sa.trans sb)).le (by omega), _, _, _, _, rfl⟩
      · rintro σ H' ⟨XX, _, y3, y4, y5, y9, rfl⟩
        exact ⟨ex1_seq np XX hS1, _, _, _, _, _, _, rfl⟩
    · rintro σ H1 ⟨hS1, x1, x2, x3, x4, x5, x9, rfl⟩
      exact ⟨_, _, _, _, _, _, rfl⟩
  rintro σ' H1 ⟨x1, x2, x3, x4, x5, x9, rfl⟩
  refine ⟨(by show 3 ≤ sizeLine; decide), fun t1 n1 => ?_⟩
  have j1 := new_same (o := .tup [.str "cell", .str "b", .str "a"]) n1
  have e1 : SqT K (upd H1 t1 (.tup [.str "cell", .str "b", .str "a"])) t1 [.str "cell", .str "b", .str "a"] := SqT.of upd_same
  generalize upd H1 t1 (.tup [.str "cell", .str "b", .str "a"]) = H2 at j1 e1 ⊢
  refine ⟨(by show 2 ≤ sizeLine; decide), fun t2 n2 => ?_⟩
  have j2 := new_same (o := .tup [.str "number", .int 1]) n2
  have e2 : SqT K (upd H2 t2 (.tup [.str "number", .int 1])) t2 [.str "number", .int 1] := SqT.of upd_same
  generalize upd H2 t2 (.tup [.str "number", .int 1]) = H3 at j2 e2 ⊢
  refine ⟨(by show 2 ≤ sizeLine; decide), fun t3 n3 => ?_⟩
  have j3 := new_same (o := .tup [.str "number", .int 2]) n3
  have e3 : SqT K (upd H3 t3 (.tup [.str "number", .int 2])) t3 [.str "number", .int 2] := SqT.of upd_same
  generalize upd H3 t3 (.tup [.str "number", .int 2]) = H4 at j3 e3 ⊢
  refine ⟨(by show 3 ≤ sizeLine; decide), fun t4 n4 => ?_⟩
  have j4 := new_same (o := .tup [.str "over", .ref t2, .ref t3]) n4
  have e4 : SqT K (upd H4 t4 (.tup [.str "over", .ref t2, .ref t3])) t4 [.str "over", .ref t2, .ref t3] := SqT.of upd_same
  generalize upd H4 t4 (.tup [.str "over", .ref t2, .ref t3]) = H5 at j4 e4 ⊢
  have d1 : Dp K H5 (.ref t1) (pzD (.cell "b" "a")) := .tup (same_tup ((j2.trans j3).trans j4) e1) (.cons (.str _) (.cons (.str _) (.cons (.str _) .nil)))
  have d4 : Dp K H5 (.ref t4) (pzD (.op "over" (.num 1) (.num 2))) := .tup e4 (.cons (.str _) (.cons (.tup (same_tup (j3.trans j4) e2) (.cons (.str _) (.cons (.int _) .nil))) (.cons (.tup (same_tup j4 e3) (.cons (.str _) (.cons (.int _) .nil))) .nil)))
  refine ⟨_, rfl, (by show 2 ≤ sizeLine; decide), fun t5 n5 => ?_⟩
  have j5 := new_same (o := .tup [.str "number", .int 0]) n5
  have d5 : Dp K (upd H5 t5 (.tup [.str "number", .int 0])) (.ref t5) (pzD (.num 0)) := .tup (SqT.of upd_same) (.cons (.str _) (.cons (.int _) .nil))
  generalize upd H5 t5 (.tup [.str "number", .int 0]) = H6 at j5 d5 ⊢
  refine ⟨_, rfl, _, rfl, (by show 3 ≤ sizeLine; decide), fun t6 n6 => ?_⟩
  have j6 := new_same (o := .tup [.str "cell", .str "a", .str "b"]) n6
  have d6 : Dp K (upd H6 t6 (.tup [.str "cell", .str "a", .str "b"])) (.ref t6) (pzD (.cell "a" "b")) := .tup (SqT.of upd_same) (.cons (.str _) (.cons (.str _) (.cons (.str _) .nil)))
  generalize upd H6 t6 (.tup [.str "cell", .str "a", .str "b"]) = H7 at j6 d6 ⊢
  refine ⟨(by show 3 ≤ sizeLine; decide), fun t7 n7 => ?_⟩
  have j7 := new_same (o := .tup [.str "plus", .ref t1, .ref t6]) n7
  have d7 : Dp K (upd H7 t7 (.tup [.str "plus", .ref t1, .ref t6])) (.ref t7) (pzD (.op "plus" (.cell "b" "a") (.cell "a" "b"))) := .tup (SqT.of upd_same) (.cons (.str _) (.cons (Dp.same ((j5.trans j6).trans j7) _ d1) (.cons (Dp.same j7 _ d6) .nil)))
  generalize upd H7 t7 (.tup [.str "plus", .ref t1, .ref t6]) = H8 at j7 d7 ⊢
  refine ⟨_, rfl, _, rfl, (by show 3 ≤ sizeLine; decide), fun t8 n8 => ?_⟩
  have j8 := new_same (o := .tup [.str "plus", .ref t1, .ref t4]) n8
  have k58 := ((j5.trans j6).trans j7).trans j8
  have d8 : Dp K (upd H8 t8 (.tup [.str "plus", .ref t1, .ref t4])) (.ref t8) (pzD (.op "plus" (.cell "b" "a") (.op "over" (.num 1) (.num 2)))) := .tup (SqT.of upd_same) (.cons (.str _) (.cons (Dp.same k58 _ d1) (.cons (Dp.same k58 _ d4) .nil)))
  generalize upd H8 t8 (.tup [.str "plus", .ref t1, .ref t4]) = H9 at j8 k58 d8 ⊢
  refine ⟨_, rfl, (by show 3 ≤ sizeLine; decide), fun t9 n9 => ?_⟩
  have j9 := new_same (o := .tup [.str "times", .ref t8, .ref t1]) n9
  have d9 : Dp K (upd H9 t9 (.tup [.str "times", .ref t8, .ref t1])) (.ref t9) (pzD (.op "times" (.op "plus" (.cell "b" "a") (.op "over" (.num 1) (.num 2))) (.cell "b" "a"))) := .tup (SqT.of upd_same) (.cons (.str _) (.cons (Dp.same j9 _ d8) (.cons (Dp.same (k58.trans j9) _ d1) .nil)))
  generalize upd H9 t9 (.tup [.str "times", .ref t8, .ref t1]) = H10 at j9 d9 ⊢
  refine ⟨(by show 5 ≤ sizeLine; decide), fun l nl => ?_⟩
  have jl := new_same (o := .lst [.ref t1, .ref t5, .ref t4, .ref t7, .ref t9]) nl
  have el : upd H10 l (.lst [.ref t1, .ref t5, .ref t4, .ref t7, .ref t9]) l = some (.lst [.ref t1, .ref t5, .ref t4, .ref t7, .ref t9]) := upd_same
  generalize upd H10 l (.lst [.ref t1, .ref t5, .ref t4, .ref t7, .ref t9]) = H11 at jl el ⊢
  refine ⟨_, rfl, _, rfl, _, rfl, (by show 3 ≤ sizeLine; decide), fun t12 n12 => ?_⟩
  have j12 := new_same (o := .tup [.str "less", .ref t1, .ref t1]) n12
  have k5 := ((k58.trans j9).trans jl).trans j12
  have d12 : Dp K (upd H11 t12 (.tup [.str "less", .ref t1, .ref t1])) (.ref t12) (pzD (.op "less" (.cell "b" "a") (.cell "b" "a"))) := .tup (SqT.of upd_same) (.cons (.str _) (.cons (Dp.same k5 _ d1) (.cons (Dp.same k5 _ d1) .nil)))
  have el12 := j12 _ _ el
  generalize upd H11 t12 (.tup [.str "less", .ref t1, .ref t1]) = H12 at j12 k5 d12 el12 ⊢
  refine ⟨(by show 1 ≤ sizeLine; decide), fun l2 nl2 => ?_⟩
  have jm := new_same (o := .lst [.ref t12]) nl2
  refine ⟨l, l2, _, _, rfl, rfl, jm _ _ el12, upd_same, (by show 6 ≤ sizeLine; decide), fun c nc => ?_⟩
  have jc := new_same (o := .lst ([.ref t1, .ref t5, .ref t4, .ref t7, .ref t9] ++ [.ref t12])) nc
  have kk := jm.trans jc
  have k6 := ((((((j6.trans j7).trans j8).trans j9).trans jl).trans j12).trans kk)
  have k8 := ((((j8.trans j9).trans jl).trans j12).trans kk)
  have all : DpAll K _ ([.ref t1, .ref t5, .ref t4, .ref t7, .ref t9] ++ [.ref t12]) (fixedZ.map pzD) :=
    .cons (Dp.same (k5.trans kk) _ d1) (.cons (Dp.same k6 _ d5) (.cons (Dp.same (k5.trans kk) _ d4) (.cons (Dp.same k8 _ d7) (.cons (Dp.same ((jl.trans j12).trans kk) _ d9) (.cons (Dp.same kk _ d12) .nil)))))
  have ec : upd (upd H12 l2 (.lst [.ref t12])) c (.lst ([.ref t1, .ref t5, .ref t4, .ref t7, .ref t9] ++ [.ref t12])) c = some (.lst ([.ref t1, .ref t5, .ref t4, .ref t7, .ref t9] ++ [.ref t12])) := upd_same
  generalize upd (upd H12 l2 (.lst [.ref t12])) c (.lst ([.ref t1, .ref t5, .ref t4, .ref t7, .ref t9] ++ [.ref t12])) = H13 at ec all ⊢
  refine ⟨c, rfl, ⟨_, SqL.of ec⟩, fun D nD => ?_⟩
  refine lc_list (K := K) (a := c) (fun i H' => Same H13 H' ∧ H' D = some (.lst [])) ⟨new_same nD, upd_same⟩ (fun i H' _ z => SqL.of (z.1 _ _ ec)) ?_ ?_
  · rintro i x H20 hx ⟨s20, eD⟩
    obtain ⟨d, ed, hd⟩ := DpAll.at_ (DpAll.same s20 _ all) hx
    rw [List.getElem?_map, Option.map_eq_some_iff] at ed
    obtain ⟨z, ez, rfl⟩ := ed
    obtain ⟨zok, zd, zm⟩ := fixed_ok z (List.mem_of_getElem? ez)
    refine ⟨rfl, ?_⟩
    exact ⟨_, rfl, x, z, rfl, hd, zok, zd, zm, pz_shown zok zm zd, told_shown zok zm, fun H21 s21 => ⟨_, rfl, iteF ⟨s20.trans s21, s21 _ _ eD⟩⟩⟩
  · rintro H20 ⟨s20, eD⟩
    refine ⟨Nat.zero_le _, fun e0 ne0 => ?_⟩
    exact ⟨D, e0, [], rfl, rfl, SqL.of (new_same ne0 _ _ eD), SqL.of upd_same, q _⟩
end
end K02
end

section
set_option Elab.async false
set_option linter.all false
set_option maxRecDepth 100000
set_option maxHeartbeats 4000000
namespace K02
open PySem PySem.Spec PyProof.Rows L2 Gd
/-- t[lo:hi], whichever object it is -/
theorem sl_tupC (X : Cx) : SlR X (rSlC X.K) := by
  intro pins s σ H x v vl vu lo hi sl Q I rx hs pl pu h
  obtain ⟨a, xs, rfl, hx, q⟩ := h
  refine sl_tupA pins s σ H _ v vl vu lo hi sl Q I rx hs pl pu ⟨a, xs, rfl, hx, fun w => ?_, fun w p hp => q p _ (new_same hp) (SqT.of upd_same)⟩
  refine q a H (fun _ _ e => e) ?_
  have e : cutV xs lo hi = xs := by
    unfold cutV
    rw [w.1, w.2, List.drop_zero, Nat.sub_zero, List.take_length]
  rw [e]
  exact hx
section
variable {P : Program} {w : World} {K : PySem.W.Frag} {mg : Str → Option Value} {base : Heap} {f fT fL fM : Addr} {fd fdT fdL fdM : FuncData}
theorem piece_none : FnOk P w K mg base CX0 2 f fd ["_law_feed_here", "_law_deep", "_law_room"] (spPiece K 0) := by
  have bad : ∀ vs H Q E, ¬ spPiece K 0 vs H Q E := by
    rintro vs H Q E ⟨p, q, dp, S, r, _, _, h, _⟩
    omega
  exact ⟨fun vs H Q E h => absurd h (bad vs H Q E), fun A outer s H args us vs Q E _ _ _ _ h => absurd h (bad vs H Q E)⟩
theorem ok_piece (F : Fun K "_law_piece" "_law_piece" sPiece f fd)
    (b : Binds K fd ["_law_feed_here", "_law_deep", "_law_room"] []) (gF : mg "_law_piece" = some (.ref f))
    (FT : Fun K "_law_take" "_law_take" sTake fT fdT) (bT : Binds K fdT ["_law_feed_here", "_law_many"] []) (gT : mg "_law_take" = some (.ref fT))
    (GL : FnOk P w K mg base CX0 2 fL fdL ["_law_feed_here"] spLabel) (FL : Fun K "_law_label" "_law_label" sLabel fL fdL) (bL : Binds K fdL ["_law_feed_here"] []) (gL : mg "_law_label" = some (.ref fL))
    (GM : FnOk P w K mg base CX0 2 fM fdM ["_law_feed_here"] spNum) (FM : Fun K "_law_number" "_law_number" sNum fM fdM) (bM : Binds K fdM ["_law_feed_here"] []) (gM : mg "_law_number" = some (.ref fM)) :
    ∀ n : Nat, FnOk P w K mg base CX0 (n + 2) f fd ["_law_feed_here", "_law_deep", "_law_room"] (spPiece K n)
  | 0 => piece_none
  | n + 1 => piece_step F (ok_piece F b gF FT bT gT GL FL bL gL GM FM bM gM n) b gF FT bT gT GL FL bL gL GM FM bM gM
end
end K02
end

section
set_option Elab.async false
set_option linter.all false
set_option maxRecDepth 100000
set_option maxHeartbeats 8000000
namespace K02
open PySem PySem.Spec PyProof.Rows L2 Gd
theorem all_mk {l : PySem.W.OpenLaw} {w : World} {K : PySem.W.Frag} {h : Heap} {mg : Str → Option Value} {fa : Addr} {f0 f1 f2 f3 f4 f5 f6 f7 f8 f9 f10 f11 : Addr} {pS : Addr} {ddS : Option Addr} {slS : Array (Option Value)} {t1 t2 t3 t4 : Tok} {nnS : Nat} (X : K.In h) (G : h.Ns mainGlobals mg) (hfa : mg "law" = some (.ref fa))
    {od0 an0 od1 an1 od2 an2 od3 an3 od4 an4 od5 an5 od6 an6 od7 an7 od8 an8 od9 an9 od10 an10 od11 an11 : Option Addr} {sl0 sl1 sl2 sl3 sl4 sl5 sl6 sl7 sl8 sl9 sl10 sl11 : Array (Option Value)} {oc0 kV0 dc0 pm0 cd0 ct0 oc1 kV1 dc1 pm1 cd1 ct1 oc2 kV2 dc2 pm2 cd2 ct2 oc3 kV3 dc3 pm3 cd3 ct3 oc4 kV4 dc4 pm4 cd4 ct4 oc5 kV5 dc5 pm5 cd5 ct5 oc6 kV6 dc6 pm6 cd6 ct6 oc7 kV7 dc7 pm7 cd7 ct7 oc8 kV8 dc8 pm8 cd8 ct8 oc9 kV9 dc9 pm9 cd9 ct9 oc10 kV10 dc10 pm10 cd10 ct10 oc11 kV11 dc11 pm11 cd11 ct11 : Value}
    (aF0 : PySem.W.nsIn K mainGlobals "cells_from_left" = some (some (.ref f0)))
    (lF0 : K.lookup f0 = some ⟨oc0, od0, .func (PySem.W.fnOf "cells_from_left" "cells_from_left" (defArgs sCl) (defBody sCl) (defScope sCl) .none kV0 dc0 pm0 an0 cd0 ct0), sl0⟩)
    (cF0 : PySem.W.codeIn K cd0 "cells_from_left" = true)
    (kF0 : PySem.W.keepIn K (.ref f0) = true)
    (aF1 : PySem.W.nsIn K mainGlobals "cells_of" = some (some (.ref f1)))
    (lF1 : K.lookup f1 = some ⟨oc1, od1, .func (PySem.W.fnOf "cells_of" "cells_of" (defArgs sCo) (defBody sCo) (defScope sCo) .none kV1 dc1 pm1 an1 cd1 ct1), sl1⟩)
    (cF1 : PySem.W.codeIn K cd1 "cells_of" = true)
    (kF1 : PySem.W.keepIn K (.ref f1) = true)
    (aF2 : PySem.W.nsIn K mainGlobals "may_fault" = some (some (.ref f2)))
    (lF2 : K.lookup f2 = some ⟨oc2, od2, .func (PySem.W.fnOf "may_fault" "may_fault" (defArgs sMay) (defBody sMay) (defScope sMay) .none kV2 dc2 pm2 an2 cd2 ct2), sl2⟩)
    (cF2 : PySem.W.codeIn K cd2 "may_fault" = true)
    (kF2 : PySem.W.keepIn K (.ref f2) = true)
    (aF3 : PySem.W.nsIn K mainGlobals "_law_feed" = some (some (.ref f3)))
    (lF3 : K.lookup f3 = some ⟨oc3, od3, .func (PySem.W.fnOf "_law_feed" "_law_feed" (defArgs sFeed) (defBody sFeed) (defScope sFeed) .none kV3 dc3 pm3 an3 cd3 ct3), sl3⟩)
    (cF3 : PySem.W.codeIn K cd3 "_law_feed" = true)
    (kF3 : PySem.W.keepIn K (.ref f3) = true)
    (aF4 : PySem.W.nsIn K mainGlobals "_law_take" = some (some (.ref f4)))
    (lF4 : K.lookup f4 = some ⟨oc4, od4, .func (PySem.W.fnOf "_law_take" "_law_take" (defArgs sTake) (defBody sTake) (defScope sTake) .none kV4 dc4 pm4 an4 cd4 ct4), sl4⟩)
    (cF4 : PySem.W.codeIn K cd4 "_law_take" = true)
    (kF4 : PySem.W.keepIn K (.ref f4) = true)
    (aF5 : PySem.W.nsIn K mainGlobals "_law_label" = some (some (.ref f5)))
    (lF5 : K.lookup f5 = some ⟨oc5, od5, .func (PySem.W.fnOf "_law_label" "_law_label" (defArgs sLabel) (defBody sLabel) (defScope sLabel) .none kV5 dc5 pm5 an5 cd5 ct5), sl5⟩)
    (cF5 : PySem.W.codeIn K cd5 "_law_label" = true)
    (kF5 : PySem.W.keepIn K (.ref f5) = true)
    (aF6 : PySem.W.nsIn K mainGlobals "_law_number" = some (some (.ref f6)))
    (lF6 : K.lookup f6 = some ⟨oc6, od6, .func (PySem.W.fnOf "_law_number" "_law_number" (defArgs sNum) (defBody sNum) (defScope sNum) .none kV6 dc6 pm6 an6 cd6 ct6), sl6⟩)
    (cF6 : PySem.W.codeIn K cd6 "_law_number" = true)
    (kF6 : PySem.W.keepIn K (.ref f6) = true)
    (aF7 : PySem.W.nsIn K mainGlobals "_law_piece" = some (some (.ref f7)))
    (lF7 : K.lookup f7 = some ⟨oc7, od7, .func (PySem.W.fnOf "_law_piece" "_law_piece" (defArgs sPiece) (defBody sPiece) (defScope sPiece) .none kV7 dc7 pm7 an7 cd7 ct7), sl7⟩)
    (cF7 : PySem.W.codeIn K cd7 "_law_piece" = true)
    (kF7 : PySem.W.keepIn K (.ref f7) = true)
    (aF8 : PySem.W.nsIn K mainGlobals "_law_all" = some (some (.ref f8)))
    (lF8 : K.lookup f8 = some ⟨oc8, od8, .func (PySem.W.fnOf "_law_all" "_law_all" (defArgs sAl) (defBody sAl) (defScope sAl) .none kV8 dc8 pm8 an8 cd8 ct8), sl8⟩)
    (cF8 : PySem.W.codeIn K cd8 "_law_all" = true)
    (kF8 : PySem.W.keepIn K (.ref f8) = true)
    (aF9 : PySem.W.nsIn K mainGlobals "_law_led" = some (some (.ref f9)))
    (lF9 : K.lookup f9 = some ⟨oc9, od9, .func (PySem.W.fnOf "_law_led" "_law_led" (defArgs sLd) (defBody sLd) (defScope sLd) .none kV9 dc9 pm9 an9 cd9 ct9), sl9⟩)
    (cF9 : PySem.W.codeIn K cd9 "_law_led" = true)
    (kF9 : PySem.W.keepIn K (.ref f9) = true)
    (aF10 : PySem.W.nsIn K mainGlobals "_law_right" = some (some (.ref f10)))
    (lF10 : K.lookup f10 = some ⟨oc10, od10, .func (PySem.W.fnOf "_law_right" "_law_right" (defArgs sRi) (defBody sRi) (defScope sRi) .none kV10 dc10 pm10 an10 cd10 ct10), sl10⟩)
    (cF10 : PySem.W.codeIn K cd10 "_law_right" = true)
    (kF10 : PySem.W.keepIn K (.ref f10) = true)
    (aF11 : PySem.W.nsIn K mainGlobals "law" = some (some (.ref f11)))
    (lF11 : K.lookup f11 = some ⟨oc11, od11, .func (PySem.W.fnOf "law" "law" (defArgs sLaw) (defBody sLaw) (defScope sLaw) .none kV11 dc11 pm11 an11 cd11 ct11), sl11⟩)
    (cF11 : PySem.W.codeIn K cd11 "law" = true)
    (kF11 : PySem.W.keepIn K (.ref f11) = true)
    (nS : PySem.W.nsIn K mainGlobals "_SIGNS" = some (some (.ref pS)))
    (lS : K.lookup pS = some ⟨.type "tuple", ddS, .seq #[.str "plus" t1, .str "less" t2, .str "times" t3, .str "over" t4] nnS, slS⟩)
    (z_len : PySem.W.nsIn K mainGlobals "len" = some none)
    (z_abs : PySem.W.nsIn K mainGlobals "abs" = some none)
    (z_range : PySem.W.nsIn K mainGlobals "range" = some none)
    (z_repr : PySem.W.nsIn K mainGlobals "repr" = some none)
    (z_sorted : PySem.W.nsIn K mainGlobals "sorted" = some none)
    (z_set : PySem.W.nsIn K mainGlobals "set" = some none)
    (z_min : PySem.W.nsIn K mainGlobals "min" = some none)
    (z_max : PySem.W.nsIn K mainGlobals "max" = some none) :
    ∃ fd : FuncData, (∀ (s : Shared) (v : Value), BindsTo s fd ⟨[v], []⟩ [("_law_script", v)]) ∧ ∀ base : Heap, K.In base → base.Ns mainGlobals mg → FnG l.prog w K mg base CX0 9 fa fd ["_law_script"] (spLaw K) := by
  have e := hfa.symm.trans (PySem.W.mg_of X G aF11)
  cases e
  have F0 := fun_mk (st := sCl) lF0 cF0 kF0
  have b0 := F0.binds (ps := ["part"]) fun _ _ _ _ _ _ us hl => match us, hl with | [_], _ => rfl
  have m0 := PySem.W.mg_of X G aF0
  have F1 := fun_mk (st := sCo) lF1 cF1 kF1
  have b1 := F1.binds (ps := ["part"]) fun _ _ _ _ _ _ us hl => match us, hl with | [_], _ => rfl
  have m1 := PySem.W.mg_of X G aF1
  have F2 := fun_mk (st := sMay) lF2 cF2 kF2
  have b2 := F2.binds (ps := ["part"]) fun _ _ _ _ _ _ us hl => match us, hl with | [_], _ => rfl
  have m2 := PySem.W.mg_of X G aF2
  have F3 := fun_mk (st := sFeed) lF3 cF3 kF3
  have b3 := F3.binds (ps := ["_law_script", "_law_k"]) fun _ _ _ _ _ _ us hl => match us, hl with | [_, _], _ => rfl
  have m3 := PySem.W.mg_of X G aF3
  have F4 := fun_mk (st := sTake) lF4 cF4 kF4
  have b4 := F4.binds (ps := ["_law_feed_here", "_law_many"]) fun _ _ _ _ _ _ us hl => match us, hl with | [_, _], _ => rfl
  have m4 := PySem.W.mg_of X G aF4
  have F5 := fun_mk (st := sLabel) lF5 cF5 kF5
  have b5 := F5.binds (ps := ["_law_feed_here"]) fun _ _ _ _ _ _ us hl => match us, hl with | [_], _ => rfl
  have m5 := PySem.W.mg_of X G aF5
  have F6 := fun_mk (st := sNum) lF6 cF6 kF6
  have b6 := F6.binds (ps := ["_law_feed_here"]) fun _ _ _ _ _ _ us hl => match us, hl with | [_], _ => rfl
  have m6 := PySem.W.mg_of X G aF6
  have F7 := fun_mk (st := sPiece) lF7 cF7 kF7
  have b7 := F7.binds (ps := ["_law_feed_here", "_law_deep", "_law_room"]) fun _ _ _ _ _ _ us hl => match us, hl with | [_, _, _], _ => rfl
  have m7 := PySem.W.mg_of X G aF7
  have F8 := fun_mk (st := sAl) lF8 cF8 kF8
  have b8 := F8.binds (ps := ["_law_piece_here"]) fun _ _ _ _ _ _ us hl => match us, hl with | [_], _ => rfl
  have m8 := PySem.W.mg_of X G aF8
  have F9 := fun_mk (st := sLd) lF9 cF9 kF9
  have b9 := F9.binds (ps := ["_law_feed_here", "_law_piece_here", "_law_labels"]) fun _ _ _ _ _ _ us hl => match us, hl with | [_, _, _], _ => rfl
  have m9 := PySem.W.mg_of X G aF9
  have F10 := fun_mk (st := sRi) lF10 cF10 kF10
  have b10 := F10.binds (ps := ["_law_piece_here"]) fun _ _ _ _ _ _ us hl => match us, hl with | [_], _ => rfl
  have m10 := PySem.W.mg_of X G aF10
  have F11 := fun_mk (st := sLaw) lF11 cF11 kF11
  have m11 := PySem.W.mg_of X G aF11
  have y_len := PySem.W.mg_none_of X G z_len
  have y_abs := PySem.W.mg_none_of X G z_abs
  have y_range := PySem.W.mg_none_of X G z_range
  have y_repr := PySem.W.mg_none_of X G z_repr
  have y_sorted := PySem.W.mg_none_of X G z_sorted
  have y_set := PySem.W.mg_none_of X G z_set
  have y_min := PySem.W.mg_none_of X G z_min
  have y_max := PySem.W.mg_none_of X G z_max
  refine ⟨PySem.W.fnOf "law" "law" (defArgs sLaw) (defBody sLaw) (defScope sLaw) .none kV11 dc11 pm11 an11 cd11 ct11, fun s v => .of_eq rfl, fun base _ _ => ?_⟩
  have C : Sg K mg pS := ⟨PySem.W.mg_of X G nS, fun H => .inr ⟨_, _, _, lS, rfl, rfl, (by show 4 ≤ sizeLine; decide), .cons ⟨_, rfl⟩ (.cons ⟨_, rfl⟩ (.cons ⟨_, rfl⟩ (.cons ⟨_, rfl⟩ .nil)))⟩⟩
  have kO := kw_of (k := "part") F1 fun _ _ _ _ _ _ _ => rfl
  have kM := kw_of (k := "part") F2 fun _ _ _ _ _ _ _ => rfl
  have gCl := ok_cl (mg := mg) (P := l.prog) (w := w) (base := base) F0 b0 m0 5
  have gCo := ok_co (P := l.prog) (w := w) (base := base) F1 y_sorted y_set F0 gCl b0 m0
  have gMay := ok_may (P := l.prog) (w := w) (base := base) F2 C b2 m2 5
  have gFeed := ok_feed (P := l.prog) (w := w) (base := base) F3 y_len y_abs
  have gTake := ok_take (K := K) (mg := mg) (P := l.prog) (w := w) (base := base) F4
  have gLab := ok_label (P := l.prog) (w := w) (base := base) F5 F4 b4 m4 y_range
  have gNum := ok_num (P := l.prog) (w := w) (base := base) F6 F4 b4 m4
  have gPc := ok_piece (P := l.prog) (w := w) (base := base) F7 b7 m7 F4 b4 m4 gLab F5 b5 m5 gNum F6 b6 m6 5
  have gAl := ok_al (mg := mg) (P := l.prog) (w := w) (base := base) F8 b8 m8 5
  have gLd := ok_ld (P := l.prog) (w := w) (base := base) F9 y_len b9 m9 F4 gTake b4 m4 5
  have gRi := ok_ri (P := l.prog) (w := w) (base := base) F10 y_repr y_sorted y_range sl_tupC F8 gAl b8 m8 F1 gCo b1 m1 F2 gMay b2 kM m2
  exact ok_law F11 y_len y_range y_min y_max y_repr F3 gFeed b3 m3 F4 gTake b4 m4 F5 gLab b5 m5 F7 gPc b7 m7 F9 gLd b9 m9 F10 gRi b10 m10 F1 gCo b1 kO m1

end K02
open PySem PySem.W PyProof.Rows
set_option maxRecDepth 100000 in
set_option maxHeartbeats 0 in
theorem PySem.Challenge.cw_plansamid_k02_cells_and_faults_of_parts_holds : PySem.Challenge.rw_plansamid_k02_cells_and_faults_of_parts.Holds := by
  w_on; o_law; k_head; (case hw => w_witness2)
  k_fill
  refine Gd.walkG (l := PySem.Challenge.rw_plansamid_k02_cells_and_faults_of_parts) (m := 63) (n := 9) (x := "_law_script") (sp := K02.spLaw) rfl (by decide) rfl ⟨rfl, by decide, by decide⟩ (fun w h Y => PySem.W.kIn_of Y) ?F ?S
  case S =>
    intro K H a ns h1 _ _ h4; exact ⟨a, ns, rfl, h4, h1, fun _ => rfl⟩
  case F =>
    intro w mg fa h KX G hmg
    refine' K02.all_mk KX G hmg ?aF0 ?lF0 ?cF0 ?kF0 ?aF1 ?lF1 ?cF1 ?kF1 ?aF2 ?lF2 ?cF2 ?kF2 ?aF3 ?lF3 ?cF3 ?kF3 ?aF4 ?lF4 ?cF4 ?kF4 ?aF5 ?lF5 ?cF5 ?kF5 ?aF6 ?lF6 ?cF6 ?kF6 ?aF7 ?lF7 ?cF7 ?kF7 ?aF8 ?lF8 ?cF8 ?kF8 ?aF9 ?lF9 ?cF9 ?kF9 ?aF10 ?lF10 ?cF10 ?kF10 ?aF11 ?lF11 ?cF11 ?kF11 ?nS ?lS ?z_len ?z_abs ?z_range ?z_repr ?z_sorted ?z_set ?z_min ?z_max
    (case aF0 => k_is)
    (case lF0 => k_is)
    (case cF0 => k_is)
    (case kF0 => k_is)
    (case aF1 => k_is)
    (case lF1 => k_is)
    (case cF1 => k_is)
    (case kF1 => k_is)
    (case aF2 => k_is)
    (case lF2 => k_is)
    (case cF2 => k_is)
    (case kF2 => k_is)
    (case aF3 => k_is)
    (case lF3 => k_is)
    (case cF3 => k_is)
    (case kF3 => k_is)
    (case aF4 => k_is)
    (case lF4 => k_is)
    (case cF4 => k_is)
    (case kF4 => k_is)
    (case aF5 => k_is)
    (case lF5 => k_is)
    (case cF5 => k_is)
    (case kF5 => k_is)
    (case aF6 => k_is)
    (case lF6 => k_is)
    (case cF6 => k_is)
    (case kF6 => k_is)
    (case aF7 => k_is)
    (case lF7 => k_is)
    (case cF7 => k_is)
    (case kF7 => k_is)
    (case aF8 => k_is)
    (case lF8 => k_is)
    (case cF8 => k_is)
    (case kF8 => k_is)
    (case aF9 => k_is)
    (case lF9 => k_is)
    (case cF9 => k_is)
    (case kF9 => k_is)
    (case aF10 => k_is)
    (case lF10 => k_is)
    (case cF10 => k_is)
    (case kF10 => k_is)
    (case aF11 => k_is)
    (case lF11 => k_is)
    (case cF11 => k_is)
    (case kF11 => k_is)
    (case nS => k_is)
    (case lS => k_is)
    (case z_len => k_is)
    (case z_abs => k_is)
    (case z_range => k_is)
    (case z_repr => k_is)
    (case z_sorted => k_is)
    (case z_set => k_is)
    (case z_min => k_is)
    (case z_max => k_is)
end
