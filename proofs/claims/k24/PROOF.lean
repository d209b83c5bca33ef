import PyProof.Rows.All
import Wide.All
import OpenK.AllK
import Wide.FinOn
import HandS.ForMost
import HandS.ForExc
import HandS.EndBits
import HandS.IsInst
import PyProof.ReprRoads
import PyProof.FitsInt
import PyProof.NeKinds
import HandS.Zip
import KE.GoesZip
import KE.GoesMore
import HandS.Base
import HandS.Codes
import HandS.Walk
import HandS.TupAny
import HandS.Conv
import HandS.DeepEq
import HandS.Iter
import PySem.Challenge.RW_plansamid_k24_choices_met_by_slabs

section
set_option Elab.async false
set_option linter.all false
set_option maxRecDepth 100000
set_option maxHeartbeats 4000000
/-! A def's promise where no text of a container is being put together around it (so that repr is served). -/
namespace Gd
open PySem PySem.Spec PyProof.Rows L2

/-- no container is amid its own text -/
def Free (A : Around) : Prop := A.guards = some []

structure FnG (P : Program) (w : World) (K : PySem.W.Frag) (mg : Str → Option Value)
    (base : Heap) (cx : CXT) (n : Nat) (f : Addr) (fd : FuncData) (ps : List Str) (sp : Sp) : Prop where
  len : ∀ vs H Q E, sp vs H Q E → vs.length = ps.length
  run : ∀ (A : Around) (out : List Env) (s : Shared) (H : Hp) (args : Args) (us : List Value)
      (vs : List V) (Q : VK) (E : XK), Free A → Room n A → Env0 P w K mg base A out s H →
      BindsTo s fd args (ps.zip us) → Vals vs us → sp vs H Q E →
      codeAny (model P w) A (.call (.ref f) args) (CR cx out P w H s Q E) s

section
variable {P : Program} {w : World} {K : PySem.W.Frag} {mg : Str → Option Value} {base : Heap} {cx : CXT}
theorem FnG.ofOk {n : Nat} {f : Addr} {fd : FuncData} {ps : List Str} {sp : Sp}
    (F : FnOk P w K mg base cx n f fd ps sp) : FnG P w K mg base cx n f fd ps sp :=
  ⟨F.len, fun A out s H args us vs Q E _ => F.run A out s H args us vs Q E⟩
theorem FnG.mono {m n : Nat} {f : Addr} {fd : FuncData} {ps : List Str} {sp : Sp}
    (F : FnG P w K mg base cx m f fd ps sp) (h : m ≤ n) : FnG P w K mg base cx n f fd ps sp :=
  ⟨F.len, fun A out s H args us vs Q E g r => F.run A out s H args us vs Q E g (r.mono h)⟩
end

section
variable {X : Cx} {cx : CXT} {n : Nat} {f : Addr} {fd : FuncData} {ps : List Str} {sp : Sp}
  {dvs : List V} {ds : List Value} {E : XK} {x : Str} {p pos : Pos} {e : Expr} {es : List Expr} {t : TA}

theorem run_g {pins : List (Addr × Obj)} {σ : L2.St} {H : Hp} {s : Shared} {Q : VK} {us : List Value} {vs : List V}
    (F : FnG X.prog X.w X.K X.mg X.base cx n f fd ps sp) (g : Free X.A) (hr : Room n X.A)
    (hb : Binds X.K fd ps ds) (hd : Vals dvs ds) (hx : Passes cx X E)
    (I : Inv X pins σ H s) (r : Vals vs us) (h : sp (vs ++ dvs) H Q E) :
    wpAny (model X.prog X.w) X.A (call (.ref f) us) (EP X pins σ Q) X.xe s := by
  have rr : Vals (vs ++ dvs) (us ++ ds) := r.append hd
  have hl : (us ++ ds).length = ps.length := (Paired.length rr).symm.trans (F.len _ _ _ _ h)
  have all := F.run X.A X.stack s H ⟨us, []⟩ (us ++ ds) (vs ++ dvs) Q E g hr I.env0 (hb s us I.kIn hl) rr h
  refine wpAny_call (codeAny_mono all ?_)
  intro o s' z
  cases o with
  | error er => exact hx pins σ H s er s' I z
  | ok fl =>
    cases fl with
    | ret u => exact I.after z
    | _ => exact False.elim z

theorem pe_callG (F : FnG X.prog X.w X.K X.mg X.base cx n f fd ps sp) (g : Free X.A) (hr : Room n X.A)
    (hg : Gl X x) (hm : X.mg x = some (.ref f)) (hk : PySem.W.keepIn X.K (.ref f) = true)
    (hb : Binds X.K fd ps ds) (hd : Vals dvs ds) (hx : Passes cx X E) (ha : PA X (e :: es) t)
    (hdb : (x == ("__debug__" : Str)) = false := by decide)
    (he : starEach (e :: es) X.env = (false, eval e X.env) :: starEach es X.env := by rfl)
    (hpl : (backTo pos (starEach es X.env)).any (·.1) = false := by rfl) :
    PE X (.Call (.Name x p) (e :: es) [] pos) (tCall sp dvs E t) := by
  constructor
  intro pins s σ H Q I h
  refine wpAny_Call_Name_kw (ld_glob I hg hm ?_ hdb)
  have args := ha.run pos pins s σ H _ I h
  refine PySem.W.callWith_K (h₀ := X.base) I.ok.mod.kin hk (thn args ?_) he hpl
  rintro us s1 ⟨vs, H1, J, r, q⟩
  exact ⟨J.kIn, run_g F g hr hb hd hx J r q⟩
end

/-! ### by the body -/
section
variable {P : Program} {w : World} {K : PySem.W.Frag} {mg : Str → Option Value} {base : Heap}
theorem FnG.body {cx : CXT} {n : Nat} {f : Addr} {nm ql : Str} {pr : Arguments} {bd : List Stmt} {sc : Scope}
    {dV kV dc pm cv ct oc : Value} {an od : Option Addr} {sl : Array (Option Value)} {N ps : List Str} {sp : Sp}
    (lk : K.lookup f = some ⟨oc, od, .func (PySem.W.fnOf nm ql pr bd sc dV kV dc pm an cv ct), sl⟩)
    (hc : PySem.W.codeIn K cv ql = true) (S : FnScope N ps sc) (len : ∀ vs H Q E, sp vs H Q E → vs.length = ps.length)
    (hb : ∀ (A : Around) (out : List Env) (s : Shared) (H : Hp) (vs : List V) (Q : VK) (E : XK),
      Free (A.deeper (envOfC ql sc s.heap.objs.size f cv)) → Room n (A.deeper (envOfC ql sc s.heap.objs.size f cv)) →
      sp vs H Q E → ∃ t, PSs (cxOf cx P w K mg base N ql sc f cv A out s H E) bd t ∧
        t { nx := fun _ H' => Q .non H', rt := Q } (start N vs) H) :
    FnG P w K mg base cx (n + 1) f (PySem.W.fnOf nm ql pr bd sc dV kV dc pm an cv ct) ps sp := by
  refine ⟨len, ?_⟩
  intro A out s H args us vs Q E g hr e0 hbd r hsp
  have hl := len _ _ _ _ hsp
  have KX : K.In s.heap := e0.mod.kin.keeps fun b o e => (e0.bs b o e).1
  have lim : s.heap.NoLimit := e0.mod.nolimit.keeps fun b o e => (e0.bs b o e).1
  have kinds : ∀ y ∈ ps.zip us, sc.names.lookup y.1 = some .local ∨
      (sc.names.lookup y.1 = some .cell ∧
        ((cellsFrom (s.heap.objs.size + 1) sc.names []).lookup y.1).isSome = true) := by
    rintro ⟨y, v⟩ hy
    rcases S.par y (List.of_mem_zip hy).1 with q | q
    · left; exact q
    · right; exact ⟨q, PySem.W.cellsFrom_some _ _ _ (.inl q)⟩
  have code := PySem.W.codeRec_of KX hc
  refine codeAny_call_function hr.depth (KX _ _ lk) rfl S.co S.gen rfl code (hbd _ _ _ _ ?_)
  refine wpAny_newFunctionEnv_cells S.kind kinds ?_
  intro env he s1 x
  subst he
  refine ⟨lim.keeps x.toInCall.keep, codeAny_func ?_⟩
  obtain ⟨t, ht, hq⟩ := hb A out s H vs Q E g (hr.deeper _) hsp
  have I := inv_start (CX := cx) (P := P) (w := w) (E := E) S hr.hd e0 hl r x
  refine wpAny_mono (ht.run [] s1 (start N vs) H _ I hq) ?_ fun er s' z => z
  intro fl s' z
  cases fl with
  | ret u =>
    obtain ⟨v, σ', H', J, rv, q⟩ := z
    exact ⟨v, H', J.os, J.bare, J.base, J.hok, rv, q⟩
  | next =>
    obtain ⟨σ', H', J, q⟩ := z
    exact ⟨V.non, H', J.os, J.bare, J.base, J.hok, rfl, q⟩
  | brk =>
    obtain ⟨_, _, _, q⟩ := z
    exact q.elim
  | cont =>
    obtain ⟨_, _, _, q⟩ := z
    exact q.elim

theorem okG {x ql : Str} {st : Stmt} {f : Addr} {fd : FuncData} {N ps : List Str} {n : Nat} {sp : Sp}
    (F : Fun K x ql st f fd) (S : FnScope N ps (defScope st)) (len : ∀ vs H Q E, sp vs H Q E → vs.length = ps.length)
    (hb : ∀ (cv : Value) (A : Around) (out : List Env) (s : Shared) (H : Hp) (vs : List V) (Q : VK) (E : XK),
      Free (A.deeper (envOfC ql (defScope st) s.heap.objs.size f cv)) →
      Room n (A.deeper (envOfC ql (defScope st) s.heap.objs.size f cv)) → sp vs H Q E →
      ∃ t, PSs (cxOf CX0 P w K mg base N ql (defScope st) f cv A out s H E).nox (defBody st) t ∧
        t { nx := fun _ H' => Q .non H', rt := Q } (start N vs) H) :
    FnG P w K mg base CX0 (n + 1) f fd ps sp := by
  obtain ⟨oc, od, kV, dc, pm, an, cv, ct, sl, rfl, lk, hc⟩ := F.ex
  refine FnG.body lk hc S len ?_
  intro A out s H vs Q E g hr hsp
  obtain ⟨t, h, q⟩ := hb cv A out s H vs Q E g hr hsp
  exact ⟨t, h.nox, q⟩
end
end Gd
end

section
set_option Elab.async false
set_option linter.all false
set_option maxRecDepth 100000
set_option maxHeartbeats 4000000
/-! The end of a law's row from a promise of Gd.FnG. -/
namespace Gd
open PySem PySem.Spec PyProof.Rows L2

/-- what is wanted of the law's own call -/
def Yes (s1 : Shared) (r : Result) (s' : Shared) : Prop :=
  r = .ok (.ret (.bool true)) ∧ OldK s1.heap s'.heap ∧ s'.os = s1.os ∧ AllBare s'.gens

section
variable {P : Program} {w : World} {K : PySem.W.Frag} {mg mb : Str → Option Value} {cx : CXT} {n : Nat}
  {fa a : Addr} {fd : FuncData} {x : Str} {sp : Sp} {s1 : Shared} {vs : List Value} {ns : List Int}

theorem begun (H : Hp) (only : Only H) (hS : SqL K H a (ns.map V.int)) (hok : HOk P w H s1.heap)
    (at_a : ∀ b, H b ≠ none → b = a) (noK : H a ≠ none → K.lookup a = none)
    (KX : K.In s1.heap) (hns : s1.heap.Ns mainGlobals mg) (hb : s1.heap.Ns builtinsNs mb)
    (hbb : ∀ y : Str, y ≠ "__name__" → mb y = bootBuiltins y) (hlim : s1.heap.NoLimit) (hg : s1.gens = #[])
    (ha : s1.heap.get? a = some { cls := .type "list", data := .seq vs.toArray }) (hr : Room n callerA)
    (F : ∀ base : Heap, K.In base → base.Ns mainGlobals mg → FnG P w K mg base cx n fa fd [x] sp)
    (hbind : ∀ (s : Shared) (u : Value), BindsTo s fd ⟨[u], []⟩ [(x, u)])
    (hsp : sp [.ref a] H (fun v _ => v = .bl true) fun _ _ _ => False)
    (hCX : ∀ e s', cx [] H s1 (fun _ _ _ => False) e s' → False) :
    codeAny (model P w) callerA (.call (.ref fa) ⟨[.ref a], []⟩) (Yes s1) s1 := by
  -- the base: what isn't tracked
  let B := hidT s1.heap H
  have toB : ∀ {b : Addr} {o : Obj}, s1.heap.get? b = some o → H b = none → B.get? b = some o :=
    fun e z => hidT_get e z
  have notDict : ∀ {b : Addr} {o : Obj} {es : Array DictEntry} {m : Nat},
      s1.heap.get? b = some o → o.data = .dict es m → H b = none := by
    intro b o es m e d
    cases q : H b with
    | none => rfl
    | some u =>
      exfalso
      have eb : b = a := at_a b (by simp [q])
      rw [eb, ha] at e
      cases Option.some.inj e
      cases d
  have nsB : ∀ {b : Addr} {m : Str → Option Value}, s1.heap.Ns b m → B.Ns b m := by
    rintro b m ⟨o, es, ep, e, d, r⟩
    exact ⟨o, es, ep, toB e (notDict e d), d, r⟩
  have inB : K.In B := by
    intro b o e
    refine toB (KX b o e) ?_
    cases q : H b with
    | none => rfl
    | some u =>
      have eb : b = a := at_a b (by simp [q])
      have z := noK (by rw [← eb, q]; simp)
      rw [eb, z] at e
      cases e
  have modB : Mod K mg B := by
    obtain ⟨mc, l1, l2⟩ := hlim
    exact ⟨inB, nsB hns, ⟨mb, nsB hb, hbb⟩, ⟨mc, nsB l1, l2⟩⟩
  have nil : ∀ {b : Addr}, b ∉ ([] : List Addr) := fun z => nomatch z
  have e0 : Env0 P w K mg B callerA [] s1 H :=
    ⟨rfl, modB, fun b o e => of_hidT e, Nat.le_of_eq (hidT_size _ _), trivial, fun b z => (nil z).elim, hok, .of_eq hg⟩
  have got := (F B inB (nsB hns)).run callerA [] s1 H ⟨[.ref a], []⟩ [.ref a] [.ref a] _ _ rfl hr e0
    (hbind s1 (.ref a)) (.cons rfl .nil) hsp
  refine codeAny_mono got ?_
  intro r s' z
  cases r with
  | error er => exact (hCX er s' z).elim
  | ok fl =>
    cases fl with
    | ret u =>
      obtain ⟨v, H', os, bare, un, hok', rv, q⟩ := z
      obtain rfl : v = .bl true := q
      obtain rfl : u = Value.bool true := rv
      refine ⟨rfl, OldK.of_keep ?_, os, bare⟩
      intro b o e
      cases q : H b with
      | none => exact un.keep b o e q (fun z => (nil z).elim) (fun z => (nil z).elim)
      | some u =>
        rcases only b with z | ⟨ob, xs, z⟩
        · exact nomatch q.symm.trans z
        · obtain ⟨g1, _⟩ := hok b _ z
          obtain ⟨g2, _⟩ := hok' b _ (un.frzs b ob _ z)
          exact g2.trans (g1.symm.trans e)
    | _ => exact False.elim z

theorem law_callG (KX : K.In s1.heap) (hns : s1.heap.Ns mainGlobals mg) (hb : s1.heap.Ns builtinsNs mb)
    (hbb : ∀ y : Str, y ≠ "__name__" → mb y = bootBuiltins y) (hlim : s1.heap.NoLimit) (hg : s1.gens = #[])
    (ha : s1.heap.get? a = some { cls := .type "list", data := .seq vs.toArray }) (hi : IntsAre vs ns)
    (hl : ns.length ≤ sizeLine) (hr : Room n callerA)
    (F : ∀ base : Heap, K.In base → base.Ns mainGlobals mg → FnG P w K mg base cx n fa fd [x] sp)
    (hbind : ∀ (s : Shared) (u : Value), BindsTo s fd ⟨[u], []⟩ [(x, u)])
    (hsp : ∀ H : Hp, Only H → SqL K H a (ns.map V.int) → sp [.ref a] H (fun v _ => v = .bl true) fun _ _ _ => False)
    (hCX : ∀ H e s', cx [] H s1 (fun _ _ _ => False) e s' → False) :
    codeAny (model P w) callerA (.call (.ref fa) ⟨[.ref a], []⟩) (Yes s1) s1 := by
  have rv := vals_ints hi
  have hz : vs.toArray.size ≤ sizeLine := by
    rw [List.size_toArray, hi.length]
    exact hl
  cases hk : K.lookup a with
  | some o =>
    have e : some o = some _ := (KX a o hk).symm.trans ha
    cases e
    have here : SqL K (fun _ => none) a (ns.map V.int) := .inr ⟨_, vs.toArray, _, hk, rfl, rfl, rfl, hz, by simpa using rv⟩
    have only : Only (fun _ => none) := fun _ => .inl rfl
    exact begun (fun _ => none) only here (fun b u z => nomatch z) (fun b z => absurd rfl z) (fun z => absurd rfl z)
      KX hns hb hbb hlim hg ha hr F hbind (hsp _ only here) (hCX _)
  | none =>
    let H : Hp := fun b => if b = a then some (.frz { cls := .type "list", data := .seq vs.toArray } (.lst (ns.map V.int))) else none
    have Ha : H a = some (.frz { cls := .type "list", data := .seq vs.toArray } (.lst (ns.map V.int))) := if_pos rfl
    have Hn : ∀ {b : Addr}, b ≠ a → H b = none := fun z => if_neg z
    have only : Only H := by
      intro b
      by_cases eb : b = a
      · right
        subst eb
        exact ⟨_, _, Ha⟩
      · left
        exact Hn eb
    have here : SqL K H a (ns.map V.int) := .inl (.inr ⟨_, Ha⟩)
    refine begun H only here ?_ ?_ (fun _ => hk) KX hns hb hbb hlim hg ha hr F hbind (hsp _ only here) (hCX _)
    · intro b u z
      by_cases eb : b = a
      · subst eb
        rw [Ha] at z
        cases z
        exact ⟨ha, by rw [List.length_map]; exact hl, vs, _, rv, ha⟩
      · rw [Hn eb] at z
        cases z
    · intro b z
      by_cases eb : b = a
      · exact eb
      · exact absurd (Hn eb) z
end

theorem walkG {l : PySem.W.OpenLaw} {m n : Nat} {q : Program} {loose : List Str} {XP : (Str → Option Value) → Heap → Prop}
    {YP : World → Heap → Prop} {d : DefRec} {K : Params → PySem.W.Frag} {sp : PySem.W.Frag → Sp} {x : Str}
    (hn : l.most = some m) (hm : m ≤ sizeLine) (hdf : d.params.defaults = []) (hr : Room n callerA)
    (hY : ∀ (w : World) (h : Heap), YP w h → (K w.params).In h)
    (F : ∀ (w : World) (mg : Str → Option Value) (fa : Addr) (h : Heap), (K w.params).In h → h.Ns mainGlobals mg →
      mg d.name = some (.ref fa) → ∃ fd : FuncData, (∀ (s : Shared) (u : Value), BindsTo s fd ⟨[u], []⟩ [(x, u)]) ∧
        ∀ base : Heap, (K w.params).In base → base.Ns mainGlobals mg →
          FnG l.prog w (K w.params) mg base CX0 n fa fd [x] (sp (K w.params)))
    (hsp : ∀ (K : PySem.W.Frag) (H : Hp) (a : Addr) (ns : List Int), ns.length ≤ m →
      (∀ z ∈ ns, Builtin.Int.intBits z ≤ 1048576) → Only H → SqL K H a (ns.map V.int) →
      sp K [.ref a] H (fun v _ => v = .bl true) fun _ _ _ => False) :
    PySem.W.WalkO q loose XP YP l.row.toRowW d [] (fun f vs => PySem.call f vs) := by
  refine Att.attach_callB hn hdf ?_
  intro w s0 s1 mg mb fa o pm cd dc a vs ns G Y ho hd hcd hmg hobj hints hlen hbits hg
  have KX := hY w _ Y
  obtain ⟨fd, hb, hF⟩ := F w mg fa _ KX G.T.g hmg
  exact law_callG KX G.T.g G.T.b G.T.builtins G.T.nolimit hg hobj hints (Nat.le_trans hlen hm) hr hF hb
    (fun H only hS => hsp _ H a ns hlen hbits only hS) fun H e s' z => z.elim
end Gd
end

section
set_option Elab.async false
set_option linter.all false
set_option maxRecDepth 100000
set_option maxHeartbeats 4000000
/-! What the laws draw from: a list of three numbers, of which each draw takes one more. -/
namespace Gd
open PySem PySem.Spec PyProof.Rows L2

/-- at p: what is left of a great number, the seed, how many were drawn, at most S -/
def Feed (H : Hp) (p : Addr) (S : Int) : Prop := ∃ g x s : Int, H p = some (.lst [.int g, .int x, .int s]) ∧ 0 ≤ s ∧ s ≤ S
theorem Feed.le {H : Hp} {p : Addr} {S T : Int} (h : Feed H p S) (l : S ≤ T) : Feed H p T := by
  obtain ⟨g, x, s, e, a, b⟩ := h
  exact ⟨g, x, s, e, a, by omega⟩
theorem Feed.here {H : Hp} {p : Addr} {S g x s : Int} (h0 : 0 ≤ s) (h : s ≤ S) : Feed (upd H p (.lst [.int g, .int x, .int s])) p S :=
  ⟨g, x, s, upd_same, h0, h⟩
theorem Feed.stays {H : Hp} {p q : Addr} {S : Int} {o : HO} (h : Feed H p S) (n : H q = none) : Feed (upd H q o) p S := by
  obtain ⟨g, x, s, e, a, b⟩ := h
  refine ⟨g, x, s, ?_, a, b⟩
  rw [upd_ne (ne_of_none e n)]
  exact e
/-- all is as it was, but at p -/
def Ex1 (p : Addr) (H H' : Hp) : Prop := ∀ a o, a ≠ p → H a = some o → H' a = some o
theorem Ex1.refl (p : Addr) (H : Hp) : Ex1 p H H := fun _ _ _ h => h
theorem Ex1.trans {p : Addr} {H H1 H2 : Hp} (a : Ex1 p H H1) (b : Ex1 p H1 H2) : Ex1 p H H2 := fun x o n h => b x o n (a x o n h)
theorem Ex1.at {p : Addr} {H : Hp} {o : HO} : Ex1 p H (upd H p o) := fun a u n e => by
  rw [upd_ne n]
  exact e
theorem Ex1.new {p q : Addr} {H : Hp} {o : HO} (n : H q = none) : Ex1 p H (upd H q o) := fun a u _ e => by
  rw [upd_ne (ne_of_none e n)]
  exact e

theorem Feed.lst {H : Hp} {p : Addr} {S : Int} (h : Feed H p S) : ∃ xs, H p = some (.lst xs) := by
  obtain ⟨g, x, s, e, _⟩ := h
  exact ⟨_, e⟩
theorem Feed.ne {H : Hp} {p q : Addr} {S : Int} (h : Feed H p S) (n : H q = none) : q ≠ p := fun z => by
  obtain ⟨xs, e⟩ := h.lst
  rw [z, e] at n
  cases n
def spTake : Sp := fun vs H Q _ => ∃ (p : Addr) (m S : Int), vs = [.ref p, .int m] ∧ Feed H p S ∧ 0 < m ∧ m < 1073741824 ∧
  S ≤ 1000000000 ∧ ∀ (r : Int) (H' : Hp), 0 ≤ r → r < m → Feed H' p (S + 1) → Ex1 p H H' → Q (.int r) H'

theorem fmod_in (a : Int) {b : Int} (h : 0 < b) : 0 ≤ a.fmod b ∧ a.fmod b < b :=
  ⟨Int.fmod_nonneg_of_pos a h, Int.fmod_lt_of_pos a h⟩
end Gd
end

section
set_option Elab.async false
set_option linter.all false
set_option maxRecDepth 100000
set_option maxHeartbeats 4000000
/-! Data: numbers, texts, truths, None, tuples of such. -/
namespace Gd
open PySem PySem.Spec PyProof.Rows L2

mutual
def tupOnly : PyData → Bool
  | .none => true
  | .bool _ => true
  | .int _ => true
  | .str _ => true
  | .tuple ds => decide (ds.length ≤ 1000) && tupOnlyAll ds
  | .list _ => false
  | .dict _ => false
def tupOnlyAll : List PyData → Bool
  | [] => true
  | d :: ds => tupOnly d && tupOnlyAll ds
end

/-- tuples stay -/
def Tups (K : PySem.W.Frag) (H H' : Hp) : Prop := ∀ a xs, SqT K H a xs → SqT K H' a xs
theorem Tups.refl {K : PySem.W.Frag} {H : Hp} : Tups K H H := fun _ _ h => h
theorem Tups.trans {K : PySem.W.Frag} {H H1 H2 : Hp} (a : Tups K H H1) (b : Tups K H1 H2) : Tups K H H2 := fun x y h => b x y (a x y h)
theorem Tups.upd_lst {K : PySem.W.Frag} {H : Hp} {D : Addr} {xs ys : List V} (e : H D = some (.lst xs)) : Tups K H (upd H D (.lst ys)) := by
  intro a zs h
  rcases h with (h | ⟨o, h⟩) | h
  · refine .inl (.inl ?_)
    rw [upd_ne (fun z => by rw [z, e] at h; cases h)]
    exact h
  · refine .inl (.inr ⟨o, ?_⟩)
    rw [upd_ne (fun z => by rw [z, e] at h; cases h)]
    exact h
  · exact .inr h
theorem Tups.of_same {K : PySem.W.Frag} {H H' : Hp} (s : Same H H') : Tups K H H' := by
  intro a zs h
  rcases h with (h | ⟨o, h⟩) | h
  · exact .inl (.inl (s _ _ h))
  · exact .inl (.inr ⟨o, s _ _ h⟩)
  · exact .inr h

theorem Tups.new {K : PySem.W.Frag} {H : Hp} {q : Addr} {o : HO} (n : H q = none) : Tups K H (upd H q o) :=
  .of_same fun b u e => by
    rw [upd_ne (ne_of_none e n)]
    exact e
theorem Ex1.tups {K : PySem.W.Frag} {H H' : Hp} {p : Addr} {xs : List V} (x : Ex1 p H H') (e : H p = some (.lst xs)) : Tups K H H' := by
  intro a zs h
  rcases h with (h | ⟨o, h⟩) | h
  · exact .inl (.inl (x _ _ (fun z => by rw [z, e] at h; cases h) h))
  · exact .inl (.inr ⟨o, x _ _ (fun z => by rw [z, e] at h; cases h) h⟩)
  · exact .inr h
section
variable {K : PySem.W.Frag} {H H' : Hp}
mutual
theorem Dp.tups (t : Tups K H H') : ∀ (d : PyData) {v : V}, tupOnly d = true → Dp K H v d → Dp K H' v d
  | .none, _, _, h => by cases h; exact .non
  | .bool _, _, _, h => by cases h; exact .bl _
  | .int _, _, _, h => by cases h; exact .int _
  | .str _, _, _, h => by cases h; exact .str _
  | .tuple ds, _, o, h => by
    cases h with
    | tup a b =>
      simp only [tupOnly, Bool.and_eq_true] at o
      exact .tup (t _ _ a) (DpAll.tups t ds o.2 b)
  | .list _, _, o, _ => by simp [tupOnly] at o
  | .dict _, _, _, h => by cases h
theorem DpAll.tups (t : Tups K H H') : ∀ (ds : List PyData) {vs : List V}, tupOnlyAll ds = true → DpAll K H vs ds → DpAll K H' vs ds
  | [], _, _, h => by cases h; exact .nil
  | d :: ds, _, o, h => by
    simp only [tupOnlyAll, Bool.and_eq_true] at o
    cases h with
    | cons a b => exact .cons (Dp.tups t d o.1 a) (DpAll.tups t ds o.2 b)
end
mutual
theorem Dp.same (s : Same H H') : ∀ (d : PyData) {v : V}, Dp K H v d → Dp K H' v d
  | .none, _, h => by cases h; exact .non
  | .bool _, _, h => by cases h; exact .bl _
  | .int _, _, h => by cases h; exact .int _
  | .str _, _, h => by cases h; exact .str _
  | .tuple ds, _, h => by
    cases h with
    | tup a b => exact .tup (Tups.of_same s _ _ a) (DpAll.same s ds b)
  | .list ds, _, h => by
    cases h with
    | lst a b => exact .lst (s.seq a) (DpAll.same s ds b)
  | .dict _, _, h => by cases h
theorem DpAll.same (s : Same H H') : ∀ (ds : List PyData) {vs : List V}, DpAll K H vs ds → DpAll K H' vs ds
  | [], _, h => by cases h; exact .nil
  | d :: ds, _, h => by
    cases h with
    | cons a b => exact .cons (Dp.same s d a) (DpAll.same s ds b)
end
theorem DpAll.len : ∀ {vs : List V} {ds : List PyData}, DpAll K H vs ds → vs.length = ds.length
  | _, _, .nil => rfl
  | _, _, .cons _ b => congrArg (· + 1) (DpAll.len b)
theorem DpAll.at_ : ∀ {vs : List V} {ds : List PyData} {i : Nat} {v : V}, DpAll K H vs ds → vs[i]? = some v → ∃ d, ds[i]? = some d ∧ Dp K H v d
  | _, _, _, _, .nil, e => by simp at e
  | _, _, 0, _, .cons a _, e => by
    cases Option.some.inj e
    exact ⟨_, rfl, a⟩
  | _, _, i + 1, _, .cons _ b, e => DpAll.at_ (i := i) b e
theorem DpAll.snoc : ∀ {vs : List V} {ds : List PyData} {v : V} {d : PyData}, DpAll K H vs ds → Dp K H v d → DpAll K H (vs ++ [v]) (ds ++ [d])
  | _, _, _, _, .nil, h => .cons h .nil
  | _, _, _, _, .cons a b, h => .cons a (DpAll.snoc b h)
theorem tupOnlyAll_at : ∀ {ds : List PyData} {i : Nat} {d : PyData}, tupOnlyAll ds = true → ds[i]? = some d → tupOnly d = true
  | [], _, _, _, e => by simp at e
  | x :: r, 0, d, o, e => by
    simp only [tupOnlyAll, Bool.and_eq_true] at o
    cases Option.some.inj e
    exact o.1
  | x :: r, i + 1, d, o, e => by
    simp only [tupOnlyAll, Bool.and_eq_true] at o
    exact tupOnlyAll_at (i := i) o.2 e
theorem tupOnlyAll_take : ∀ {ds : List PyData}, tupOnlyAll ds = true → ∀ i : Nat, tupOnlyAll (ds.take i) = true
  | [], _, i => by rw [List.take_nil] <;> rfl
  | x :: r, o, 0 => rfl
  | x :: r, o, i + 1 => by
    simp only [tupOnlyAll, Bool.and_eq_true] at o
    simp only [List.take_succ_cons, tupOnlyAll, Bool.and_eq_true]
    exact ⟨o.1, tupOnlyAll_take o.2 i⟩
theorem depth_at : ∀ {ds : List PyData} {i : Nat} {d : PyData}, ds[i]? = some d → d.depth ≤ PyData.depthAll ds
  | [], _, _, e => by simp at e
  | x :: r, 0, d, e => by
    cases Option.some.inj e
    simp only [PyData.depthAll]
    omega
  | x :: r, i + 1, d, e => by
    have h := depth_at (ds := r) (i := i) e
    simp only [PyData.depthAll]
    omega
end

/-- the built-in class of data -/
def kindN : PyData → String
  | .none => "NoneType"
  | .bool _ => "bool"
  | .int _ => "int"
  | .str _ => "str"
  | .list _ => "list"
  | .tuple _ => "tuple"
  | .dict _ => "dict"
theorem Dp.kind {K : PySem.W.Frag} {H : Hp} {v : V} {d : PyData} (h : Dp K H v d) (o : tupOnly d = true) : TyX K H v (.type (kindN d)) := by
  cases h with
  | non => exact .base .non
  | bl b => exact .base (.bl b)
  | int i => exact .base (.int i)
  | str x => exact .base (.str x)
  | lst _ _ => simp [tupOnly] at o
  | tup a _ =>
    rcases a with (a | ⟨z, a⟩) | ⟨z, its, n, a, c, _⟩
    · exact .base (.tup a)
    · exact .fTuple a
    · exact .kTuple a c
section
theorem kb0 : kitB "NoneType" "list" = some false ∧ kitB "NoneType" "tuple" = some false ∧ kitB "NoneType" "dict" = some false := by decide +kernel
theorem kb1 : kitB "bool" "list" = some false ∧ kitB "bool" "tuple" = some false ∧ kitB "bool" "dict" = some false := by decide +kernel
theorem kb2 : kitB "int" "list" = some false ∧ kitB "int" "tuple" = some false ∧ kitB "int" "dict" = some false := by decide +kernel
theorem kb3 : kitB "str" "list" = some false ∧ kitB "str" "tuple" = some false ∧ kitB "str" "dict" = some false := by decide +kernel
theorem kb4 : kitB "tuple" "list" = some false ∧ kitB "tuple" "tuple" = some true ∧ kitB "tuple" "dict" = some false := by decide +kernel
theorem kind_list {d : PyData} (o : tupOnly d = true) : kitB (kindN d) "list" = some false := by
  cases d with
  | none => exact kb0.1
  | bool b => exact kb1.1
  | int i => exact kb2.1
  | str x => exact kb3.1
  | tuple ds => exact kb4.1
  | list ds => simp [tupOnly] at o
  | dict ds => simp [tupOnly] at o
theorem kind_dict {d : PyData} (o : tupOnly d = true) : kitB (kindN d) "dict" = some false := by
  cases d with
  | none => exact kb0.2.2
  | bool b => exact kb1.2.2
  | int i => exact kb2.2.2
  | str x => exact kb3.2.2
  | tuple ds => exact kb4.2.2
  | list ds => simp [tupOnly] at o
  | dict ds => simp [tupOnly] at o
theorem kind_tuple {d : PyData} (o : tupOnly d = true) (n : ¬ ∃ ds, d = .tuple ds) : kitB (kindN d) "tuple" = some false := by
  cases d with
  | none => exact kb0.2.1
  | bool b => exact kb1.2.1
  | int i => exact kb2.2.1
  | str x => exact kb3.2.1
  | tuple ds => exact absurd ⟨ds, rfl⟩ n
  | list ds => simp [tupOnly] at o
  | dict ds => simp [tupOnly] at o
end
end Gd
end

section
set_option Elab.async false
set_option linter.all false
set_option maxRecDepth 100000
set_option maxHeartbeats 4000000
/-! repr of data, the reading of a promise that is free of texts under way. -/
namespace Gd
open PySem PySem.Spec PyProof.Rows L2

section
variable {K : PySem.W.Frag} {H : Hp}
mutual
theorem Dp.plain : ∀ (d : PyData) {v : V}, Dp K H v d → d.hasDict = false
  | .none, _, _ => by simp only [PyData.hasDict]
  | .bool _, _, _ => by simp only [PyData.hasDict]
  | .int _, _, _ => by simp only [PyData.hasDict]
  | .str _, _, _ => by simp only [PyData.hasDict]
  | .list ds, _, h => by
    cases h with
    | lst _ k =>
      simp only [PyData.hasDict]
      exact DpAll.plain ds k
  | .tuple ds, _, h => by
    cases h with
    | tup _ k =>
      simp only [PyData.hasDict]
      exact DpAll.plain ds k
  | .dict _, _, h => by cases h
theorem DpAll.plain : ∀ (ds : List PyData) {vs : List V}, DpAll K H vs ds → PyData.hasDictAll ds = false
  | [], _, _ => by simp only [PyData.hasDictAll]
  | d :: ds, _, h => by
    cases h with
    | cons a b =>
      simp only [PyData.hasDictAll, Dp.plain d a, DpAll.plain ds b, Bool.or_self]
end
end

/-- repr(x), x data -/
def rRepr (K : PySem.W.Frag) : List V → Hp → VK → Prop := fun xs H Q =>
  ∃ (x : V) (d : PyData), xs = [x] ∧ Dp K H x d ∧ d.showable = true ∧ d.shown.length ≤ sizeLine ∧ d.depth ≤ 60 ∧ Q (.str d.shown) H

section
variable {X : Cx}
theorem call_repr (g : Free X.A) (hu : X.A.units + 64 < cLine) : CallR X (.builtin "repr") (rRepr X.K) := by
  intro pins s σ H xs us Q I r h
  obtain ⟨x, d, rfl, hd, hs, hz, hdp, q⟩ := h
  obtain ⟨u, rfl, ru⟩ := r.one
  have pl := Dp.plain d hd
  obtain ⟨as, rd⟩ := Dp.reads I d x u hd ru
  have fin : ∀ (h' : Heap) (tk tk' : Nat), (∀ b o, s.heap.get? b = some o → h'.get? b = some o) →
      EP X pins σ Q (.str d.shown tk) { s with heap := h', toks := tk' } :=
    fun h' tk tk' k => ⟨.str d.shown, H, I.kept k, ⟨tk, rfl⟩, q⟩
  have fin0 : ∀ (tk tk' : Nat), EP X pins σ Q (.str d.shown tk) { s with toks := tk' } :=
    fun tk tk' => ⟨.str d.shown, H, I.tok tk', ⟨tk, rfl⟩, q⟩
  cases rd with
  | none => exact P.repr_of_none (fin0 _ _)
  | bool b => exact P.repr_of_bool (fin0 _ _)
  | int i t => exact P.repr_of_int (by simpa [PyData.showable] using hs) (fin0 _ _)
  | str z t => exact P.repr_of_str (fin0 _ _) hz
  | list h1 h2 h3 h4 =>
    exact repr_of_reads' (.list h1 h2 h3 h4) hs (PyData.noDict_hsm pl) g (by omega) (fun _ _ e => e) (fun h' u tk k => fin h' u tk k) hz
  | tuple h1 h2 h3 h4 =>
    exact repr_of_reads' (.tuple h1 h2 h3 h4) hs (PyData.noDict_hsm pl) g (by omega) (fun _ _ e => e) (fun h' u tk k => fin h' u tk k) hz
  | dict h1 h2 h3 h4 h5 => simp [PyData.hasDict] at pl
end
end Gd
end

section
set_option Elab.async false
set_option linter.all false
set_option maxRecDepth 100000
set_option maxHeartbeats 4000000
/-! Lists of ints and slabs in the heap; what they show. -/
namespace Gd
open PySem PySem.Spec PyProof.Rows L2
theorem int_shown {i : Int} (h : i.natAbs ≤ 10 ^ 40) : (PyData.int i).shown.length ≤ 100 ∧ i.natAbs.log2 < 1920 ∧ (PyData.int i).weight ≤ 200 := by
  have h1 : i.natAbs < 10 ^ 41 := Nat.lt_of_le_of_lt h (by decide)
  have hl : i.natAbs.log2 < 190 := by
    by_cases z : i.natAbs = 0
    · rw [z]; decide
    · exact (Nat.log2_lt z).mpr (Nat.lt_of_lt_of_le h1 (by decide +kernel))
  refine ⟨?_, by omega, ?_⟩
  · have e := int_text_length_le10 (k := 41) (by decide) h1
    have e2 : (PyData.int i).shown.length = (toString i).length := by
      show (Str.ofString (toString i)).length = _
      rw [PySem.ofString_length]
    omega
  · simp only [PyData.weight]
    split <;> omega
theorem ints_leaves : ∀ {ns : List Int}, (∀ i ∈ ns, i.natAbs ≤ 10 ^ 40) → PyData.leavesShortAll 100 (ns.map .int) = true ∧ PyData.showableAll (ns.map .int) = true ∧ PyData.weightAll (ns.map .int) ≤ 201 * ns.length ∧ PyData.depthAll (ns.map .int) = 0
  | [], _ => ⟨rfl, rfl, Nat.zero_le _, rfl⟩
  | i :: ns, h => by
    obtain ⟨a, b, c, d⟩ := ints_leaves (ns := ns) fun j hj => h j (by simp [hj])
    obtain ⟨e1, e2, e3⟩ := int_shown (h i (by simp))
    refine ⟨?_, ?_, ?_, ?_⟩
    · simp only [List.map_cons, PyData.leavesShortAll, a, Bool.and_true, PyData.leavesShort, decide_eq_true_eq]
      exact e1
    · simp only [List.map_cons, PyData.showableAll, b, Bool.and_true, PyData.showable, decide_eq_true_eq]
      exact e2
    · simp only [List.map_cons, PyData.weightAll, List.length_cons]
      omega
    · simp only [List.map_cons, PyData.depthAll, d, PyData.depth]
      omega
/-- repr of a list of ints is served -/
theorem ints_shown {ns : List Int} (h : ∀ i ∈ ns, i.natAbs ≤ 10 ^ 40) (hl : ns.length ≤ 700) :
    (PyData.list (ns.map .int)).showable = true ∧ (PyData.list (ns.map .int)).shown.length ≤ sizeLine ∧ (PyData.list (ns.map .int)).depth ≤ 60 := by
  obtain ⟨a, b, c, d⟩ := ints_leaves h
  have hs := PyData.shown_le 100 (by decide) (.list (ns.map .int)) (by simpa only [PyData.leavesShort] using a)
  have hw : (PyData.list (ns.map .int)).weight ≤ 201 * ns.length + 1 := by
    simp only [PyData.weight]
    omega
  have z : sizeLine = 16777216 := rfl
  refine ⟨by simpa only [PyData.showable] using b, by omega, ?_⟩
  simp only [PyData.depth, d]
  omega
theorem one_shown {i : Int} (h : i.natAbs ≤ 10 ^ 40) : (PyData.int i).showable = true ∧ (PyData.int i).shown.length ≤ sizeLine ∧ (PyData.int i).depth ≤ 60 := by
  obtain ⟨e1, e2, e3⟩ := int_shown h
  have z : sizeLine = 16777216 := rfl
  refine ⟨by simpa [PyData.showable] using e2, by omega, by simp only [PyData.depth]; omega⟩
theorem ints_dp {K : PySem.W.Frag} {H : Hp} : ∀ ns : List Int, DpAll K H (ns.map V.int) (ns.map .int)
  | [] => .nil
  | i :: ns => .cons (.int i) (ints_dp ns)
theorem list_dp {K : PySem.W.Frag} {H : Hp} {a : Addr} {ns : List Int} (h : SqL K H a (ns.map V.int)) : Dp K H (.ref a) (.list (ns.map .int)) := .lst h (ints_dp ns)

/-! what stays -/
theorem new_same {H : Hp} {q : Addr} {o : HO} (n : H q = none) : Same H (upd H q o) := fun b u e => by
  rw [upd_ne (ne_of_none e n)]
  exact e
/-- a new object may change -/
theorem own_same {H H' : Hp} {q : Addr} {o : HO} (n : H q = none) (s : Same H H') : Same H (upd H' q o) := fun b u e => by
  rw [upd_ne (ne_of_none e n)]
  exact s b u e
theorem same_tup {K : PySem.W.Frag} {H H' : Hp} (s : Same H H') {a : Addr} {xs : List V} (h : SqT K H a xs) : SqT K H' a xs := by
  rcases h with (h | ⟨o, h⟩) | h
  · exact .inl (.inl (s _ _ h))
  · exact .inl (.inr ⟨o, s _ _ h⟩)
  · exact .inr h
/-- slabs at a: a list of pairs -/
def SlabsAt (K : PySem.W.Frag) (H : Hp) (a : Addr) (ss : List (Nat × Int)) : Prop :=
  ∃ bs : List Addr, SqL K H a (bs.map V.ref) ∧ bs.length = ss.length ∧ ∀ (i : Nat) (b : Addr) (s : Nat × Int), bs[i]? = some b → ss[i]? = some s → SqT K H b [.int (s.1 : Nat), .int s.2]
theorem SlabsAt.same {K : PySem.W.Frag} {H H' : Hp} {a : Addr} {ss : List (Nat × Int)} (h : SlabsAt K H a ss) (s : Same H H') : SlabsAt K H' a ss := by
  obtain ⟨bs, h1, h2, h3⟩ := h
  exact ⟨bs, s.seq h1, h2, fun i b t e1 e2 => same_tup s (h3 i b t e1 e2)⟩
theorem map_at {α : Type} {f : α → V} {xs : List α} {i : Nat} {v : V} (h : (xs.map f)[i]? = some v) : ∃ x, xs[i]? = some x ∧ v = f x := by
  rw [List.getElem?_map] at h
  cases e : xs[i]? with
  | none => rw [e] at h; cases h
  | some x => rw [e] at h; exact ⟨x, rfl, (Option.some.inj h).symm⟩
theorem at_of {α : Type} {xs : List α} {i n : Nat} (hl : xs.length = n) (h : i < n) : ∃ x, xs[i]? = some x := ⟨xs[i]'(by omega), List.getElem?_eq_getElem (by omega)⟩
theorem at_lt {α : Type} {xs : List α} {i : Nat} {x : α} (h : xs[i]? = some x) : i < xs.length := (List.getElem?_eq_some_iff.mp h).1
theorem getD_at {l : List Int} {i : Nat} (h : i < l.length) : l[i]? = some (l.getD i 0) := by
  rw [List.getD_eq_getElem?_getD, List.getElem?_eq_getElem h] <;> rfl
theorem ints_at {l : List Int} {i : Nat} (h : i < l.length) : (l.map V.int)[i]? = some (.int (l.getD i 0)) := by
  rw [List.getElem?_map, getD_at h] <;> rfl
theorem ints_atI {l : List Int} {i : Nat} (h : i < l.length) : atI (l.map V.int) ((i : Nat) : Int) = some (.int (l.getD i 0)) := atI_nat (ints_at h)
theorem take_at {α : Type} {xs : List α} {i : Nat} {x : α} (h : xs[i]? = some x) : xs.take (i + 1) = xs.take i ++ [x] := by
  rw [List.take_add_one, h] <;> rfl
theorem map_set {l : List Int} {i : Nat} {v : Int} : (l.map V.int).set i (.int v) = (l.set i v).map V.int := by
  rw [List.map_set]
section
variable {X : Cx}
/-- l[j], j from nought on, in l[j] op= x -/
def rGetL (K : PySem.W.Frag) : V → V → Hp → VK → Prop := fun o i H Q => ∃ (p : Addr) (xs : List V) (j : Nat) (v : V), o = .ref p ∧ i = .int (j : Nat) ∧ SqL K H p xs ∧ xs[j]? = some v ∧ Q v H
theorem get_list : PGet X (rGetL X.K) := by
  intro pins s σ H o i ov iv Q I r1 r2 h
  obtain ⟨p, xs, j, v, rfl, rfl, hq, he, q⟩ := h
  cases r1
  obtain ⟨t, rfl⟩ := r2
  obtain ⟨its, r, pl, hz⟩ := I.list hq
  obtain ⟨u, eu, ru⟩ := r.get he
  have hl := r.length
  have lt := at_lt he
  have zz : sizeLine = 16777216 := rfl
  have hi := at_lt eu
  refine wpAny_getItem_list pl.isList (by omega) (by omega) ?_ ⟨v, H, I, ru, q⟩
  simpa using eu
end
theorem ixN_nat {n j : Nat} (h : j < n) : ixN n (j : Int) = some j := by
  unfold ixN
  rw [if_pos (by omega), if_pos (by omega)] <;> simp
end Gd
end

section
set_option Elab.async false
set_option linter.all false
set_option maxRecDepth 100000
set_option maxHeartbeats 4000000
namespace Gd
open PySem PySem.Spec PyProof.Rows L2
section
variable {X : Cx}
/-- a list beside [] -/
def rL0 (K : PySem.W.Frag) (neg : Bool) : R2 := fun x y H Q => ∃ a b xs, x = .ref a ∧ y = .ref b ∧ SqL K H a xs ∧ SqL K H b [] ∧ Q (.bl (if neg then !xs.isEmpty else xs.isEmpty)) H
theorem op_eqL0 (hu : X.A.units < cLine) : OpR X (compareOp .Eq) (rL0 X.K false) := by
  intro pins s σ H x y v u Q I rx ry h
  obtain ⟨a, b, xs, rfl, rfl, ha, hb, q⟩ := h
  cases rx
  cases ry
  obtain ⟨its, r, pl, _⟩ := I.list ha
  obtain ⟨its2, r2, pl2, _⟩ := I.list hb
  cases r2
  cases r with
  | nil => exact SeqAt.RcAt.lists (e := fun _ => true) pl.isList pl2.isList rfl hu (fun j h1 _ => absurd h1 (by simp)) _ _ _ _ ⟨.bl _, H, I, rfl, q⟩
  | cons _ _ => exact SeqAt.RcAt.lists_lengths pl.isList pl2.isList (by simp) hu _ _ _ _ ⟨.bl _, H, I, rfl, q⟩
theorem op_neL0 (hu : X.A.units < cLine) : OpR X (compareOp .NotEq) (rL0 X.K true) := by
  intro pins s σ H x y v u Q I rx ry h
  obtain ⟨a, b, xs, rfl, rfl, ha, hb, q⟩ := h
  cases rx
  cases ry
  obtain ⟨its, r, pl, _⟩ := I.list ha
  obtain ⟨its2, r2, pl2, _⟩ := I.list hb
  cases r2
  cases r with
  | nil => exact SeqAt.RcNeAt.lists (e := fun _ => true) pl.isList pl2.isList rfl hu (fun j h1 _ => absurd h1 (by simp)) _ _ _ _ ⟨.bl _, H, I, rfl, q⟩
  | cons _ _ => exact SeqAt.RcNeAt.lists_lengths pl.isList pl2.isList (by simp) hu _ _ _ _ ⟨.bl _, H, I, rfl, q⟩
end
/-! what stays through draws -/
theorem ex1_of_same {p : Addr} {H H' : Hp} (s : Same H H') : Ex1 p H H' := fun b u _ e => s b u e
theorem ex1_own {p q : Addr} {H H' : Hp} {o : HO} (n : H q = none) (x : Ex1 p H H') : Ex1 p H (upd H' q o) := fun b u nb e => by
  rw [upd_ne (ne_of_none e n)]
  exact x b u nb e
theorem Feed.off {H : Hp} {p q : Addr} {S : Int} {o : HO} (F : Feed H p S) (n : q ≠ p) : Feed (upd H q o) p S := by
  obtain ⟨g, x, s, e, a, b⟩ := F
  exact ⟨g, x, s, by rw [upd_ne n.symm]; exact e, a, b⟩
theorem Feed.kept {H H' : Hp} {p : Addr} {S : Int} (F : Feed H p S) (s : Same H H') : Feed H' p S := by
  obtain ⟨g, x, z, ep, a, b⟩ := F
  exact ⟨g, x, z, s _ _ ep, a, b⟩
theorem Feed.not {H : Hp} {p q : Addr} {S : Int} (F : Feed H p S) (n : H q = none) : q ≠ p := F.ne n
theorem ex1_tup {K : PySem.W.Frag} {H H' : Hp} {p a : Addr} {S : Int} {xs : List V} (F : Feed H p S) (x : Ex1 p H H') (h : SqT K H a xs) : SqT K H' a xs := by
  obtain ⟨ys, ep⟩ := F.lst
  rcases h with (h | ⟨o, h⟩) | h
  · exact .inl (.inl (x _ _ (fun z => by rw [z, ep] at h; cases h) h))
  · exact .inl (.inr ⟨o, x _ _ (fun z => by rw [z, ep] at h; cases h) h⟩)
  · exact .inr h
theorem ex1_seq {K : PySem.W.Frag} {H H' : Hp} {p a : Addr} {xs : List V} (n : a ≠ p) (x : Ex1 p H H') (h : SqL K H a xs) : SqL K H' a xs := by
  rcases h with (h | ⟨o, h⟩) | h
  · exact .inl (.inl (x _ _ n h))
  · exact .inl (.inr ⟨o, x _ _ n h⟩)
  · exact .inr h
theorem SlabsAt.drawn {K : PySem.W.Frag} {H H' : Hp} {p a : Addr} {S : Int} {ss : List (Nat × Int)} (h : SlabsAt K H a ss) (F : Feed H p S) (n : a ≠ p) (x : Ex1 p H H') : SlabsAt K H' a ss := by
  obtain ⟨bs, h1, h2, h3⟩ := h
  exact ⟨bs, ex1_seq n x h1, h2, fun i b t e1 e2 => ex1_tup F x (h3 i b t e1 e2)⟩
/-- a new object is not p, and was not there before the draws -/
theorem ex1_free {p q : Addr} {H H' : Hp} (x : Ex1 p H H') (n : q ≠ p) (h : H' q = none) : H q = none := by
  cases e : H q with
  | none => rfl
  | some o => rw [x q o n e] at h; cases h
theorem at_list {α : Type} {f : α → V} {xs : List α} {r : Int} (h0 : 0 ≤ r) (h1 : r < xs.length) : ∃ x, x ∈ xs ∧ atI (xs.map f) r = some (f x) := by
  have h2 : r.toNat < xs.length := by omega
  refine ⟨xs[r.toNat], List.getElem_mem h2, ?_⟩
  have e : ((r.toNat : Nat) : Int) = r := by omega
  have z : atI (xs.map f) ((r.toNat : Nat) : Int) = some (f xs[r.toNat]) := atI_nat (by rw [List.getElem?_map, List.getElem?_eq_getElem h2] <;> rfl)
  rw [e] at z
  exact z
end Gd
end

section
set_option Elab.async false
set_option linter.all false
set_option maxRecDepth 100000
set_option maxHeartbeats 4000000
/-! zip(t, l): a tuple beside a list. -/
namespace Gd
open PySem PySem.Spec PyProof.Rows L2

/-- the tuple at a, the list at b, as they stand at each turn -/
def ItTL (K : PySem.W.Frag) (a b : Addr) : It where
  go i H := ∃ (xs ys : List V) (x y : V), SqT K H a xs ∧ SqL K H b ys ∧ xs[i]? = some x ∧ ys[i]? = some y
  yld i H v H' := ∃ T x y, v = .ref T ∧ H T = none ∧ H' = upd H T (.tup [x, y]) ∧ (∀ xs, SqT K H a xs → xs[i]? = some x) ∧ ∀ ys, SqL K H b ys → ys[i]? = some y
  stop i H := ∃ xs ys : List V, SqT K H a xs ∧ SqL K H b ys ∧ ys.length = i ∧ xs.length = i

theorem apN {a b : Nat} (h : ¬ a = b) : (a : Addr) ≠ (b : Addr) := h
theorem apL {x a b : Nat} (h1 : ¬ x = a) (h2 : ¬ x = b) : (x : Addr) ∉ ([a, b] : List Addr) := by
  intro h
  rcases List.mem_cons.mp h with h | h
  · exact h1 h
  · rcases List.mem_cons.mp h with h | h
    · exact h2 h
    · cases h
/-- the five cells of such a zip, the first at n -/
def five (n : Nat) : List Addr := [n + 4, n + 2, n + 3, n, n + 1]
theorem mem5 {n c : Nat} (h : c ∈ five n) : n ≤ c ∧ c < n + 5 := by
  simp only [five, List.mem_cons, List.not_mem_nil, or_false] at h
  omega
theorem in5 {n c : Nat} (h : n ≤ c) (h' : c < n + 5) : c ∈ five n := by
  simp only [five, List.mem_cons, List.not_mem_nil, or_false]
  omega
theorem sep5 {n a b : Nat} (ha : a < n) (hb : b < n) : ZipSep2 (n + 4) (n + 2) (n + 3) n (n + 1) [n, a] [n + 1, b] := by
  constructor
  · exact apN (by omega)
  · exact apN (by omega)
  · exact apN (by omega)
  · exact apN (by omega)
  · simp
  · exact apL (by omega) (by omega)
  · exact apL (by omega) (by omega)
  · exact apN (by omega)
  · simp
  · exact apL (by omega) (by omega)
  · exact apL (by omega) (by omega)
  · exact apL (by omega) (by omega)
  · exact apL (by omega) (by omega)
def St5 (n a b : Nat) (i : Nat) (h : Heap) : Prop :=
  IsZip h (n + 4) (n + 2) (n + 3) .none ∧ IsTupOf2 h (n + 2) (.ref n) (.ref (n + 1)) ∧ (∃ x y, IsTupOf2 h (n + 3) x y) ∧
    h.IsTupleIter n a i ∧ h.IsListIter (n + 1) b i ∧ a < n ∧ b < n ∧ n + 5 ≤ h.objs.size
theorem st5_obj {n a b i : Nat} {h : Heap} (st : St5 n a b i h) {c : Addr} (hc : c ∈ five n) : ∃ o, h.get? c = some o ∧ ∀ v, o.data ≠ .cell v := by
  obtain ⟨hz, hi, ⟨x, y, ho⟩, ⟨o1, e1, _, d1⟩, ⟨o2, e2, _, d2⟩, _⟩ := st
  simp only [five, List.mem_cons, List.not_mem_nil, or_false] at hc
  rcases hc with rfl | rfl | rfl | rfl | rfl
  · exact ⟨_, hz, fun v z => nomatch z⟩
  · exact ⟨_, hi, fun v z => nomatch z⟩
  · exact ⟨_, ho, fun v z => nomatch z⟩
  · exact ⟨o1, e1, fun v z => by rw [d1] at z; cases z⟩
  · exact ⟨o2, e2, fun v z => by rw [d2] at z; cases z⟩
theorem st5_keep {n a b i : Nat} {h h' : Heap} (st : St5 n a b i h) (hs : n + 5 ≤ h'.objs.size) (k : ∀ c ∈ five n, ∀ o, h.get? c = some o → h'.get? c = some o) : St5 n a b i h' := by
  obtain ⟨hz, hi, ⟨x, y, ho⟩, h1, h2, la, lb, _⟩ := st
  have m : ∀ j, j < 5 → n + j ∈ five n := fun j hj => in5 (by omega) (by omega)
  exact ⟨k _ (m 4 (by omega)) _ hz, k _ (m 2 (by omega)) _ hi, ⟨x, y, k _ (m 3 (by omega)) _ ho⟩, h1.at fun o e => k n (m 0 (by omega)) o e, h2.at fun o e => k _ (m 1 (by omega)) o e, la, lb, hs⟩
theorem size_of_get {h : Heap} {n : Nat} {o : Obj} (e : h.get? (n + 4) = some o) : n + 5 ≤ h.objs.size := Heap.lt_size e

theorem turn_TL {P : Program} {w : World} {K : PySem.W.Frag} {elts : List Expr} {kk : Nat} {tpos : Pos} {a b n : Addr} :
    Turn P w K (.Tuple elts kk tpos) (ItTL K a b) (five n) (n + 4) (St5 n a b) where
  mem := in5 (by omega) (by omega)
  obj := fun i h st c hc => st5_obj st hc
  keep := fun i h h' st k => by
    obtain ⟨o, e⟩ : ∃ o, h.get? (n + 4) = some o := ⟨_, st.1⟩
    exact st5_keep st (size_of_get (k _ (in5 (by omega) (by omega)) _ e)) k
  item := by
    intro X hP hw hK hc i pins s σ H E I hf st hg
    subst hP hw hK
    have st0 := st
    obtain ⟨hz, hi, ⟨x0, y0, ho⟩, h1, h2, la, lb, _⟩ := st
    obtain ⟨xs, ys, x, y, qx, qy, hx, hy⟩ := hg
    obtain ⟨as, rv, p, _⟩ := I.tuple qx
    obtain ⟨bs, rv2, p2, _⟩ := I.list qy
    obtain ⟨u, hu, ru⟩ := rv.get hx
    obtain ⟨u2, hu2, ru2⟩ := rv2.get hy
    have hh := I.ok.hd hc
    have hh1 : X.A.in1.handled = none := hh
    have hia : i < as.toArray.size := by
      rw [List.size_toArray]
      exact (List.getElem?_eq_some_iff.mp hu).1
    have hib : i < bs.toArray.size := by
      rw [List.size_toArray]
      exact (List.getElem?_eq_some_iff.mp hu2).1
    refine wpAny_pyNext_zipD2_item (sep5 la lb) (.tuple hh1 n a (Nat.ne_of_lt la) as.toArray) (.list hh1 (n + 1) b (apN (by omega)) bs.toArray) hz hi ho ⟨h1, p⟩ ⟨h2, p2.isList⟩ hia hib ?_
    intro x1 x2 h' tk e1 e2 z' o' g1 g2 hT hsz hk
    have eu : x1 = u := by
      have : as.toArray[i]? = some u := by simpa using hu
      exact Option.some.inj (e1.symm.trans this)
    have eu2 : x2 = u2 := by
      have : bs.toArray[i]? = some u2 := by simpa using hu2
      exact Option.some.inj (e2.symm.trans this)
    subst eu eu2
    have old : ∀ {c o}, s.heap.get? c = some o → c ≠ s.heap.objs.size := fun e => Nat.ne_of_lt (Heap.lt_size e)
    refine ⟨_, rfl, wpAny_letOwnedTupleGo_zip z' fun h3 z3 sb => ?_⟩
    have stay : ∀ c o, c ∉ five n → s.heap.get? c = some o → h3.get? c = some o := fun c o nc e =>
      (sb.2 c (fun q => nc (q ▸ in5 (by omega) (by omega)))).trans (hk c o (fun q => nc (q ▸ in5 (by omega) (by omega))) (fun q => nc (q ▸ in5 (by omega) (by omega)))
        (fun q => nc (q ▸ in5 (by omega) (by omega))) (fun q => nc (q ▸ in5 (by omega) (by omega))) e)
    have t3 : h3.get? s.heap.objs.size = some { cls := .type "tuple", data := .seq #[x1, x2] } := (sb.2 _ (old hz).symm).trans hT
    have fine : ObjOk X.prog X.w (upd H s.heap.objs.size (.tup [x, y])) h3 s.heap.objs.size (.tup [x, y]) :=
      ⟨by show 2 ≤ sizeLine; decide, [x1, x2], .cons ru (.cons ru2 .nil), ⟨_, t3, rfl, _, rfl⟩⟩
    have I3 := I.turnedNew (t' := tk) (ch := five n) stay hf (Nat.le_refl _) fine
    have sz : h3.objs.size = h'.objs.size := sb.1
    have sz2 : n + 5 ≤ s.heap.objs.size := size_of_get hz
    refine ⟨.ref s.heap.objs.size, _, I3, rfl, ⟨_, x, y, rfl, I.hok.fresh (Nat.le_refl _), rfl, fun l hl => ?_, fun l hl => ?_⟩, ⟨z3, ?_, ⟨x1, x2, ?_⟩, ?_, ?_, la, lb, ?_⟩, fun c hcm => ?_⟩
    · rw [I.tuple_inj hl qx]; exact hx
    · rw [I.list_inj hl qy]; exact hy
    · exact (sb.2 _ (apN (by omega))).trans (hk _ _ (apN (by omega)) (apN (by omega)) (apN (by omega)) (apN (by omega)) hi)
    · exact (sb.2 _ (apN (by omega))).trans o'
    · exact g1.1.at fun o q => (sb.2 _ (apN (by omega))).trans q
    · exact g2.1.at fun o q => (sb.2 _ (apN (by omega))).trans q
    · rw [sz, hsz]
      omega
    · have := (mem5 hcm).2
      rw [upd_ne (apN (by omega))]
      exact (hf c hcm).1
  done := by
    intro X hP hw hK hc i pins s σ H E I hf st hg
    subst hP hw hK
    obtain ⟨hz, hi, ⟨x0, y0, ho⟩, h1, h2, la, lb, _⟩ := st
    obtain ⟨xs, ys, qx, qy, ey, ex⟩ := hg
    obtain ⟨as, rv, p, _⟩ := I.tuple qx
    obtain ⟨bs, rv2, p2, _⟩ := I.list qy
    have l1 := rv.length
    have l2 := rv2.length
    have hh := I.ok.hd hc
    have hh1 : X.A.in1.handled = none := hh
    have sa : as.toArray.size = i := by rw [List.size_toArray]; omega
    have sb : bs.toArray.size = i := by rw [List.size_toArray]; omega
    refine wpAny_pyNext_zipD2_end (sep5 la lb) (.tuple hh1 n a (Nat.ne_of_lt la) as.toArray) (.list hh1 (n + 1) b (apN (by omega)) bs.toArray) hz hi ho ⟨h1, p⟩ ⟨h2, p2.isList⟩ (by omega) (by omega) (by omega) ?_
    intro h' tk hk
    refine ⟨rfl, I.turnedL (t' := tk) (ch := five n) (fun c o nc e => ?_) hf⟩
    exact hk c o (fun q => nc (q ▸ in5 (by omega) (by omega))) (fun q => nc (q ▸ in5 (by omega) (by omega))) (fun q => nc (q ▸ in5 (by omega) (by omega))) (fun q => nc (q ▸ in5 (by omega) (by omega))) e
  self := fun A i s Q E st h => wpAny_pyIter_zip st.1 h

def iTL (K : PySem.W.Frag) (ta : TA) : TI := fun σ H R => ta σ H fun vs H1 => ∃ a b xs ys, vs = [.ref a, .ref b] ∧ SqT K H1 a xs ∧ SqL K H1 b ys ∧ xs.length = ys.length ∧ R (ItTL K a b) H1
theorem pi_TL {X : Cx} {e e2 : Expr} {ta : TA} {p pos tpos : Pos} {elts : List Expr} {kk : Nat} (hg : Gl X "zip") (hm : X.mg "zip" = none) (ha : PA X [e, e2] ta)
    (hs : starEach [e, e2] X.env = (false, eval e X.env) :: starEach [e2] X.env := by rfl) (hpl : (backTo pos (starEach [e2] X.env)).any (·.1) = false := by rfl) :
    PI X (.Tuple elts kk tpos) (.Call (.Name "zip" p) [e, e2] [] pos) (iTL X.K ta) := by
  refine ⟨fun pins s σ H R I h => Call_ (ld_blt I hg hm PyProof.Rows.boot_zip (PyProof.Rows.callWith_type1 (thn (ha.run pos pins s σ H _ I h) ?_) hs hpl))⟩
  rintro us s1 ⟨vs, H1, J, r, a, b, xs, ys, rfl, qx, qy, hl, q⟩
  obtain ⟨u1, u2, rfl, r1, r2⟩ := vals2 r
  cases r1
  cases r2
  obtain ⟨as, rv, p1, _⟩ := J.tuple qx
  obtain ⟨bs, rv2, p2, _⟩ := J.list qy
  have la : a < s1.heap.objs.size := by
    obtain ⟨o, e, _⟩ := id p1
    exact Heap.lt_size e
  refine zip_begins2 (begins_tuple a as.toArray) (begins_list b bs.toArray) p1 p2.isList ?_
  intro h' hz hi ho g1 g2 hsz hk
  refine wpAny_pyIter_zip hz ?_
  refine ⟨s1.heap.objs.size + 4, five s1.heap.objs.size, _, _, H1, rfl, J.kept (t' := s1.toks) hk, turn_TL (a := a) (b := b), ?_, fun c hc => ?_, q⟩
  · exact ⟨hz, hi, ⟨_, _, ho⟩, ⟨_, g1, rfl, rfl⟩, ⟨_, g2, rfl, rfl⟩, la, p2.lt, by rw [hsz]; exact Nat.le_refl _⟩
  · have hle := (mem5 hc).1
    exact (J.kept (t' := s1.toks) (fun _ _ z => z)).fpOk hle (J.hok.fresh hle)
end Gd
end

section
set_option Elab.async false
set_option linter.all false
/-! Boxes: slabs of sources, by numbers alone. -/
namespace Bx
abbrev Slab := Nat × Int
def adv (d : List Int) (s : Slab) : List Int := d.set s.1 (d.getD s.1 0 + s.2)
def red (r : List Int) (s : Slab) : List Int := r.set s.1 (r.getD s.1 0 - s.2)
def lft (r : List Int) : List Slab → List Int
  | [] => r
  | s :: ss => lft (red r s) ss
def Leg : List Int → List Slab → Prop
  | _, [] => True
  | r, s :: ss => (0 : Int) ∉ r ∧ s.1 < r.length ∧ 1 ≤ s.2 ∧ s.2 ≤ r.getD s.1 0 ∧ Leg (red r s) ss
/-- all sources stand behind what is done -/
def ge (c d : List Int) : Bool := (c.zip d).all fun p => decide (p.2 ≤ p.1)
def hit (d : List Int) (s : Slab) (c : List Int) : Bool := ge c d && decide (c.getD s.1 0 < d.getD s.1 0 + s.2)
def hits : List Int → List Slab → List Int → Nat → List Nat
  | _, [], _, _ => []
  | d, s :: ss, c, k => if hit d s c then k :: hits (adv d s) ss c (k + 1) else hits (adv d s) ss c (k + 1)
def slabOf (d : List Int) (ss : List Slab) (c : List Int) (k : Nat) : Option Nat := (hits d ss c k).head?
def prod (l : List Int) : Int := l.foldl (· * ·) 1
def cnt (r : List Int) (s : Slab) : Int := s.2 * prod (r.set s.1 1)
def mets : List Int → List Slab → List Int
  | _, [] => []
  | r, s :: ss => cnt r s :: mets (red r s) ss
def dones : List Int → List Slab → List (List Int)
  | _, [] => []
  | d, s :: ss => d :: dones (adv d s) ss

theorem adv_len {d : List Int} {s : Slab} : (adv d s).length = d.length := by simp [adv]
theorem red_len {d : List Int} {s : Slab} : (red d s).length = d.length := by simp [red]
theorem lft_len : ∀ {ss : List Slab} {r : List Int}, (lft r ss).length = r.length
  | [], _ => rfl
  | s :: ss, r => by rw [lft, lft_len, red_len]
theorem getD_set {l : List Int} {i j : Nat} {v : Int} (h : i < l.length) : (l.set i v).getD j 0 = if i = j then v else l.getD j 0 := by
  simp only [List.getD_eq_getElem?_getD, List.getElem?_set]
  by_cases e : i = j
  · subst e
    simp [h]
  · simp [e]
theorem adv_at {d : List Int} {s : Slab} {j : Nat} (h : s.1 < d.length) : (adv d s).getD j 0 = if s.1 = j then d.getD s.1 0 + s.2 else d.getD j 0 := getD_set h
theorem red_at {d : List Int} {s : Slab} {j : Nat} (h : s.1 < d.length) : (red d s).getD j 0 = if s.1 = j then d.getD s.1 0 - s.2 else d.getD j 0 := getD_set h
theorem ge_iff : ∀ {c d : List Int}, c.length = d.length → (ge c d = true ↔ ∀ i, i < d.length → d.getD i 0 ≤ c.getD i 0)
  | [], [], _ => by simp [ge]
  | x :: c, y :: d, h => by
    have ih := ge_iff (c := c) (d := d) (by simpa using h)
    have e : ge (x :: c) (y :: d) = (decide (y ≤ x) && ge c d) := rfl
    rw [e, Bool.and_eq_true, decide_eq_true_eq, ih]
    refine ⟨fun ⟨a, b⟩ i hi => ?_, fun z => ⟨z 0 (by simp), fun i hi => by simpa using z (i + 1) (by simpa using hi)⟩⟩
    cases i with
    | zero => exact a
    | succ i => simpa using b i (by simpa using hi)
  | [], _ :: _, h => by simp at h
  | _ :: _, [], h => by simp at h
/-- what is behind a source stays behind -/
theorem ge_back {c d : List Int} {s : Slab} (hl : c.length = d.length) (hs : s.1 < d.length) (hm : 0 ≤ s.2) (h : ge c (adv d s) = true) : ge c d = true := by
  rw [ge_iff (by rw [adv_len, hl])] at h
  rw [ge_iff hl]
  intro i hi
  have z := h i (by rw [adv_len]; exact hi)
  rw [adv_at hs] at z
  by_cases e : s.1 = i
  · subst e
    rw [if_pos rfl] at z
    omega
  · rwa [if_neg e] at z
/-- whether all slabs name a source and some rows -/
def Fine (n : Nat) (ss : List Slab) : Prop := ∀ s ∈ ss, s.1 < n ∧ 1 ≤ s.2
theorem Leg.fine : ∀ {ss : List Slab} {r : List Int}, Leg r ss → Fine r.length ss
  | [], _, _ => fun s h => nomatch h
  | s :: ss, r, h => by
    obtain ⟨_, a, b, _, k⟩ := h
    intro t ht
    rcases List.mem_cons.mp ht with rfl | ht
    · exact ⟨a, b⟩
    · have := Leg.fine k t ht
      rwa [red_len] at this
theorem hits_none : ∀ {ss : List Slab} {c d : List Int} {k : Nat}, c.length = d.length → Fine d.length ss → ge c d = false → hits d ss c k = []
  | [], _, _, _, _, _, _ => rfl
  | s :: ss, c, d, k, hl, hf, h => by
    obtain ⟨a, b⟩ := hf s (by simp)
    have n1 : hit d s c = false := by
      unfold hit
      rw [h, Bool.false_and]
    have n2 : ge c (adv d s) = false := by
      cases e : ge c (adv d s) with
      | false => rfl
      | true =>
        rw [ge_back hl a (by omega) e] at h
        cases h
    rw [hits, if_neg (by rw [n1]; simp)]
    exact hits_none (by rw [adv_len, hl]) (fun t ht => by rw [adv_len]; exact hf t (by simp [ht])) n2
theorem getD_mem {l : List Int} {i : Nat} (h : i < l.length) : l.getD i 0 ∈ l := by
  rw [List.getD_eq_getElem?_getD, List.getElem?_eq_getElem h]
  exact List.getElem_mem h
theorem mem_getD {l : List Int} {v : Int} (h : v ∈ l) : ∃ i, i < l.length ∧ l.getD i 0 = v := by
  obtain ⟨i, hi, e⟩ := List.mem_iff_getElem.mp h
  exact ⟨i, hi, by rw [List.getD_eq_getElem?_getD, List.getElem?_eq_getElem hi]; exact e⟩
/-- a box: done and left together are the sizes -/
structure Box (z d r : List Int) : Prop where
  ld : d.length = z.length
  lr : r.length = z.length
  sum : ∀ i, i < z.length → d.getD i 0 + r.getD i 0 = z.getD i 0
theorem Box.next {z d r : List Int} {s : Slab} (b : Box z d r) (hs : s.1 < z.length) : Box z (adv d s) (red r s) := by
  refine ⟨by rw [adv_len, b.ld], by rw [red_len, b.lr], fun i hi => ?_⟩
  rw [adv_at (by rw [b.ld]; exact hs), red_at (by rw [b.lr]; exact hs)]
  have h1 := b.sum i hi
  by_cases e : s.1 = i
  · subst e
    rw [if_pos rfl, if_pos rfl]
    omega
  · rw [if_neg e, if_neg e]
    exact h1
theorem zeros_box (z : List Int) : Box z (List.replicate z.length 0) z := by
  refine ⟨by simp, rfl, fun i hi => ?_⟩
  rw [List.getD_eq_getElem?_getD, List.getElem?_replicate]
  simp [hi]
structure Choice (z c : List Int) : Prop where
  len : c.length = z.length
  low : ∀ i, i < z.length → 0 ≤ c.getD i 0
  high : ∀ i, i < z.length → c.getD i 0 < z.getD i 0
/-- each choice behind what is done is met by just one slab -/
theorem hits_one : ∀ {ss : List Slab} {z c d r : List Int} {k : Nat}, Box z d r → Choice z c → ge c d = true → Leg r ss → (0 : Int) ∈ lft r ss → ∃ j, hits d ss c k = [j] ∧ k ≤ j ∧ j < k + ss.length
  | [], z, c, d, r, k, b, hc, hg, _, h0 => by
    exfalso
    obtain ⟨i, hi, e⟩ := mem_getD h0
    have hi : i < r.length := hi
    have e : r.getD i 0 = 0 := e
    rw [b.lr] at hi
    have g := (ge_iff (by rw [hc.len, b.ld])).mp hg i (by rw [b.ld]; exact hi)
    have := b.sum i hi
    have := hc.high i hi
    omega
  | s :: ss, z, c, d, r, k, b, hc, hg, hL, h0 => by
    obtain ⟨n0, a, m1, m2, hL⟩ := hL
    have a' : s.1 < z.length := by rw [← b.lr]; exact a
    have ad : s.1 < d.length := by rw [b.ld]; exact a'
    have hl : c.length = d.length := by rw [hc.len, b.ld]
    have hla : c.length = (adv d s).length := by rw [adv_len, hl]
    have g := (ge_iff hl).mp hg
    by_cases lt : c.getD s.1 0 < d.getD s.1 0 + s.2
    · have n1 : ge c (adv d s) = false := by
        cases e : ge c (adv d s) with
        | false => rfl
        | true =>
          have := (ge_iff hla).mp e s.1 (by rw [adv_len]; exact ad)
          rw [adv_at ad, if_pos rfl] at this
          omega
      have f : Fine (adv d s).length ss := by
        have := Leg.fine hL
        rw [red_len, b.lr, ← b.ld, ← adv_len (s := s)] at this
        exact this
      refine ⟨k, ?_, Nat.le_refl _, by simp only [List.length_cons]; omega⟩
      rw [hits, if_pos (by unfold hit; rw [hg, decide_eq_true lt] <;> rfl), hits_none hla f n1]
    · have n1 : ge c (adv d s) = true := by
        rw [ge_iff hla]
        intro i hi
        rw [adv_len] at hi
        rw [adv_at ad]
        split
        · rename_i e
          rw [← e]
          omega
        · exact g i hi
      obtain ⟨j, e, h1, h2⟩ := hits_one (k := k + 1) (b.next a') hc n1 hL h0
      refine ⟨j, ?_, by omega, by simp only [List.length_cons]; omega⟩
      rw [hits, if_neg (by unfold hit; rw [decide_eq_false lt]; simp)]
      exact e

/-! products -/
theorem foldl_mul : ∀ (l : List Int) (a : Int), l.foldl (· * ·) a = a * prod l
  | [], a => by simp [prod]
  | x :: l, a => by
    show l.foldl (· * ·) (a * x) = a * l.foldl (· * ·) (1 * x)
    rw [foldl_mul l, foldl_mul l (1 * x), Int.one_mul, Int.mul_assoc]
theorem prod_cons (x : Int) (l : List Int) : prod (x :: l) = x * prod l := by
  show l.foldl (· * ·) (1 * x) = _
  rw [foldl_mul, Int.one_mul]
theorem prod_nil : prod [] = 1 := rfl
theorem prod_snoc (l : List Int) (x : Int) : prod (l ++ [x]) = prod l * x := by
  simp [prod, List.foldl_append]
theorem prod_set : ∀ {l : List Int} {i : Nat} {v : Int}, i < l.length → prod (l.set i v) = v * prod (l.set i 1)
  | x :: l, 0, v, _ => by simp [prod_cons]
  | x :: l, i + 1, v, h => by
    have ih := prod_set (l := l) (i := i) (v := v) (by simpa using h)
    simp only [List.set_cons_succ, prod_cons, ih]
    rw [Int.mul_left_comm]
theorem prod_at {l : List Int} {i : Nat} (h : i < l.length) : prod l = l.getD i 0 * prod (l.set i 1) := by
  rw [← prod_set h]
  congr 1
  rw [List.getD_eq_getElem?_getD, List.getElem?_eq_getElem h]
  simp
theorem cnt_diff {r : List Int} {s : Slab} (h : s.1 < r.length) : cnt r s = prod r - prod (red r s) := by
  unfold cnt red
  rw [prod_set (v := r.getD s.1 0 - s.2) h, prod_at h, ← Int.sub_mul]
  congr 1
  omega
theorem prod_zero : ∀ {l : List Int}, (0 : Int) ∈ l → prod l = 0
  | x :: l, h => by
    rw [prod_cons]
    rcases List.mem_cons.mp h with e | h
    · rw [← e, Int.zero_mul]
    · rw [prod_zero h, Int.mul_zero]
theorem sum_mets : ∀ {ss : List Slab} {r : List Int}, Fine r.length ss → (mets r ss).sum = prod r - prod (lft r ss)
  | [], r, _ => by simp [mets, lft]
  | s :: ss, r, h => by
    have f : Fine (red r s).length ss := fun t ht => by rw [red_len]; exact h t (by simp [ht])
    rw [mets, lft, List.sum_cons, sum_mets f, cnt_diff (h s (by simp)).1]
    omega
theorem prod_pos : ∀ {l : List Int}, (∀ x ∈ l, 1 ≤ x) → 1 ≤ prod l
  | [], _ => by simp [prod_nil]
  | x :: l, h => by
    rw [prod_cons]
    have a := h x (by simp)
    have b := prod_pos (l := l) fun y hy => h y (by simp [hy])
    have := Int.mul_le_mul a b (by omega) (by omega)
    omega
theorem prod_le : ∀ {l : List Int} {B : Int}, 1 ≤ B → (∀ x ∈ l, 0 ≤ x ∧ x ≤ B) → 0 ≤ prod l ∧ prod l ≤ B ^ l.length
  | [], B, _, _ => by simp [prod_nil]
  | x :: l, B, hB, h => by
    rw [prod_cons]
    obtain ⟨a, b⟩ := h x (by simp)
    obtain ⟨c, d⟩ := prod_le (l := l) hB fun y hy => h y (by simp [hy])
    refine ⟨Int.mul_nonneg a c, ?_⟩
    rw [List.length_cons, Int.pow_succ, Int.mul_comm]
    exact Int.mul_le_mul d b a (Int.le_trans c d)
/-- all are from 0 to B -/
def In (B : Int) (r : List Int) : Prop := ∀ x ∈ r, 0 ≤ x ∧ x ≤ B
theorem mem_set {l : List Int} {i : Nat} {v x : Int} (h : x ∈ l.set i v) : x = v ∨ x ∈ l := by
  rcases List.mem_or_eq_of_mem_set h with h | h
  · exact .inr h
  · exact .inl h
theorem In.red {B : Int} {r : List Int} {s : Slab} (h : In B r) (hs : s.1 < r.length) (a : 1 ≤ s.2) (b : s.2 ≤ r.getD s.1 0) : In B (red r s) := by
  intro x hx
  rcases mem_set hx with e | hx
  · have := h _ (getD_mem hs)
    omega
  · exact h x hx
theorem cnt_pos {B : Int} {r : List Int} {s : Slab} (h : In B r) (n0 : (0 : Int) ∉ r) (hs : s.1 < r.length) (a : 1 ≤ s.2) : 1 ≤ cnt r s := by
  have p : 1 ≤ prod (r.set s.1 1) := prod_pos fun x hx => by
    rcases mem_set hx with e | hx
    · omega
    · have := h x hx
      have : x ≠ 0 := fun e => n0 (e ▸ hx)
      omega
  have := Int.mul_le_mul a p (by omega) (by omega)
  unfold cnt
  omega
theorem mets_pos : ∀ {ss : List Slab} {B : Int} {r : List Int}, In B r → Leg r ss → ∀ x ∈ mets r ss, 1 ≤ x
  | [], _, _, _, _ => fun x h => nomatch h
  | s :: ss, B, r, h, hL => by
    obtain ⟨n0, a, m1, m2, k⟩ := hL
    intro x hx
    rcases List.mem_cons.mp hx with rfl | hx
    · exact cnt_pos h n0 a m1
    · exact mets_pos (h.red a m1 m2) k x hx
theorem lft_in : ∀ {ss : List Slab} {B : Int} {r : List Int}, In B r → Leg r ss → In B (lft r ss)
  | [], _, _, h, _ => h
  | s :: ss, B, r, h, hL => by
    have k := h.red hL.2.1 hL.2.2.1 hL.2.2.2.1
    exact lft_in (ss := ss) k hL.2.2.2.2
theorem dones_len : ∀ {ss : List Slab} {d : List Int}, (dones d ss).length = ss.length
  | [], _ => rfl
  | s :: ss, d => by simp [dones, dones_len]
theorem mets_len : ∀ {ss : List Slab} {d : List Int}, (mets d ss).length = ss.length
  | [], _ => rfl
  | s :: ss, d => by simp [mets, mets_len]
/-- one more slab -/
theorem lft_snoc : ∀ {ss : List Slab} {r : List Int} {s : Slab}, lft r (ss ++ [s]) = red (lft r ss) s
  | [], _, _ => rfl
  | t :: ss, r, s => lft_snoc (ss := ss)
theorem Leg.snoc : ∀ {ss : List Slab} {r : List Int} {s : Slab}, Leg r ss → (0 : Int) ∉ lft r ss → s.1 < r.length → 1 ≤ s.2 → s.2 ≤ (lft r ss).getD s.1 0 → Leg r (ss ++ [s])
  | [], _, _, _, a, b, c, d => ⟨a, b, c, d, trivial⟩
  | t :: ss, r, s, h, a, b, c, d => ⟨h.1, h.2.1, h.2.2.1, h.2.2.2.1, Leg.snoc (ss := ss) h.2.2.2.2 a (by rw [red_len]; exact b) c d⟩
theorem dones_at : ∀ {ss : List Slab} {d : List Int} {i : Nat} {s : Slab}, ss[i]? = some s → ∃ e, (dones d ss)[i]? = some e ∧ e.length = d.length
  | t :: ss, d, 0, s, h => ⟨d, rfl, rfl⟩
  | t :: ss, d, i + 1, s, h => by
    obtain ⟨e, a, b⟩ := dones_at (ss := ss) (d := adv d t) (i := i) (by simpa using h)
    exact ⟨e, by simpa [dones] using a, by rw [b, adv_len]⟩
end Bx
end

section
set_option Elab.async false
set_option linter.all false
namespace Bx
/-- slabs as far as there are rows, whoever is through -/
def Leg0 : List Int → List Slab → Prop
  | _, [] => True
  | r, s :: ss => s.1 < r.length ∧ 1 ≤ s.2 ∧ s.2 ≤ r.getD s.1 0 ∧ Leg0 (red r s) ss
theorem Leg.weak : ∀ {ss : List Slab} {r : List Int}, Leg r ss → Leg0 r ss
  | [], _, _ => trivial
  | s :: ss, r, h => ⟨h.2.1, h.2.2.1, h.2.2.2.1, Leg.weak (ss := ss) h.2.2.2.2⟩
theorem Leg0.fine : ∀ {ss : List Slab} {r : List Int}, Leg0 r ss → Fine r.length ss
  | [], _, _ => fun s h => nomatch h
  | s :: ss, r, h => by
    obtain ⟨a, b, _, k⟩ := h
    intro t ht
    rcases List.mem_cons.mp ht with rfl | ht
    · exact ⟨a, b⟩
    · have := Leg0.fine k t ht
      rwa [red_len] at this
theorem mets_snoc : ∀ {ss : List Slab} {r : List Int} {s : Slab}, mets r (ss ++ [s]) = mets r ss ++ [cnt (lft r ss) s]
  | [], _, _ => rfl
  | t :: ss, r, s => by
    show cnt r t :: mets (red r t) (ss ++ [s]) = _
    rw [mets_snoc]
    rfl
/-- what holds ahead of each slab -/
theorem Leg0.at_ : ∀ {ss : List Slab} {B : Int} {r : List Int} {i : Nat} {s : Slab}, In B r → Leg0 r ss → ss[i]? = some s →
    In B (lft r (ss.take i)) ∧ s.1 < (lft r (ss.take i)).length ∧ 1 ≤ s.2 ∧ s.2 ≤ (lft r (ss.take i)).getD s.1 0
  | t :: ss, B, r, 0, s, h, k, e => by
    cases Option.some.inj e
    exact ⟨h, k.1, k.2.1, k.2.2.1⟩
  | t :: ss, B, r, i + 1, s, h, k, e => Leg0.at_ (ss := ss) (i := i) (h.red k.1 k.2.1 k.2.2.1) k.2.2.2 (by simpa using e)
theorem Leg0.here : ∀ {ss : List Slab} {r : List Int} {i : Nat} {s : Slab}, Leg0 r ss → ss[i]? = some s →
    s.1 < (lft r (ss.take i)).length ∧ 1 ≤ s.2 ∧ s.2 ≤ (lft r (ss.take i)).getD s.1 0
  | t :: ss, r, 0, s, k, e => by
    cases Option.some.inj e
    exact ⟨k.1, k.2.1, k.2.2.1⟩
  | t :: ss, r, i + 1, s, k, e => Leg0.here (ss := ss) (i := i) k.2.2.2 (by simpa using e)
theorem Leg.at_ : ∀ {ss : List Slab} {r : List Int} {i : Nat} {s : Slab}, Leg r ss → ss[i]? = some s → (0 : Int) ∉ lft r (ss.take i)
  | t :: ss, r, 0, s, k, e => k.1
  | t :: ss, r, i + 1, s, k, e => Leg.at_ (ss := ss) (i := i) k.2.2.2.2 (by simpa using e)
/-- the rows of the others so far -/
def oth (r : List Int) (k j : Nat) : Int := prod ((r.set k 1).take j)
theorem oth_zero (r : List Int) (k : Nat) : oth r k 0 = 1 := rfl
theorem oth_at {r : List Int} {k j : Nat} (h : j < r.length) : oth r k (j + 1) = if j = k then oth r k j else oth r k j * r.getD j 0 := by
  have e : (r.set k 1)[j]? = some (if j = k then 1 else r.getD j 0) := by
    rw [List.getElem?_set]
    by_cases z : k = j
    · subst z
      simp [h]
    · rw [if_neg z, if_neg (fun e => z e.symm), List.getD_eq_getElem?_getD, List.getElem?_eq_getElem h] <;> rfl
  unfold oth
  rw [List.take_add_one, e]
  show prod (_ ++ [_]) = _
  rw [prod_snoc]
  split <;> simp
theorem oth_all (r : List Int) (k : Nat) : oth r k r.length = prod (r.set k 1) := by
  unfold oth
  rw [List.take_of_length_le (by simp)]
end Bx
end

section
set_option Elab.async false
set_option linter.all false
namespace Bx
theorem sum_set : ∀ {l : List Int} {i : Nat} {v : Int}, i < l.length → (l.set i v).sum = l.sum - l.getD i 0 + v
  | x :: l, 0, v, _ => by
    simp only [List.set_cons_zero, List.sum_cons, List.getD_cons_zero]
    omega
  | x :: l, i + 1, v, h => by
    have ih := sum_set (l := l) (i := i) (v := v) (by simpa using h)
    simp only [List.set_cons_succ, List.sum_cons, List.getD_cons_succ, ih]
    omega
theorem sum_red {r : List Int} {s : Slab} (h : s.1 < r.length) : (red r s).sum = r.sum - s.2 := by
  unfold red
  rw [sum_set h]
  omega
theorem In.sum : ∀ {B : Int} {r : List Int}, 0 ≤ B → In B r → 0 ≤ r.sum ∧ r.sum ≤ B * r.length
  | B, [], _, _ => by simp
  | B, x :: r, hB, h => by
    obtain ⟨a, b⟩ := h x (by simp)
    obtain ⟨c, d⟩ := In.sum (r := r) hB fun y hy => h y (by simp [hy])
    simp only [List.sum_cons, List.length_cons]
    refine ⟨by omega, ?_⟩
    have : B * ((r.length + 1 : Nat) : Int) = B * r.length + B := by
      rw [Int.natCast_add, Int.mul_add]
      simp
    omega
theorem In.mono {B C : Int} {r : List Int} (h : In B r) (l : B ≤ C) : In C r := fun x hx => by
  have := h x hx
  omega
theorem fdiv2 (n : Int) : n.fdiv 2 = n / 2 := Int.fdiv_eq_ediv_of_nonneg n (by omega)
end Bx
namespace Bx
def dn (d : List Int) : List Slab → List Int
  | [] => d
  | s :: ss => dn (adv d s) ss
theorem dn_len : ∀ {ss : List Slab} {d : List Int}, (dn d ss).length = d.length
  | [], _ => rfl
  | s :: ss, d => by rw [dn, dn_len, adv_len]
theorem dn_snoc : ∀ {ss : List Slab} {d : List Int} {s : Slab}, dn d (ss ++ [s]) = adv (dn d ss) s
  | [], _, _ => rfl
  | t :: ss, d, s => dn_snoc (ss := ss)
theorem dones_snoc : ∀ {ss : List Slab} {d : List Int} {s : Slab}, dones d (ss ++ [s]) = dones d ss ++ [dn d ss]
  | [], _, _ => rfl
  | t :: ss, d, s => by
    show d :: dones (adv d t) (ss ++ [s]) = _
    rw [dones_snoc]
    rfl
theorem hits_snoc : ∀ {ss : List Slab} {d c : List Int} {s : Slab} {k : Nat}, hits d (ss ++ [s]) c k = hits d ss c k ++ (if hit (dn d ss) s c then [k + ss.length] else [])
  | [], d, c, s, k => by
    show hits d (s :: []) c k = _
    rw [hits, hits, hits, dn]
    split <;> simp
  | t :: ss, d, c, s, k => by
    show hits d (t :: (ss ++ [s])) c k = _
    rw [hits, hits, hits_snoc, dn]
    rw [show k + 1 + ss.length = k + (t :: ss).length by simp only [List.length_cons]; omega]
    split <;> simp
theorem dones_at2 : ∀ {ss : List Slab} {d : List Int} {i : Nat} {s : Slab}, ss[i]? = some s → (dones d ss)[i]? = some (dn d (ss.take i))
  | t :: ss, d, 0, s, h => rfl
  | t :: ss, d, i + 1, s, h => by
    have := dones_at2 (ss := ss) (d := adv d t) (i := i) (by simpa using h)
    simpa [dones, dn] using this
theorem box_take : ∀ {ss : List Slab} {z d r : List Int} (i : Nat), Box z d r → Fine z.length ss → Box z (dn d (ss.take i)) (lft r (ss.take i))
  | _, z, d, r, 0, b, _ => b
  | [], z, d, r, i + 1, b, _ => b
  | s :: ss, z, d, r, i + 1, b, f => by
    simp only [List.take_succ_cons, dn, lft]
    exact box_take (ss := ss) i (b.next (f s (by simp)).1) fun t ht => f t (by simp [ht])
end Bx
namespace Bx
theorem hits_take {ss : List Slab} {d c : List Int} {i : Nat} {s : Slab} (h : ss[i]? = some s) : hits d (ss.take (i + 1)) c 0 = hits d (ss.take i) c 0 ++ (if hit (dn d (ss.take i)) s c then [i] else []) := by
  have lt : i < ss.length := (List.getElem?_eq_some_iff.mp h).1
  rw [List.take_add_one, h]
  show hits d (ss.take i ++ [s]) c 0 = _
  rw [hits_snoc, List.length_take, show 0 + min i ss.length = i by omega]
theorem set_in {B : Int} {r : List Int} {k : Nat} (hB : 1 ≤ B) (h : In B r) : ∀ x ∈ r.set k 1, 0 ≤ x ∧ x ≤ B := fun x hx => by
  rcases mem_set hx with e | hx
  · omega
  · exact h x hx
theorem mets_bound : ∀ {ss : List Slab} {B : Int} {r : List Int}, 1 ≤ B → In B r → Leg0 r ss → ∀ x ∈ mets r ss, 0 ≤ x ∧ x ≤ B * B ^ r.length
  | [], _, _, _, _, _ => fun x h => nomatch h
  | s :: ss, B, r, hB, h, hL => by
    obtain ⟨a, m1, m2, k⟩ := hL
    intro x hx
    rcases List.mem_cons.mp hx with rfl | hx
    · obtain ⟨p0, p1⟩ := prod_le hB (set_in (k := s.1) hB h)
      rw [List.length_set] at p1
      have hb := h _ (getD_mem a)
      unfold cnt
      exact ⟨Int.mul_nonneg (by omega) p0, Int.mul_le_mul (by omega) p1 p0 (by omega)⟩
    · have := mets_bound hB (h.red a m1 m2) k x hx
      rwa [red_len] at this
end Bx
end

section
set_option Elab.async false
set_option linter.all false
namespace Bx
theorem hits_append : ∀ {a b : List Slab} {d c : List Int} {k : Nat}, hits d (a ++ b) c k = hits d a c k ++ hits (dn d a) b c (k + a.length)
  | [], b, d, c, k => by simp [hits, dn]
  | s :: a, b, d, c, k => by
    show hits d (s :: (a ++ b)) c k = _
    rw [hits, hits, dn, hits_append, show k + 1 + a.length = k + (s :: a).length by simp only [List.length_cons]; omega]
    split <;> simp
theorem lft_append : ∀ {a b : List Slab} {r : List Int}, lft r (a ++ b) = lft (lft r a) b
  | [], _, _ => rfl
  | s :: a, b, r => lft_append (a := a)
theorem dn_append : ∀ {a b : List Slab} {d : List Int}, dn d (a ++ b) = dn (dn d a) b
  | [], _, _ => rfl
  | s :: a, b, d => dn_append (a := a)
theorem Leg.append : ∀ {a b : List Slab} {r : List Int}, Leg r a → Leg (lft r a) b → Leg r (a ++ b)
  | [], _, _, _, h => h
  | s :: a, b, r, h, k => ⟨h.1, h.2.1, h.2.2.1, h.2.2.2.1, Leg.append (a := a) h.2.2.2.2 k⟩
theorem Leg.take : ∀ {a : List Slab} {r : List Int} (k : Nat), Leg r a → Leg r (a.take k)
  | _, _, 0, _ => trivial
  | [], _, _ + 1, _ => trivial
  | s :: a, r, k + 1, h => ⟨h.1, h.2.1, h.2.2.1, h.2.2.2.1, Leg.take (a := a) k h.2.2.2.2⟩
theorem ge_dn : ∀ {ss : List Slab} {c d : List Int}, c.length = d.length → Fine d.length ss → ge c (dn d ss) = true → ge c d = true
  | [], _, _, _, _, h => h
  | s :: ss, c, d, hl, hf, h => by
    obtain ⟨a, b⟩ := hf s (by simp)
    refine ge_back hl a (by omega) (ge_dn (ss := ss) (by rw [adv_len, hl]) (fun t ht => by rw [adv_len]; exact hf t (by simp [ht])) h)
theorem hits_nil : ∀ {ss : List Slab} {c d : List Int} {k : Nat}, c.length = d.length → Fine d.length ss → ge c d = true → (hits d ss c k = [] ↔ ge c (dn d ss) = true)
  | [], c, d, k, _, _, h => by simp [hits, dn, h]
  | s :: ss, c, d, k, hl, hf, h => by
    obtain ⟨a, b⟩ := hf s (by simp)
    have hla : c.length = (adv d s).length := by rw [adv_len, hl]
    have hfa : Fine (adv d s).length ss := fun t ht => by rw [adv_len]; exact hf t (by simp [ht])
    have g := (ge_iff hl).mp h
    by_cases lt : c.getD s.1 0 < d.getD s.1 0 + s.2
    · rw [hits, if_pos (by unfold hit; rw [h, decide_eq_true lt] <;> rfl), dn]
      refine ⟨fun e => by simp at e, fun e => ?_⟩
      have z := (ge_iff hla).mp (ge_dn hla hfa e) s.1 (by rw [adv_len]; exact a)
      rw [adv_at a, if_pos rfl] at z
      omega
    · have ga : ge c (adv d s) = true := by
        rw [ge_iff hla]
        intro i hi
        rw [adv_len] at hi
        rw [adv_at a]
        split
        · rename_i e
          rw [← e]
          omega
        · exact g i hi
      rw [hits, if_neg (by unfold hit; rw [decide_eq_false lt]; simp), dn]
      exact hits_nil hla hfa ga
/-- one from the other, place by place -/
def sub (c e : List Int) : List Int := List.zipWith (fun x y => x - y) c e
theorem sub_len {c e : List Int} (h : c.length = e.length) : (sub c e).length = c.length := by simp [sub, h]
theorem sub_at {c e : List Int} {i : Nat} (h : c.length = e.length) (hi : i < c.length) : (sub c e).getD i 0 = c.getD i 0 - e.getD i 0 := by
  have h2 : i < e.length := by omega
  have h3 : i < (sub c e).length := by rw [sub_len h]; exact hi
  simp only [List.getD_eq_getElem?_getD, List.getElem?_eq_getElem hi, List.getElem?_eq_getElem h2, List.getElem?_eq_getElem h3, Option.getD_some]
  simp [sub]
theorem ext_getD {a b : List Int} (hl : a.length = b.length) (h : ∀ i, i < a.length → a.getD i 0 = b.getD i 0) : a = b := by
  refine List.ext_getElem hl fun i h1 h2 => ?_
  have := h i h1
  simpa [List.getD_eq_getElem?_getD, List.getElem?_eq_getElem h1, List.getElem?_eq_getElem h2] using this
theorem ge_sub {c d e : List Int} (h1 : c.length = d.length) (h2 : d.length = e.length) : ge (sub c e) (sub d e) = ge c d := by
  rw [Bool.eq_iff_iff, ge_iff (by rw [sub_len (by omega), sub_len h2, h1]), ge_iff h1, sub_len h2]
  constructor
  · intro z i hi
    have := z i hi
    rw [sub_at h2 hi, sub_at (by omega) (by omega)] at this
    omega
  · intro z i hi
    have := z i hi
    rw [sub_at h2 hi, sub_at (by omega) (by omega)]
    omega
theorem adv_sub {d e : List Int} {s : Slab} (h : d.length = e.length) (hs : s.1 < d.length) : adv (sub d e) s = sub (adv d s) e := by
  have l1 : (sub d e).length = d.length := sub_len h
  have l2 : (sub (adv d s) e).length = d.length := by rw [sub_len (by rw [adv_len, h]), adv_len]
  refine ext_getD (by rw [adv_len, l1, l2]) fun i hi => ?_
  rw [adv_len, l1] at hi
  rw [adv_at (by rw [l1]; exact hs), sub_at (c := adv d s) (by rw [adv_len, h]) (by rw [adv_len]; exact hi), adv_at hs, sub_at h hs, sub_at h hi]
  by_cases q : s.1 = i
  · subst q
    rw [if_pos rfl, if_pos rfl]
    omega
  · rw [if_neg q, if_neg q]
theorem hits_sub : ∀ {ss : List Slab} {c d e : List Int} {k n : Nat}, c.length = d.length → d.length = e.length → Fine d.length ss → hits d ss c (k + n) = (hits (sub d e) ss (sub c e) k).map (· + n)
  | [], _, _, _, _, _, _, _, _ => rfl
  | s :: ss, c, d, e, k, n, h1, h2, hf => by
    obtain ⟨a, b⟩ := hf s (by simp)
    have ih := hits_sub (ss := ss) (c := c) (d := adv d s) (e := e) (k := k + 1) (n := n) (by rw [adv_len, h1]) (by rw [adv_len, h2]) (fun t ht => by rw [adv_len]; exact hf t (by simp [ht]))
    have eh : hit (sub d e) s (sub c e) = hit d s c := by
      unfold hit
      rw [ge_sub h1 h2, sub_at (by omega) (by omega), sub_at h2 a]
      congr 1
      rw [Bool.eq_iff_iff, decide_eq_true_eq, decide_eq_true_eq]
      omega
    rw [hits, hits, eh, adv_sub h2 a, show k + n + 1 = k + 1 + n by omega, ih]
    split <;> simp
theorem sub_self (d : List Int) : sub d d = List.replicate d.length 0 := by
  refine ext_getD (by rw [sub_len rfl, List.length_replicate]) fun i hi => ?_
  rw [sub_len rfl] at hi
  rw [sub_at rfl hi, List.getD_eq_getElem?_getD (l := List.replicate _ _), List.getElem?_replicate, if_pos hi]
  simp
/-- what is done, from the sizes and what is left -/
theorem sub_box {z d r : List Int} (b : Box z d r) : sub z r = d := by
  refine ext_getD (by rw [sub_len b.lr.symm, b.ld]) fun i hi => ?_
  rw [sub_len b.lr.symm] at hi
  rw [sub_at b.lr.symm hi]
  have := b.sum i hi
  omega
end Bx
end

section
set_option Elab.async false
set_option linter.all false
namespace Bx
/-- all choices of a position of each source -/
def allC (z : List Int) : List (List Int) := z.foldl (fun acc n => acc.flatMap fun c => (List.range n.toNat).map fun i => c ++ [((i : Nat) : Int)]) [[]]
theorem allC_snoc (z : List Int) (n : Int) : allC (z ++ [n]) = (allC z).flatMap fun c => (List.range n.toNat).map fun i => c ++ [((i : Nat) : Int)] := by
  simp [allC, List.foldl_append]
theorem rev_ind {α : Type} {P : List α → Prop} (h0 : P []) (hs : ∀ l x, P l → P (l ++ [x])) : ∀ l, P l := fun l => by
  have : ∀ m : List α, P m.reverse := fun m => by
    induction m with
    | nil => exact h0
    | cons x r ih =>
      rw [List.reverse_cons]
      exact hs _ _ ih
  have q := this l.reverse
  rwa [List.reverse_reverse] at q
theorem getD_snoc {l : List Int} {x : Int} {i : Nat} : (l ++ [x]).getD i 0 = if i < l.length then l.getD i 0 else if i = l.length then x else 0 := by
  simp only [List.getD_eq_getElem?_getD, List.getElem?_append]
  by_cases h : i < l.length
  · rw [if_pos h, if_pos h]
  · rw [if_neg h, if_neg h]
    by_cases e : i = l.length
    · rw [if_pos e, e, Nat.sub_self]
      rfl
    · rw [if_neg e]
      cases q : i - l.length with
      | zero => omega
      | succ n => simp
theorem allC_choice : ∀ z : List Int, ∀ c ∈ allC z, Choice z c := rev_ind (fun c hc => by
    have : c = [] := by simpa [allC] using hc
    subst this
    exact ⟨rfl, fun i hi => absurd hi (by simp), fun i hi => absurd hi (by simp)⟩) fun z n ih c hc => by
  rw [allC_snoc, List.mem_flatMap] at hc
  obtain ⟨c', h1, h2⟩ := hc
  obtain ⟨i, hi, rfl⟩ := List.mem_map.mp h2
  rw [List.mem_range] at hi
  have k := ih c' h1
  refine ⟨by simp [k.len], fun j hj => ?_, fun j hj => ?_⟩
  · rw [getD_snoc]
    split
    · rename_i q
      exact k.low j (by rw [← k.len]; exact q)
    · split <;> omega
  · rw [getD_snoc, getD_snoc, k.len]
    rw [List.length_append, List.length_singleton] at hj
    split
    · rename_i q
      exact k.high j q
    · rw [if_pos (by omega), if_pos (by omega)]
      omega
/-- within a box from a to b -/
def inB (a b c : List Int) : Bool := (List.range c.length).all fun i => decide (a.getD i 0 ≤ c.getD i 0) && decide (c.getD i 0 < b.getD i 0)
theorem inB_snoc {a b c : List Int} {x y : Int} {i : Int} (ha : a.length = c.length) (hb : b.length = c.length) : inB (a ++ [x]) (b ++ [y]) (c ++ [i]) = (inB a b c && (decide (x ≤ i) && decide (i < y))) := by
  unfold inB
  rw [List.length_append, List.length_singleton, List.range_succ, List.all_append]
  congr 1
  · rw [Bool.eq_iff_iff, List.all_eq_true, List.all_eq_true]
    constructor
    · intro h j hj
      have := h j hj
      rw [List.mem_range] at hj
      rw [getD_snoc, getD_snoc, getD_snoc, if_pos (by omega), if_pos hj, if_pos (by omega)] at this
      exact this
    · intro h j hj
      have := h j hj
      rw [List.mem_range] at hj
      rw [getD_snoc, getD_snoc, getD_snoc, if_pos (by omega), if_pos hj, if_pos (by omega)]
      exact this
  · rw [List.all_cons, List.all_nil, Bool.and_true, getD_snoc, getD_snoc, getD_snoc, if_neg (by omega), if_pos ha.symm, if_neg (by omega), if_pos rfl, if_neg (by omega), if_pos hb.symm]
theorem count_range (x y : Int) (n : Nat) (h0 : 0 ≤ x) (h1 : x ≤ y) (h2 : y ≤ n) : (((List.range n).countP fun i => decide (x ≤ ((i : Nat) : Int)) && decide (((i : Nat) : Int) < y) : Nat) : Int) = y - x := by
  have key : ∀ n : Nat, (((List.range n).countP fun i => decide (x ≤ ((i : Nat) : Int)) && decide (((i : Nat) : Int) < y) : Nat) : Int) = (if ((n : Nat) : Int) ≤ x then 0 else if ((n : Nat) : Int) ≤ y then ((n : Nat) : Int) - x else y - x) := by
    intro n
    induction n with
    | zero =>
      rw [if_pos (by omega)]
      rfl
    | succ n ih =>
      rw [List.range_succ, List.countP_append, Int.natCast_add, ih, List.countP_singleton]
      by_cases c1 : x ≤ ((n : Nat) : Int)
      · by_cases c2 : ((n : Nat) : Int) < y
        · rw [decide_eq_true c1, decide_eq_true c2]
          simp only [Bool.and_self, if_true]
          split <;> split <;> (try split) <;> omega
        · rw [decide_eq_true c1, decide_eq_false c2]
          simp only [Bool.and_false, Bool.false_eq_true, if_false]
          split <;> split <;> (try split) <;> (try split) <;> omega
      · rw [decide_eq_false c1]
        simp only [Bool.false_and, Bool.false_eq_true, if_false]
        rw [if_pos (by omega), if_pos (by omega)]
        rfl
  rw [key]
  split
  · omega
  · split <;> omega
theorem countP_flat {α β : Type} (p : β → Bool) (f : α → List β) : ∀ l : List α, (l.flatMap f).countP p = (l.map fun a => (f a).countP p).sum
  | [] => rfl
  | a :: l => by
    rw [List.flatMap_cons, List.countP_append, countP_flat p f l, List.map_cons, List.sum_cons]
theorem sum_if {α : Type} (p : α → Bool) (k : Nat) : ∀ l : List α, (l.map fun a => if p a = true then k else 0).sum = l.countP p * k
  | [] => by simp
  | a :: l => by
    rw [List.map_cons, List.sum_cons, sum_if p k l, List.countP_cons]
    split
    · rw [Nat.add_mul]
      omega
    · rw [Nat.add_zero, Nat.zero_add]
/-- how many choices lie within a box -/
theorem count_box : ∀ z a b : List Int, a.length = z.length → b.length = z.length → (∀ i, i < z.length → 0 ≤ a.getD i 0 ∧ a.getD i 0 ≤ b.getD i 0 ∧ b.getD i 0 ≤ z.getD i 0) →
    (((allC z).countP (inB a b) : Nat) : Int) = prod (sub b a) := by
  refine rev_ind (fun a b ha hb _ => ?_) fun z n ih a b ha hb h => ?_
  · have : a = [] := List.length_eq_zero_iff.mp ha
    subst this
    have : b = [] := List.length_eq_zero_iff.mp hb
    subst this
    rfl
  · have lz : (z ++ [n]).length = z.length + 1 := by simp
    obtain ⟨a', x, rfl⟩ : ∃ a' x, a = a' ++ [x] := ⟨a.dropLast, a.getLast (by intro e; rw [e, lz] at ha; simp at ha), (List.dropLast_concat_getLast _).symm⟩
    obtain ⟨b', y, rfl⟩ : ∃ b' y, b = b' ++ [y] := ⟨b.dropLast, b.getLast (by intro e; rw [e, lz] at hb; simp at hb), (List.dropLast_concat_getLast _).symm⟩
    have la : a'.length = z.length := by simpa using ha
    have lb : b'.length = z.length := by simpa using hb
    have h' : ∀ i, i < z.length → 0 ≤ a'.getD i 0 ∧ a'.getD i 0 ≤ b'.getD i 0 ∧ b'.getD i 0 ≤ z.getD i 0 := fun i hi => by
      have := h i (by omega)
      rw [getD_snoc, getD_snoc, getD_snoc, if_pos (by omega), if_pos (by omega), if_pos hi] at this
      exact this
    have hl := h z.length (by omega)
    rw [getD_snoc, getD_snoc, getD_snoc, if_neg (by omega), if_pos la.symm, if_neg (by omega), if_pos lb.symm, if_neg (by omega), if_pos rfl] at hl
    have e1 : sub (b' ++ [y]) (a' ++ [x]) = sub b' a' ++ [y - x] := by
      unfold sub
      rw [List.zipWith_append (by omega)]
      rfl
    rw [e1, prod_snoc, ← ih a' b' la lb h', allC_snoc, countP_flat]
    have e2 : ((allC z).map fun c => ((List.range n.toNat).map fun i => c ++ [((i : Nat) : Int)]).countP (inB (a' ++ [x]) (b' ++ [y]))) = (allC z).map fun c => if inB a' b' c = true then (y - x).toNat else 0 := by
      refine List.map_congr_left fun c hc => ?_
      have lc := (allC_choice z c hc).len
      rw [List.countP_map]
      have e3 : ((inB (a' ++ [x]) (b' ++ [y])) ∘ fun i : Nat => c ++ [((i : Nat) : Int)]) = fun i : Nat => inB a' b' c && (decide (x ≤ ((i : Nat) : Int)) && decide (((i : Nat) : Int) < y)) := by
        funext i
        exact inB_snoc (by omega) (by omega)
      rw [e3]
      cases inB a' b' c with
      | false => simp
      | true =>
        simp only [Bool.true_and, if_true]
        have := count_range x y n.toNat hl.1 hl.2.1 (by omega)
        omega
    rw [e2, sum_if, Int.natCast_mul]
    congr 1
    omega
theorem hit_in {z d r c : List Int} {s : Slab} (b : Box z d r) (hc : Choice z c) (hs : s.1 < z.length) : hit d s c = inB d (z.set s.1 (d.getD s.1 0 + s.2)) c := by
  have lc : c.length = d.length := by rw [hc.len, b.ld]
  rw [Bool.eq_iff_iff]
  unfold hit inB
  rw [Bool.and_eq_true, decide_eq_true_eq, ge_iff lc, List.all_eq_true]
  constructor
  · rintro ⟨h1, h2⟩ i hi
    rw [List.mem_range] at hi
    rw [Bool.and_eq_true, decide_eq_true_eq, decide_eq_true_eq, getD_set hs]
    refine ⟨h1 i (by omega), ?_⟩
    split
    · rename_i e
      rw [← e]
      exact h2
    · exact hc.high i (by rw [← hc.len]; exact hi)
  · intro h
    refine ⟨fun i hi => ?_, ?_⟩
    · have := h i (by rw [List.mem_range]; omega)
      rw [Bool.and_eq_true, decide_eq_true_eq] at this
      exact this.1
    · have := h s.1 (by rw [List.mem_range, hc.len]; exact hs)
      rw [Bool.and_eq_true, decide_eq_true_eq, decide_eq_true_eq, getD_set hs, if_pos rfl] at this
      exact this.2
/-- how many choices a slab meets -/
theorem count_hit {B : Int} {z d r : List Int} {s : Slab} (b : Box z d r) (hd : ∀ i, i < z.length → 0 ≤ d.getD i 0) (hr : In B r) (hs : s.1 < z.length) (m1 : 1 ≤ s.2) (m2 : s.2 ≤ r.getD s.1 0) :
    (((allC z).countP (hit d s) : Nat) : Int) = cnt r s := by
  have e : (allC z).countP (hit d s) = (allC z).countP (inB d (z.set s.1 (d.getD s.1 0 + s.2))) := by
    refine List.countP_congr fun c hc => ?_
    rw [hit_in b (allC_choice z c hc) hs]
  have hsr : s.1 < r.length := by rw [b.lr]; exact hs
  rw [e, count_box z d _ b.ld (by simp) fun i hi => ?_]
  · have e2 : sub (z.set s.1 (d.getD s.1 0 + s.2)) d = r.set s.1 s.2 := by
      have l1 : (z.set s.1 (d.getD s.1 0 + s.2)).length = d.length := by rw [List.length_set, b.ld]
      refine ext_getD (by rw [sub_len l1, List.length_set, List.length_set, b.lr]) fun i hi => ?_
      rw [sub_len l1, List.length_set] at hi
      rw [sub_at l1 (by rw [List.length_set]; exact hi), getD_set hs, getD_set hsr]
      have := b.sum i hi
      split
      · rename_i q
        rw [← q]
        omega
      · omega
    rw [e2, prod_set hsr]
    rfl
  · rw [getD_set hs]
    have h1 := b.sum i hi
    have h2 := hd i hi
    have h3 := hr _ (getD_mem (l := r) (i := i) (by rw [b.lr]; exact hi))
    by_cases q : s.1 = i
    · subst q
      rw [if_pos rfl]
      omega
    · rw [if_neg q]
      omega
end Bx
end

section
set_option Elab.async false
set_option linter.all false
namespace Bx
theorem Leg0.snoc : ∀ {ss : List Slab} {r : List Int} {s : Slab}, Leg0 r ss → s.1 < r.length → 1 ≤ s.2 → s.2 ≤ (lft r ss).getD s.1 0 → Leg0 r (ss ++ [s])
  | [], _, _, _, b, c, d => ⟨b, c, d, trivial⟩
  | t :: ss, r, s, h, b, c, d => ⟨h.1, h.2.1, h.2.2.1, Leg0.snoc (ss := ss) h.2.2.2 (by rw [red_len]; exact b) c d⟩
theorem lft_in0 : ∀ {ss : List Slab} {B : Int} {r : List Int}, In B r → Leg0 r ss → In B (lft r ss)
  | [], _, _, h, _ => h
  | s :: ss, B, r, h, hL => by
    have k := h.red hL.1 hL.2.1 hL.2.2.1
    exact lft_in0 (ss := ss) k hL.2.2.2
theorem allC_len {B : Nat} : ∀ z : List Int, (∀ x ∈ z, x ≤ (B : Int)) → (allC z).length ≤ B ^ z.length := rev_ind (fun _ => by simp [allC]) fun z n ih h => by
  rw [allC_snoc, List.length_append, List.length_singleton, Nat.pow_succ]
  have hn := h n (by simp)
  have k := ih fun x hx => h x (by simp [hx])
  have e : ∀ l : List (List Int), (l.flatMap fun c => (List.range n.toNat).map fun i => c ++ [((i : Nat) : Int)]).length = l.length * n.toNat := fun l => by
    induction l with
    | nil => simp
    | cons a l ih => rw [List.flatMap_cons, List.length_append, ih, List.length_map, List.length_range, List.length_cons, Nat.add_mul]; omega
  rw [e]
  exact Nat.mul_le_mul k (by omega)
theorem allC_nodup : ∀ z : List Int, (allC z).Nodup := rev_ind (by simp [allC]) fun z n ih => by
  rw [allC_snoc]
  unfold List.Nodup
  rw [List.pairwise_flatMap]
  refine ⟨fun c _ => ?_, ?_⟩
  · rw [List.pairwise_map]
    refine List.Pairwise.imp ?_ (List.nodup_range (n := n.toNat))
    intro i j hij e
    have := List.append_cancel_left e
    simp at this
    omega
  · refine List.Pairwise.imp ?_ ih
    intro a b hab x hx y hy e
    obtain ⟨i, _, rfl⟩ := List.mem_map.mp hx
    obtain ⟨j, _, rfl⟩ := List.mem_map.mp hy
    exact hab (List.append_inj_left' e rfl)
/-- all that are met, slab by slab -/
def metL (z d : List Int) : List Slab → Nat → List (List Int × Nat)
  | [], _ => []
  | s :: ss, k => ((allC z).filter (hit d s)).map (fun c => (c, k)) ++ metL z (adv d s) ss (k + 1)
theorem metL_snoc : ∀ {ss : List Slab} {z d : List Int} {s : Slab} {k : Nat}, metL z d (ss ++ [s]) k = metL z d ss k ++ ((allC z).filter (hit (dn d ss) s)).map (fun c => (c, k + ss.length))
  | [], z, d, s, k => by simp [metL, dn]
  | t :: ss, z, d, s, k => by
    show ((allC z).filter (hit d t)).map (fun c => (c, k)) ++ metL z (adv d t) (ss ++ [s]) (k + 1) = _
    rw [metL_snoc, metL, dn, List.append_assoc, show k + 1 + ss.length = k + (t :: ss).length by simp only [List.length_cons]; omega]
def find (M : List (List Int × Nat)) (c : List Int) : Option Nat := (M.find? fun x => decide (x.1 = c)).map (·.2)
theorem find_app (A B : List (List Int × Nat)) (c : List Int) : find (A ++ B) c = (find A c).or (find B c) := by
  unfold find
  rw [List.find?_append]
  cases A.find? fun x => decide (x.1 = c) <;> rfl
theorem find_part {L : List (List Int)} {p : List Int → Bool} {k : Nat} {c : List Int} : find ((L.filter p).map fun x => (x, k)) c = if c ∈ L ∧ p c = true then some k else none := by
  unfold find
  rw [List.find?_map]
  have e : ((fun x : List Int × Nat => decide (x.1 = c)) ∘ fun x => (x, k)) = fun x => decide (x = c) := rfl
  rw [e]
  by_cases h : c ∈ L ∧ p c = true
  · rw [if_pos h]
    have m : c ∈ L.filter p := List.mem_filter.mpr h
    cases q : (L.filter p).find? fun x => decide (x = c) with
    | none =>
      have := List.find?_eq_none.mp q c m
      simp at this
    | some x => rfl
  · rw [if_neg h]
    have : (L.filter p).find? (fun x => decide (x = c)) = none := by
      rw [List.find?_eq_none]
      intro x hx e
      have : x = c := of_decide_eq_true e
      subst this
      exact h (List.mem_filter.mp hx)
    rw [this]
    rfl
theorem find_metL : ∀ {ss : List Slab} {z d c : List Int} {k : Nat}, c ∈ allC z → find (metL z d ss k) c = (hits d ss c k).head?
  | [], _, _, _, _, _ => rfl
  | s :: ss, z, d, c, k, hc => by
    rw [metL, find_app, find_part, hits, find_metL (ss := ss) hc]
    by_cases h : hit d s c = true
    · rw [if_pos ⟨hc, h⟩, if_pos h]
      rfl
    · rw [if_neg (fun q => h q.2), if_neg h]
      rfl
theorem countP_metL : ∀ {ss : List Slab} {z d : List Int} {k j : Nat} {s : Slab}, ss[j]? = some s → (metL z d ss k).countP (fun x => decide (x.2 = k + j)) = (allC z).countP (hit (dn d (ss.take j)) s)
  | [], _, _, _, _, _, h => by simp at h
  | t :: ss, z, d, k, j, s, h => by
    rw [metL, List.countP_append, List.countP_map, List.countP_filter]
    have low : ∀ {ss : List Slab} {d : List Int} {k m : Nat}, m < k → (metL z d ss k).countP (fun x => decide (x.2 = m)) = 0 := by
      intro ss
      induction ss with
      | nil => intro d k m _; rfl
      | cons u ss ih =>
        intro d k m hm
        rw [metL, List.countP_append, ih (by omega), List.countP_map, Nat.add_zero, List.countP_eq_zero]
        intro x _ e
        have : k = m := of_decide_eq_true e
        omega
    cases j with
    | zero =>
      cases Option.some.inj h
      rw [low (by omega), Nat.add_zero]
      refine List.countP_congr fun c _ => ?_
      simp [dn]
    | succ j =>
      have h' : ss[j]? = some s := by simpa using h
      rw [show k + (j + 1) = k + 1 + j by omega, countP_metL h']
      have z0 : (allC z).countP (fun a => ((fun x : List Int × Nat => decide (x.2 = k + 1 + j)) ∘ fun c => (c, k)) a && hit d t a) = 0 := by
        rw [List.countP_eq_zero]
        intro x _ e
        rw [Bool.and_eq_true] at e
        have : k = k + 1 + j := of_decide_eq_true e.1
        omega
      rw [z0, Nat.zero_add]
      rfl
/-- those yet to be met -/
def yetL (z d : List Int) : List (List Int) := (allC z).filter fun c => ge c d
theorem yet_next {z d : List Int} {s : Slab} (ld : d.length = z.length) (hs : s.1 < z.length) (hm : 1 ≤ s.2) : (yetL z d).filter (fun c => !hit d s c) = yetL z (adv d s) := by
  unfold yetL
  rw [List.filter_filter]
  refine List.filter_congr fun c hc => ?_
  have lc := (allC_choice z c hc).len
  have l1 : c.length = d.length := by omega
  have l2 : c.length = (adv d s).length := by rw [adv_len]; omega
  rw [Bool.eq_iff_iff, Bool.and_eq_true]
  constructor
  · rintro ⟨h1, h2⟩
    have g := (ge_iff l1).mp h2
    unfold hit at h1
    rw [h2, Bool.true_and] at h1
    have nlt : ¬ (c.getD s.1 0 < d.getD s.1 0 + s.2) := by simpa using h1
    rw [ge_iff l2]
    intro i hi
    rw [adv_len] at hi
    rw [adv_at (by omega)]
    split
    · rename_i e
      rw [← e]
      omega
    · exact g i hi
  · intro h
    have g := (ge_iff l2).mp h
    have a := g s.1 (by rw [adv_len]; omega)
    rw [adv_at (by omega), if_pos rfl] at a
    refine ⟨?_, ge_back l1 (by omega) (by omega) h⟩
    unfold hit
    rw [decide_eq_false (by omega)]
    simp
end Bx
namespace Bx
theorem metL_len : ∀ {ss : List Slab} {z d : List Int} {k : Nat}, (metL z d ss k).length ≤ (allC z).length * ss.length
  | [], _, _, _ => by simp [metL]
  | s :: ss, z, d, k => by
    have ih := metL_len (ss := ss) (z := z) (d := adv d s) (k := k + 1)
    have l := List.length_filter_le (hit d s) (allC z)
    rw [metL, List.length_append, List.length_map, List.length_cons, Nat.mul_succ]
    omega
theorem not_take {α : Type} [DecidableEq α] {l : List α} (h : l.Nodup) {j : Nat} {c : α} (e : l[j]? = some c) : c ∉ l.take j := by
  intro m
  obtain ⟨i, ei⟩ := List.mem_iff_getElem?.mp m
  have hi := (List.getElem?_eq_some_iff.mp ei).1
  rw [List.length_take] at hi
  rw [List.getElem?_take, if_pos (by omega)] at ei
  have lj := (List.getElem?_eq_some_iff.mp e).1
  have li : i < l.length := by omega
  have e1 : l[i] = c := by
    rw [List.getElem?_eq_getElem li] at ei
    exact Option.some.inj ei
  have e2 : l[j] = c := by
    rw [List.getElem?_eq_getElem lj] at e
    exact Option.some.inj e
  have p := List.pairwise_iff_getElem.mp h i j li lj (by omega)
  exact p (e1.trans e2.symm)
theorem yet_nodup (z d : List Int) : (yetL z d).Nodup := List.Pairwise.filter _ (allC_nodup z)
theorem yet_hit {z d : List Int} {s : Slab} : (yetL z d).filter (hit d s) = (allC z).filter (hit d s) := by
  unfold yetL
  rw [List.filter_filter]
  refine List.filter_congr fun c _ => ?_
  unfold hit
  cases ge c d <;> simp
theorem filter_push {α : Type} (p : α → Bool) {l : List α} {j : Nat} {c : α} (e : l[j]? = some c) : (l.take (j + 1)).filter p = (l.take j).filter p ++ (if p c = true then [c] else []) := by
  rw [List.take_add_one, e]
  show (l.take j ++ [c]).filter p = _
  rw [List.filter_append]
  cases h : p c <;> simp [h]
end Bx
namespace Bx
theorem hits_le1 : ∀ {ss : List Slab} {d c : List Int} {k j : Nat}, c.length = d.length → Fine d.length ss → j ∈ hits d ss c k → hits d ss c k = [j]
  | [], _, _, _, _, _, _, h => nomatch h
  | s :: ss, d, c, k, j, hl, hf, h => by
    obtain ⟨a, b⟩ := hf s (by simp)
    have hfa : Fine (adv d s).length ss := fun t ht => by rw [adv_len]; exact hf t (by simp [ht])
    have hla : c.length = (adv d s).length := by rw [adv_len, hl]
    rw [hits] at h ⊢
    by_cases hh : hit d s c = true
    · have n0 : ge c (adv d s) = false := by
        cases e : ge c (adv d s) with
        | false => rfl
        | true =>
          exfalso
          have z := (ge_iff hla).mp e s.1 (by rw [adv_len]; exact a)
          rw [adv_at a, if_pos rfl] at z
          unfold hit at hh
          rw [Bool.and_eq_true, decide_eq_true_eq] at hh
          omega
      rw [if_pos hh, hits_none hla hfa n0] at h ⊢
      rw [List.mem_singleton.mp h]
    · rw [if_neg hh] at h ⊢
      exact hits_le1 hla hfa h
theorem metL_mem : ∀ {ss : List Slab} {z d c : List Int} {k n : Nat}, (c, n) ∈ metL z d ss k → c ∈ allC z ∧ n ∈ hits d ss c k
  | [], _, _, _, _, _, h => nomatch h
  | s :: ss, z, d, c, k, n, h => by
    rw [metL] at h
    rw [hits]
    rcases List.mem_append.mp h with h | h
    · obtain ⟨x, hx, e⟩ := List.mem_map.mp h
      cases e
      obtain ⟨h1, h2⟩ := List.mem_filter.mp hx
      rw [if_pos h2]
      exact ⟨h1, by simp⟩
    · obtain ⟨h1, h2⟩ := metL_mem (ss := ss) h
      refine ⟨h1, ?_⟩
      split
      · exact List.mem_cons_of_mem _ h2
      · exact h2
theorem find_own {ss : List Slab} {z c : List Int} {n : Nat} (hf : Fine z.length ss) (h : (c, n) ∈ metL z (List.replicate z.length 0) ss 0) : find (metL z (List.replicate z.length 0) ss 0) c = some n := by
  obtain ⟨h1, h2⟩ := metL_mem h
  have k := allC_choice z c h1
  rw [find_metL h1, hits_le1 (by rw [k.len, List.length_replicate]) (by rw [List.length_replicate]; exact hf) h2]
  rfl
theorem mets_at : ∀ {ss : List Slab} {r : List Int} {i : Nat} {s : Slab}, ss[i]? = some s → (mets r ss).getD i 0 = cnt (lft r (ss.take i)) s
  | t :: ss, r, 0, s, h => by
    cases Option.some.inj h
    simp [mets, lft]
  | t :: ss, r, i + 1, s, h => by
    have := mets_at (ss := ss) (r := red r t) (i := i) (by simpa using h)
    simpa [mets, lft] using this
theorem dn_low : ∀ {ss : List Slab} {d : List Int}, Fine d.length ss → (∀ i, i < d.length → 0 ≤ d.getD i 0) → ∀ i, i < d.length → 0 ≤ (dn d ss).getD i 0
  | [], _, _, h, i, hi => h i hi
  | s :: ss, d, hf, h, i, hi => by
    obtain ⟨a, b⟩ := hf s (by simp)
    refine dn_low (ss := ss) (fun t ht => by rw [adv_len]; exact hf t (by simp [ht])) (fun j hj => ?_) i (by rw [adv_len]; exact hi)
    rw [adv_len] at hj
    rw [adv_at a]
    split
    · have := h s.1 a
      omega
    · exact h j hj
/-- what the law counts is what each slab meets -/
theorem counted {z : List Int} {ss : List Slab} {i : Nat} {s : Slab} {B : Int} (hz : In B z) (hL : Leg0 z ss) (e : ss[i]? = some s) :
    (((metL z (List.replicate z.length 0) ss 0).countP (fun x => decide (x.2 = i)) : Nat) : Int) = (mets z ss).getD i 0 := by
  have h := countP_metL (z := z) (d := List.replicate z.length 0) (k := 0) e
  rw [Nat.zero_add] at h
  obtain ⟨hI, t1, t2, t3⟩ := Leg0.at_ hz hL e
  have hf := hL.fine
  have bx := box_take i (zeros_box z) hf
  rw [h, mets_at e]
  refine count_hit bx (fun j hj => ?_) hI (by rw [lft_len] at t1; exact t1) t2 t3
  refine dn_low (fun t ht => ?_) (fun k hk => ?_) j (by rw [List.length_replicate]; exact hj)
  · rw [List.length_replicate]
    exact hf t (List.mem_of_mem_take ht)
  · rw [List.length_replicate] at hk
    rw [List.getD_eq_getElem?_getD, List.getElem?_replicate, if_pos hk]
    simp
end Bx
end

section
set_option Elab.async false
set_option linter.all false
set_option maxRecDepth 100000
set_option maxHeartbeats 4000000
/-! f(k=e, ..): by its names alone, in any order. -/
namespace Gd
open PySem PySem.Spec PyProof.Rows L2
section
variable {X : Cx} {cx : CXT} {n : Nat} {f : Addr} {fd : FuncData} {ps ks : List Str} {sp : Sp} {E : XK} {x : Str} {p pos : Pos} {kws : List Keyword} {tk : TA}
  {g : List Value → List Value → List Value} {gV : List V → List V → List V}
def tKw2 (sp : Sp) (gV : List V → List V → List V) (E : XK) (tk : TA) : TE := fun σ H Q => tk σ H fun zs H2 => sp (gV [] zs) H2 Q E
/-- f(k=e): by its names alone -/
theorem pe_kw2 (F : FnOk X.prog X.w X.K X.mg X.base cx n f fd ps sp) (hr : Room n X.A) (hg : Gl X x) (hm : X.mg x = some (.ref f)) (hk : PySem.W.keepIn X.K (.ref f) = true)
    (hb : KBinds X.K fd ps ks g gV) (hx : Passes cx X E) (hkw : PK X kws tk)
    (hall : (backToKw pos (keywordEach kws X.env)).all (·.1.isSome) = true := by rfl) (hks : (backToKw pos (keywordEach kws X.env)).filterMap (·.1) = ks := by rfl)
    (hdb : (x == ("__debug__" : Str)) = false := by decide)
    (hpl : ((backTo pos (starEach [] X.env)).any (·.1) || (backToKw pos (keywordEach kws X.env)).any (·.1.isNone)) = false := by rfl) :
    PE X (.Call (.Name x p) [] kws pos) (tKw2 sp gV E tk) := by
  constructor
  intro pins s σ H Q I h
  refine wpAny_Call_Name_kw (ld_glob I hg hm ?_ hdb)
  refine PySem.W.callWith_KW0 (h₀ := X.base) I.ok.mod.kin hk hall (thn (hkw.run pos pins s σ H _ I h) ?_) hpl
  rintro ws s2 ⟨zs, H2, J, rz, q⟩
  refine ⟨J.kIn, ?_⟩
  rw [hks]
  exact run_fnk (us := []) (vs := []) F hr hb hx J .nil rz q
end
/-- two by their names, told in the other order -/
def back2 {α : Type} : List α → List α → List α
  | [], [a, b] => [b, a]
  | _, _ => []
theorem back2_rel {vs : List V} {us : List Value} {zs : List V} {ws : List Value} (a : Vals vs us) (b : Vals zs ws) : Vals (back2 vs zs) (back2 us ws) := by
  cases a with
  | cons _ _ => cases b <;> exact .nil
  | nil =>
    cases b with
    | nil => exact .nil
    | cons b1 b => cases b with
      | nil => exact .nil
      | cons b2 b => cases b with
        | nil => exact .cons b2 (.cons b1 .nil)
        | cons _ _ => exact .nil
theorem back2_of {K : PySem.W.Frag} {x qual p0 p1 : Str} {st : Stmt} {f : Addr} {fd : FuncData} (F : Fun K x qual st f fd)
    (h : ∀ (kV doc pm : Value) (an : Option Addr) (cdv ct a b : Value), bindArgs (PySem.W.fnOf x qual (defArgs st) (defBody st) (defScope st) .none kV doc pm an cdv ct) ⟨[], [(p1, a), (p0, b)]⟩ = pure [(p0, b), (p1, a)]) :
    KBinds K fd [p0, p1] [p1, p0] back2 back2 := by
  obtain ⟨oc, od, kV, doc, pm, an, cdv, ct, osl, rfl, lk, hcd⟩ := F.ex
  refine ⟨fun s us ws _ hl => ?_, fun a b => back2_rel a b⟩
  match us, ws, hl with
  | [], [a, b], _ => exact .of_eq (h kV doc pm an cdv ct a b)
end Gd
end

section
set_option Elab.async false
set_option linter.all false
set_option maxRecDepth 100000
set_option maxHeartbeats 4000000
namespace K24
open PySem PySem.Spec PyProof.Rows L2 Gd
def topS (i : Nat) : Stmt := PySem.Challenge.pw_plansamid_k24_choices_met_by_slabs.main.body.getD i (.Pass ⟨0, 0, 0, 0⟩)
abbrev sFeed : Stmt := topS 5
abbrev sTake : Stmt := topS 6
theorem scFeed : FnScope ["_law_script", "_law_k", "_law_cell", "_law_great"] ["_law_script", "_law_k"] (defScope sFeed) :=
  ⟨rfl, rfl, rfl, by decide +kernel, rfl, by decide +kernel, by decide +kernel⟩
theorem scTake : FnScope ["_law_feed_here", "_law_many", "_law_digit", "_law_drawn", "_law_mixed"] ["_law_feed_here", "_law_many"] (defScope sTake) :=
  ⟨rfl, rfl, rfl, by decide +kernel, rfl, by decide +kernel, by decide +kernel⟩
section
variable {P : Program} {w : World} {K : PySem.W.Frag} {mg : Str → Option Value} {base : Heap} {f : Addr} {fd : FuncData}
theorem ok_take (F : Fun K "_law_take" "_law_take" sTake f fd) : FnOk P w K mg base CX0 1 f fd ["_law_feed_here", "_law_many"] spTake := by
  refine F.ok scTake (fun vs H Q E h => ?_) (fun cdv A outer s H vs Q E hr h => ?_)
  · obtain ⟨p, m, S, rfl, _⟩ := h
    rfl
  obtain ⟨p, m, S, rfl, ⟨g, x, n, ep, n0, nS⟩, m0, m1, hS, q⟩ := h
  have nd := scTake.nd
  refine ⟨_, pss_cons (ps_if (pt_cmpR op_gt (pe_ix ix_list (pv 0) pe_int (fun _ _ => rfl)) pe_int (nomark _))
      (pss_cons (ps_set (i := 2) nd rfl (.inl rfl) (pe_op op_modN (pe_ix ix_list (pv 0) pe_int (fun _ _ => rfl)) (pv 1)))
      (pss_cons (ps_asg (pe_op op_fdivN (pe_ix ix_list (pv 0) pe_int (fun _ _ => rfl)) (pv 1)) (pg_sub (pv 0) pe_int set_list))
      (pss_one (ps_ret (pv 2))))) pss_nil)
    (pss_cons (ps_set (i := 3) nd rfl (.inl rfl) (pe_op op_add (pe_ix ix_list (pv 0) pe_int (fun _ _ => rfl)) pe_int))
    (pss_cons (ps_asg (pv 3) (pg_sub (pv 0) pe_int set_list))
    (pss_cons (ps_set (i := 4) nd rfl (.inl rfl) (pe_op op_modN (pe_op op_add (pe_op op_add (pe_ix ix_list (pv 0) pe_int (fun _ _ => rfl))
        (pe_op op_mul (pe_op op_mul pe_int (pv 3)) (pv 3))) (pe_op op_mul pe_int (pv 3))) pe_int))
    (pss_cons (ps_set (i := 4) nd rfl (.inl rfl) (pe_op op_modN (pe_op op_add (pe_op op_add (pe_op op_mul (pv 4) (pv 4))
        (pe_op op_mul pe_int (pv 4))) (pv 3)) pe_int))
    (pss_cons (ps_set (i := 4) nd rfl (.inl rfl) (pe_op op_modN (pe_op op_add (pe_op op_mul (pv 4) (pv 4)) (pe_op op_mul pe_int (pv 4))) pe_int))
    (pss_one (ps_ret (pe_op op_modN (pe_op op_fdivN (pv 4) pe_int) (pv 1))))))))), ?_⟩
  have L : SqL K H p [.int g, .int x, .int n] := SqL.of ep
  refine ⟨_, rfl, p, _, 0, .int g, rfl, rfl, L, atI_nat (j := 0) rfl, g, 0, rfl, rfl, _, rfl, ite2 (fun c => ?_) (fun c => ?_)⟩
  · refine ⟨_, rfl, p, _, 0, .int g, rfl, rfl, L, atI_nat (j := 0) rfl, _, rfl, g, m, rfl, rfl, by omega, ?_⟩
    refine ⟨_, rfl, p, _, 0, .int g, rfl, rfl, L, atI_nat (j := 0) rfl, _, rfl, g, m, rfl, rfl, ⟨by omega, by omega⟩, ?_⟩
    refine ⟨_, rfl, p, _, 0, 0, rfl, rfl, ep, rfl, ?_⟩
    refine ⟨_, rfl, ?_⟩
    obtain ⟨r0, r1⟩ := fmod_in g m0
    exact q _ _ r0 r1 (Feed.here (by omega) (by omega)) .at
  · refine ⟨_, rfl, p, _, 2, .int n, rfl, rfl, L, atI_nat (j := 2) rfl, n, 1, rfl, rfl, ?_⟩
    refine ⟨_, rfl, _, rfl, p, _, 2, 2, rfl, rfl, ep, rfl, ?_⟩
    have L2 : SqL K (upd H p (.lst [.int g, .int x, .int (n + 1)])) p [.int g, .int x, .int (n + 1)] := SqL.of upd_same
    refine ⟨_, rfl, p, _, 1, .int x, rfl, rfl, L2, atI_nat (j := 1) rfl, _, rfl, _, _, rfl, rfl, .inl ⟨by omega, by omega⟩, _, rfl, _, _, rfl, rfl, .inr ⟨by omega, by omega⟩, _, _, rfl, rfl,
      _, rfl, _, _, rfl, rfl, .inl ⟨by omega, by omega⟩, _, _, rfl, rfl, _, _, rfl, rfl, by omega, ?_⟩
    obtain ⟨a0, a1⟩ := fmod_in (x + 50021 * (n + 1) * (n + 1) + 39119 * (n + 1)) (b := 2147483629) (by omega)
    dsimp only
    generalize (x + 50021 * (n + 1) * (n + 1) + 39119 * (n + 1)).fmod 2147483629 = m1 at a0 a1 ⊢
    refine ⟨_, rfl, _, rfl, m1, m1, rfl, rfl, .inl ⟨by omega, by omega⟩, _, rfl, _, m1, rfl, rfl, .inl ⟨by omega, by omega⟩, _, _, rfl, rfl, _, rfl, _, _, rfl, rfl, _, _, rfl, rfl, by omega, ?_⟩
    obtain ⟨b0, b1⟩ := fmod_in (m1 * m1 + 62089 * m1 + (n + 1)) (b := 2147483587) (by omega)
    dsimp only
    generalize (m1 * m1 + 62089 * m1 + (n + 1)).fmod 2147483587 = m2 at b0 b1 ⊢
    refine ⟨_, rfl, _, rfl, m2, m2, rfl, rfl, .inl ⟨by omega, by omega⟩, _, rfl, _, m2, rfl, rfl, .inl ⟨by omega, by omega⟩, _, _, rfl, rfl, _, _, rfl, rfl, by omega, ?_⟩
    obtain ⟨c0, c1⟩ := fmod_in (m2 * m2 + 24593 * m2) (b := 2147483563) (by omega)
    dsimp only
    generalize (m2 * m2 + 24593 * m2).fmod 2147483563 = m3 at c0 c1 ⊢
    refine ⟨_, rfl, m3, 64, rfl, rfl, ⟨by omega, by omega⟩, _, rfl, _, m, rfl, rfl, by omega, ?_⟩
    obtain ⟨d0, d1⟩ := fmod_in (m3.fdiv 64) m0
    exact q _ _ d0 d1 (Feed.here (by omega) (by omega)) .at

/-- the seed of turn k -/
def spFeed (K : PySem.W.Frag) : Sp := fun vs H Q _ => ∃ (a : Addr) (ns : List Int) (k : Int), vs = [.ref a, .int k] ∧ SqL K H a (ns.map V.int) ∧
  0 ≤ k ∧ k ≤ 1000 ∧ ∀ (p : Addr) (fs : List V), H p = none → Feed (upd H p (.lst fs)) p 0 → Q (.ref p) (upd H p (.lst fs))
theorem ok_feed (F : Fun K "_law_feed" "_law_feed" sFeed f fd) (ml : mg "len" = none) (ma : mg "abs" = none) :
    FnOk P w K mg base CX0 1 f fd ["_law_script", "_law_k"] (spFeed K) := by
  refine F.ok scFeed (fun vs H Q E h => ?_) (fun cdv A outer s H vs Q E hr h => ?_)
  · obtain ⟨a, ns, k, rfl, _⟩ := h
    rfl
  obtain ⟨a, ns, k, rfl, hS, k0, k1, q⟩ := h
  have nd := scFeed.nd
  refine ⟨_, pss_cons (ps_set (i := 2) nd rfl (.inl rfl) pe_int)
    (C8.pss_cut (ps_if (pt_cmpR op_lt (pv 1) (pe_callB call_len_seq (by rfl) ml PySem.boot_len (pa_cons (pv 0) pa_nil)) (nomark _))
      (pss_one (ps_set (i := 2) nd rfl (.inl rfl) (pe_ix ix_list (pv 0) (pv 1) (fun _ _ => rfl)))) pss_nil)
    (pss_cons (ps_set (i := 3) nd rfl (.inl rfl) (pe_callB call_abs (by rfl) ma (by decide +kernel) (pa_cons (pv 2) pa_nil)))
    (C8.pss_cut (ps_if (pt_cmpR op_lt (pv 3) (pe_op op_pow pe_int pe_int) (nomark _))
      (pss_one (ps_set (i := 3) nd rfl (.inl rfl) pe_int)) pss_nil)
    (pss_one (ps_ret (pe_lst (pa_cons (pv 3) (pa_cons (pe_op op_modN (pe_op op_add (pe_op op_add (pe_op op_mul (pe_op op_modN (pv 2) pe_int) pe_int)
        (pe_op op_mul pe_int (pv 1))) pe_int) pe_int) (pa_cons pe_int pa_nil))))))))), ?_⟩
  refine ⟨fun σ' H' => H' = H ∧ ∃ c : Int, σ' = [some (.ref a), some (.int k), some (.int c), none], ?_, ?_⟩
  · refine ⟨_, rfl, _, rfl, a, _, rfl, .inl hS, _, _, rfl, rfl, _, rfl, ite2 (fun e => ?_) (fun e => ?_)⟩
    · have e' : k < ((ns.map V.int).length : Int) := of_decide_eq_true e
      rw [List.length_map] at e'
      have h2 : k.toNat < ns.length := by omega
      have g : atI (ns.map V.int) ((k.toNat : Nat) : Int) = some (.int ns[k.toNat]) :=
        atI_nat (by rw [List.getElem?_map, List.getElem?_eq_getElem h2] <;> rfl)
      rw [show ((k.toNat : Nat) : Int) = k by omega] at g
      exact ⟨_, rfl, _, rfl, a, _, k, _, rfl, rfl, hS, g, rfl, _, rfl⟩
    · exact ⟨rfl, _, rfl⟩
  rintro σ' H' ⟨rfl, c, rfl⟩
  refine ⟨_, rfl, c, rfl, ?_⟩
  refine ⟨fun σ' H2 => H2 = H' ∧ ∃ b : Int, σ' = [some (.ref a), some (.int k), some (.int c), some (.int b)], ?_, ?_⟩
  · refine ⟨_, rfl, 10, 18, rfl, rfl, ⟨by decide, by decide, by decide⟩, _, _, rfl, rfl, _, rfl, ite2 (fun e => ?_) (fun e => ?_)⟩
    · exact ⟨rfl, _, rfl⟩
    · exact ⟨rfl, _, rfl⟩
  rintro σ' H2 ⟨rfl, b, rfl⟩
  obtain ⟨a0, a1⟩ := fmod_in c (b := 2147483497) (by omega)
  refine ⟨_, rfl, _, rfl, c, _, rfl, rfl, by omega, _, _, rfl, rfl, .inl ⟨by omega, by omega⟩, _, rfl, _, k, rfl, rfl, .inl ⟨by omega, by omega⟩, _, _, rfl, rfl,
    _, _, rfl, rfl, _, _, rfl, rfl, by omega, (by show 3 ≤ sizeLine; decide), fun p hp => ?_⟩
  exact q p _ hp (Feed.here (by omega) (by omega))
end
end K24
end

section
set_option Elab.async false
set_option linter.all false
set_option maxRecDepth 100000
set_option maxHeartbeats 4000000
namespace K24
open PySem PySem.Spec PyProof.Rows L2 Gd Bx
abbrev sOf : Stmt := topS 1
abbrev sMet : Stmt := topS 2
abbrev sLeft : Stmt := topS 3
theorem scLeft : FnScope ["sizes", "slabs", "rest", "source", "many"] ["sizes", "slabs"] (defScope sLeft) :=
  ⟨rfl, rfl, rfl, by decide +kernel, rfl, by decide +kernel, by decide +kernel⟩
def spLeft (K : PySem.W.Frag) : Sp := fun vs H Q _ => ∃ (a b : Addr) (r : List Int) (ss : List Slab), vs = [.ref a, .ref b] ∧ SqL K H a (r.map V.int) ∧ SlabsAt K H b ss ∧ Fine r.length ss ∧
  ∀ l H', Same H H' → H l = none → H' l = some (.lst ((lft r ss).map V.int)) → Q (.ref l) H'
theorem lft_take {ss : List Slab} {r : List Int} {i : Nat} {s : Slab} (h : ss[i]? = some s) : lft r (ss.take (i + 1)) = red (lft r (ss.take i)) s := by
  rw [take_at h, lft_snoc]
theorem fine_at {n : Nat} {ss : List Slab} {i : Nat} {s : Slab} (f : Fine n ss) (h : ss[i]? = some s) : s.1 < n ∧ 1 ≤ s.2 := f s (List.mem_of_getElem? h)
section
variable {P : Program} {w : World} {K : PySem.W.Frag} {mg : Str → Option Value} {base : Heap} {f : Addr} {fd : FuncData}
theorem ok_left (F : Fun K "left" "left" sLeft f fd) (ml : mg "list" = none) : FnOk P w K mg base CX0 1 f fd ["sizes", "slabs"] (spLeft K) := by
  refine F.ok scLeft (fun vs H Q E h => ?_) (fun cdv A outer s H vs Q E hr h => ?_)
  · obtain ⟨a, b, r, ss, rfl, _⟩ := h
    rfl
  obtain ⟨a, b, r, ss, rfl, ha, hb, hf, q⟩ := h
  have nd := scLeft.nd
  refine ⟨_, pss_cons (ps_set (i := 2) nd rfl (.inl rfl) (pe_callTy call_list_of (by rfl) ml (by decide +kernel) (pa_cons (pv 0) pa_nil)))
    (pss_cons (ps_for PassesOwn.never rfl (pi_list (pv 1)) (pg_tup rfl (pgs_cons (pg_name (i := 3) nd rfl (.inl rfl)) (pgs_cons (pg_name (i := 4) nd rfl (.inl rfl)) pgs_nil)))
      (pss_one (ps_augS (pv 2) (pv 3) get_list (pv 4) ip_sub set_list)))
    (pss_one (ps_ret (pv 2)))), ?_⟩
  refine ⟨_, rfl, a, _, rfl, .inl ha, fun l nl => ?_⟩
  obtain ⟨bs, hbs, lb, tb⟩ := hb
  refine ⟨_, rfl, b, rfl, ⟨_, (new_same nl).seq hbs⟩, ?_⟩
  refine for_it walk_list (fun i σ H1 => Same H H1 ∧ H1 l = some (.lst ((lft r (ss.take i)).map V.int)) ∧ ∃ x y, σ = [some (.ref a), some (.ref b), some (.ref l), x, y])
    ⟨new_same nl, upd_same, none, none, rfl⟩ (fun i σ H1 _ h => h.1.seq hbs) ?_ ?_
  · rintro i x σ H1 H2 hi ⟨s1, el, x0, y0, rfl⟩ ⟨rfl, ex⟩
    obtain ⟨b1, e1, rfl⟩ := map_at ex
    obtain ⟨t, et⟩ := at_of lb.symm (at_lt e1)
    obtain ⟨t1, t2⟩ := fine_at hf et
    have tt := same_tup s1 (tb i b1 t e1 et)
    have ll : (lft r (ss.take i)).length = r.length := lft_len
    refine ⟨b1, _, rfl, tt, rfl, _, _, rfl, _, _, rfl, rfl, ?_⟩
    refine ⟨_, rfl, _, rfl, l, _, t.1, _, rfl, rfl, SqL.of el, ints_at (by omega), ?_⟩
    refine ⟨_, rfl, _, _, rfl, rfl, ?_⟩
    refine ⟨l, _, _, t.1, rfl, rfl, el, ixN_nat (by rw [List.length_map]; omega), ?_⟩
    refine ⟨own_same nl s1, ?_, _, _, rfl⟩
    rw [lft_take et, upd_same, map_set]
    rfl
  · rintro σ H1 ⟨s1, el, x0, y0, rfl⟩
    refine ⟨_, rfl, q l H1 s1 nl ?_⟩
    rw [el, List.length_map, lb, List.take_length]

/-! slab_of -/
theorem walk_TL {a b : Addr} {xs ys : List V} {n : Nat} (hx : xs.length = n) (hy : ys.length = n) :
    Walk (ItTL K a b) n (fun H => SqT K H a xs ∧ SqL K H b ys) (YPair (fun i => xs[i]?) (fun i => ys[i]?)) := by
  subst hx
  refine ⟨fun i _ hi q => ?_, fun _ q => ⟨xs, ys, q.1, q.2, hy, rfl⟩, fun i H v H' _ q y => ?_⟩
  · have h2 : i < ys.length := by omega
    exact ⟨xs, ys, xs[i], ys[i], q.1, q.2, List.getElem?_eq_getElem hi, List.getElem?_eq_getElem h2⟩
  · obtain ⟨T, x, z, h1, h2, h3, h4, h5⟩ := y
    exact ⟨T, x, z, h1, h2, h3, h4 xs q.1, h5 ys q.2⟩
def oi : Option Nat → V
  | none => .non
  | some k => .int (k : Nat)
def spOf (K : PySem.W.Frag) : Sp := fun vs H Q _ => ∃ (b t : Addr) (c : List Int) (ss : List Slab), vs = [.ref b, .ref t] ∧ SlabsAt K H b ss ∧ SqT K H t (c.map V.int) ∧ Fine c.length ss ∧ c.length ≤ 100 ∧
  ∀ H', Same H H' → Q (oi (slabOf (List.replicate c.length 0) ss c 0)) H'
theorem slabOf_step {ss : List Slab} {i : Nat} {s : Slab} {d c : List Int} (h : ss[i]? = some s) :
    slabOf d (ss.drop i) c i = if hit d s c then some i else slabOf (adv d s) (ss.drop (i + 1)) c (i + 1) := by
  have lt := at_lt h
  have e : ss[i] = s := by
    rw [List.getElem?_eq_getElem lt] at h
    exact Option.some.inj h
  rw [List.drop_eq_getElem_cons lt, e]
  unfold slabOf
  rw [hits]
  split <;> rfl
def sign (p : Int × Int) : Bool := decide (p.2 ≤ p.1)
theorem zip_at {c d : List Int} {i : Nat} (hc : i < c.length) (hd : i < d.length) : (c.zip d)[i]? = some (c.getD i 0, d.getD i 0) := by
  rw [List.getElem?_zip_eq_some]
  exact ⟨getD_at hc, getD_at hd⟩
abbrev nOf : List Str := ["slabs", "positions", "done", "number", "source", "many", "yet", "position", "first"]
theorem scOf : FnScope nOf ["slabs", "positions"] (defScope sOf) :=
  ⟨rfl, rfl, rfl, by decide +kernel, rfl, by decide +kernel, by decide +kernel⟩
theorem ok_of (F : Fun K "slab_of" "slab_of" sOf f fd) (me : mg "enumerate" = none) (ma : mg "all" = none) (mz : mg "zip" = none) : FnOk P w K mg base CX0 1 f fd ["slabs", "positions"] (spOf K) := by
  refine F.ok scOf (fun vs H Q E h => ?_) (fun cdv A outer s H vs Q E hr h => ?_)
  · obtain ⟨a, b, r, ss, rfl, _⟩ := h
    rfl
  obtain ⟨b, t, c, ss, rfl, hb, ht, hf, hc, q⟩ := h
  have nd := scOf.nd
  have zl : sizeLine = 16777216 := rfl
  refine ⟨_, pss_cons (ps_setLc (i := 2) (own := [("position", 7)]) (g := gName 7) (tt := tYes) rfl nd rfl rfl (by rfl) (pi_tup (pv 1)) (blkOk_by (N := nOf) (sc := defScope sOf) (by decide +kernel))
        (fun _ _ _ _ _ => pg_name (i := 7) nd rfl (Or.inl rfl)) (fun _ _ _ _ _ => pts_nil) (fun _ _ _ _ _ => pe_int))
    (pss_cons (ps_for PassesOwn.never rfl (pi_enum (by rfl) me (pa_cons (pv 0) pa_nil))
        (pg_tup rfl (pgs_cons (pg_name (i := 3) nd rfl (.inl rfl)) (pgs_cons (pg_tup rfl (pgs_cons (pg_name (i := 4) nd rfl (.inl rfl)) (pgs_cons (pg_name (i := 5) nd rfl (.inl rfl)) pgs_nil))) pgs_nil)))
      (pss_cons (ps_set (i := 6) nd rfl (.inl rfl) (pe_callB (cr_all rfl) (by rfl) ma (by decide +kernel) (pa_cons
          (pe_lc (own := [("position", 7), ("first", 8)]) (g := gTup K 2 (gCons (gName 7) (gCons (gName 8) gNil))) (tt := tYes) rfl nd (pi_TL (by rfl) mz (pa_cons (pv 1) (pa_cons (pv 2) pa_nil))) (blkOk_by (N := nOf) (sc := defScope sOf) (by decide +kernel))
            (fun _ _ _ _ _ => by exact pg_tup rfl (pgs_cons (pg_name (i := 7) nd rfl (Or.inl rfl)) (pgs_cons (pg_name (i := 8) nd rfl (Or.inl rfl)) pgs_nil)))
            (fun _ _ _ _ _ => pts_nil) (fun _ _ _ _ _ => pe_cmpR op_ge (pv 7) (pv 8) (nomark _))) pa_nil)))
      (pss_cons (ps_augS (pv 2) (pv 4) get_list (pv 5) ip_add set_list)
      (pss_one (ps_if (PW.pt (pw_and (pt_val (pv 6)) (pw_and1 (pt_cmpR op_lt (pe_ix ix_tup (pv 1) (pv 4) (fun _ _ => rfl)) (pe_ix ix_list (pv 2) (pv 4) (fun _ _ => rfl)) (nomark _)))))
        (pss_one (ps_ret (pv 3))) pss_nil)))))
    (pss_one (ps_ret pe_non))), ?_⟩
  refine ⟨_, rfl, t, rfl, ⟨_, ht⟩, fun l nl => ?_⟩
  refine lc_it walk_tup (fun i H1 => Same H H1 ∧ H1 l = some (.lst ((List.replicate i (0 : Int)).map V.int))) ⟨new_same nl, upd_same⟩ (fun i H1 _ h => same_tup h.1 ht) ?_ ?_
  · rintro i x H1 H2 hi ⟨s1, el⟩ ⟨rfl, ex⟩
    refine ⟨rfl, ?_⟩
    refine ⟨_, el, by rw [List.length_map] at hi; rw [List.length_map, List.length_replicate]; omega, own_same nl s1, ?_⟩
    rw [upd_same, List.replicate_succ', List.map_append]
    rfl
  rintro H1 ⟨s1, el⟩
  rw [List.length_map] at el
  obtain ⟨bs, hbs, lb, tb⟩ := hb
  refine ⟨_, rfl, b, _, rfl, s1.seq hbs, ?_⟩
  refine for_it walk_enum (fun i σ H2 => Same H H2 ∧ (∃ d : List Int, H2 l = some (.lst (d.map V.int)) ∧ d.length = c.length ∧ slabOf (List.replicate c.length 0) ss c 0 = slabOf d (ss.drop i) c i) ∧
      ∃ y3 y4 y5 y6 y7 y8, σ = [some (.ref b), some (.ref t), some (.ref l), y3, y4, y5, y6, y7, y8])
    ⟨s1, ⟨_, el, List.length_replicate, rfl⟩, none, none, none, none, none, none, rfl⟩ (fun i σ H2 _ h => h.1.seq hbs) ?_ ?_
  · rintro i x σ H2 H3 hi ⟨s2, ⟨d, ed, ld, hd⟩, y3, y4, y5, y6, y7, y8, rfl⟩ ⟨T, x1, x2, rfl, nT, rfl, ei, ex⟩
    cases ei
    obtain ⟨b1, e1, rfl⟩ := map_at ex
    obtain ⟨u, eu⟩ := at_of lb.symm (at_lt e1)
    obtain ⟨u1, u2⟩ := fine_at hf eu
    have j3 := new_same (o := .tup [.int ((i : Nat) : Int), .ref b1]) nT
    have s3 := s2.trans j3
    have tt := same_tup s3 (tb i b1 u e1 eu)
    refine ⟨T, _, rfl, SqT.of upd_same, rfl, _, _, rfl, _, _, rfl, ⟨b1, _, rfl, tt, rfl, _, _, rfl, _, _, rfl, rfl, ?_⟩⟩
    have ed3 := j3 _ _ ed
    refine ⟨rfl, ?_⟩
    generalize upd H2 T (.tup [.int ((i : Nat) : Int), .ref b1]) = H4 at j3 s3 tt ed3 ⊢
    refine ⟨_, rfl, _, rfl, t, l, _, _, rfl, same_tup s3 ht, SqL.of ed3, by rw [List.length_map, List.length_map, ld], fun m nm => ?_⟩
    refine lc_it (walk_TL (n := c.length) (List.length_map ..) (by rw [List.length_map, ld])) (fun i H5 => Same H4 H5 ∧ H5 m = some (.lst ((((c.zip d).map sign).take i).map V.bl))) ⟨new_same nm, by rw [List.take_zero]; exact upd_same⟩
      (fun i H5 _ h => ⟨same_tup (s3.trans h.1) ht, h.1.seq (SqL.of ed3)⟩) ?_ ?_
    · rintro j x H5 H6 hj ⟨s5, em⟩ ⟨T2, x1, x2, rfl, nT2, rfl, ea, eb⟩
      have ea := (ints_at (l := c) hj).symm.trans ea
      have eb := (ints_at (l := d) (i := j) (by omega)).symm.trans eb
      cases ea
      cases eb
      have j6 := new_same (o := .tup [.int (c.getD j 0), .int (d.getD j 0)]) nT2
      have em6 := j6 _ _ em
      refine ⟨T2, _, rfl, SqT.of upd_same, rfl, _, _, rfl, _, _, rfl, rfl, rfl, ?_⟩
      refine ⟨_, rfl, _, rfl, _, _, rfl, rfl, _, em6, ?_, own_same nm (s5.trans j6), ?_⟩
      · rw [List.length_map, List.length_take]
        omega
      · rw [upd_same, take_at (x := sign (c.getD j 0, d.getD j 0)) (by rw [List.getElem?_map, zip_at hj (by omega)] <;> rfl), List.map_append]
        rfl
    rintro H5 ⟨s5, em⟩
    have lz : ((c.zip d).map sign).length = c.length := by rw [List.length_map, List.length_zip]; omega
    rw [← lz, List.take_length] at em
    refine ⟨m, _, rfl, SqL.of em, ?_⟩
    have eg : ((c.zip d).map sign).all id = ge c d := by
      rw [List.all_map]
      rfl
    rw [eg]
    have s35 := s3.trans s5
    have ed5 := s5 _ _ ed3
    refine ⟨_, rfl, _, rfl, l, _, u.1, _, rfl, rfl, SqL.of ed5, ints_at (by omega), ?_⟩
    refine ⟨_, rfl, _, _, rfl, rfl, ?_⟩
    refine ⟨l, _, _, u.1, rfl, rfl, ed5, ixN_nat (by rw [List.length_map]; omega), ?_⟩
    have e6 : upd H5 l (.lst ((d.map V.int).set u.1 (.int (d.getD u.1 0 + u.2)))) l = some (.lst ((adv d u).map V.int)) := by
      rw [upd_same, map_set]
      rfl
    have s6 := own_same (o := .lst ((d.map V.int).set u.1 (.int (d.getD u.1 0 + u.2)))) nl s35
    have hst := slabOf_step (d := d) (c := c) eu
    have la : (adv d u).length = c.length := by rw [adv_len, ld]
    have on : hit d u c = false → (Same H (upd H5 l (.lst ((d.map V.int).set u.1 (.int (d.getD u.1 0 + u.2))))) ∧ (∃ d' : List Int, upd H5 l (.lst ((d.map V.int).set u.1 (.int (d.getD u.1 0 + u.2)))) l = some (.lst (d'.map V.int)) ∧ d'.length = c.length ∧
        slabOf (List.replicate c.length 0) ss c 0 = slabOf d' (ss.drop (i + 1)) c (i + 1))) := fun e => by
      refine ⟨s6, adv d u, e6, la, ?_⟩
      rw [hd, hst, e] <;> rfl
    have up : d.getD u.1 0 + u.2 = (adv d u).getD u.1 0 := by rw [adv_at (by omega), if_pos rfl]
    refine ⟨_, rfl, _, rfl, ite2 (fun g => ?_) (fun g => ?_)⟩
    · refine ⟨_, rfl, _, rfl, t, _, _, _, rfl, rfl, same_tup s6 ht, ints_atI u1, _, rfl, _, rfl, l, _, _, _, rfl, rfl, SqL.of e6, ints_atI (by omega), _, _, rfl, rfl, _, rfl, ite2 (fun lt => ?_) (fun lt => ?_)⟩
      · have lt := of_decide_eq_true lt
        refine ⟨_, rfl, ?_⟩
        have z := q _ s6
        rw [hd, hst, if_pos (by unfold hit; rw [g, up, decide_eq_true lt] <;> rfl)] at z
        exact z
      · have lt := of_decide_eq_false (Bool.eq_false_iff.mpr lt)
        obtain ⟨a1, a2⟩ := on (by unfold hit; rw [up, decide_eq_false lt, Bool.and_false])
        exact ⟨a1, a2, _, _, _, _, _, _, rfl⟩
    · obtain ⟨a1, a2⟩ := on (by unfold hit; rw [Bool.eq_false_iff.mpr g, Bool.false_and])
      exact ⟨a1, a2, _, _, _, _, _, _, rfl⟩
  · rintro σ H2 ⟨s2, ⟨d, ed, ld, hd⟩, y3, y4, y5, y6, y7, y8, rfl⟩
    have z := q _ s2
    rw [List.length_map, lb, List.drop_length] at hd
    rw [hd] at z
    exact z
end
end K24
end

section
set_option Elab.async false
set_option linter.all false
set_option maxRecDepth 100000
set_option maxHeartbeats 4000000
namespace K24
open PySem PySem.Spec PyProof.Rows L2 Gd Bx
abbrev nMet : List Str := ["sizes", "slabs", "rest", "met", "source", "many", "choices", "other", "rows"]
theorem scMet : FnScope nMet ["sizes", "slabs"] (defScope sMet) :=
  ⟨rfl, rfl, rfl, by decide +kernel, rfl, by decide +kernel, by decide +kernel⟩
def spMet (K : PySem.W.Frag) : Sp := fun vs H Q _ => ∃ (a b : Addr) (r : List Int) (ss : List Slab), vs = [.ref a, .ref b] ∧ SqL K H a (r.map V.int) ∧ SlabsAt K H b ss ∧ In 1000000 r ∧ Leg0 r ss ∧ ss.length ≤ 100000 ∧
  ∀ l H', Same H H' → H l = none → H' l = some (.lst ((mets r ss).map V.int)) → Q (.ref l) H'
theorem mets_take {ss : List Slab} {r : List Int} {i : Nat} {s : Slab} (h : ss[i]? = some s) : mets r (ss.take (i + 1)) = mets r (ss.take i) ++ [cnt (lft r (ss.take i)) s] := by
  rw [take_at h, mets_snoc]
section
variable {P : Program} {w : World} {K : PySem.W.Frag} {mg : Str → Option Value} {base : Heap} {f : Addr} {fd : FuncData}
theorem ok_met (F : Fun K "met_by" "met_by" sMet f fd) (ml : mg "list" = none) (me : mg "enumerate" = none) : FnOk P w K mg base CX0 1 f fd ["sizes", "slabs"] (spMet K) := by
  refine F.ok scMet (fun vs H Q E h => ?_) (fun cdv A outer s H vs Q E hr h => ?_)
  · obtain ⟨a, b, r, ss, rfl, _⟩ := h
    rfl
  obtain ⟨a, b, r, ss, rfl, ha, hb, hB, hL, hlen, q⟩ := h
  have nd := scMet.nd
  have zl : sizeLine = 16777216 := rfl
  refine ⟨_, pss_cons (ps_set (i := 2) nd rfl (.inl rfl) (pe_callTy call_list_of (by rfl) ml (by decide +kernel) (pa_cons (pv 0) pa_nil)))
    (pss_cons (ps_set (i := 3) nd rfl (.inl rfl) (pe_lst pa_nil))
    (pss_cons (ps_for PassesOwn.never rfl (pi_list (pv 1)) (pg_tup rfl (pgs_cons (pg_name (i := 4) nd rfl (.inl rfl)) (pgs_cons (pg_name (i := 5) nd rfl (.inl rfl)) pgs_nil)))
      (pss_cons (ps_set (i := 6) nd rfl (.inl rfl) (pv 5))
      (pss_cons (ps_for PassesOwn.never rfl (pi_enum (by rfl) me (pa_cons (pv 2) pa_nil)) (pg_tup rfl (pgs_cons (pg_name (i := 7) nd rfl (.inl rfl)) (pgs_cons (pg_name (i := 8) nd rfl (.inl rfl)) pgs_nil)))
        (pss_one (ps_if (pt_cmpR op_ne (pv 7) (pv 4) (nomark _)) (pss_one (ps_set (i := 6) nd rfl (.inl rfl) (pe_op op_mul (pv 6) (pv 8)))) pss_nil)))
      (pss_cons (ps_expr (pe_bm PySem.F.plainAttrs_list PySem.F.slot_list_append PySem.F.type_list_append mt_append (pv 3) (pa_cons (pv 6) pa_nil)))
      (pss_one (ps_augS (pv 2) (pv 4) get_list (pv 5) ip_sub set_list))))))
    (pss_one (ps_ret (pv 3))))), ?_⟩
  refine ⟨_, rfl, a, _, rfl, .inl ha, fun l nl => ?_⟩
  have s0 := new_same (o := .lst (r.map V.int)) nl
  refine ⟨by decide, fun m nm => ?_⟩
  have nml : m ≠ l := fun e => by rw [e, upd_same] at nm; cases nm
  have nm0 : H m = none := s0.free nm
  obtain ⟨bs, hbs, lb, tb⟩ := hb
  have s1 := s0.trans (new_same (o := .lst []) nm)
  refine ⟨_, rfl, b, rfl, ⟨_, s1.seq hbs⟩, ?_⟩
  refine for_it walk_list (fun i σ H1 => Same H H1 ∧ H1 l = some (.lst ((lft r (ss.take i)).map V.int)) ∧ H1 m = some (.lst ((mets r (ss.take i)).map V.int)) ∧
      ∃ y4 y5 y6 y7 y8, σ = [some (.ref a), some (.ref b), some (.ref l), some (.ref m), y4, y5, y6, y7, y8])
    ⟨s1, ?_, upd_same, none, none, none, none, none, rfl⟩ (fun i σ H1 _ h => h.1.seq hbs) ?_ ?_
  · rw [upd_ne nml.symm]
    exact upd_same
  · rintro i x σ H1 H2 hi ⟨s1, el, em, y4, y5, y6, y7, y8, rfl⟩ ⟨rfl, ex⟩
    obtain ⟨b1, e1, rfl⟩ := map_at ex
    obtain ⟨t, et⟩ := at_of lb.symm (at_lt e1)
    obtain ⟨hI, t1, t2, t3⟩ := Leg0.at_ hB hL et
    have tt := same_tup s1 (tb i b1 t e1 et)
    have i_lt := at_lt et
    refine ⟨b1, _, rfl, tt, rfl, _, _, rfl, _, _, rfl, rfl, ?_⟩
    refine ⟨_, rfl, ?_⟩
    refine ⟨_, rfl, l, _, rfl, SqL.of el, ?_⟩
    generalize hR : lft r (ss.take i) = R at *
    refine for_it walk_enum (fun j σ H3 => Same H2 H3 ∧ ∃ y7 y8, σ = [some (.ref a), some (.ref b), some (.ref l), some (.ref m), some (.int ((t.1 : Nat) : Int)), some (.int t.2), some (.int (t.2 * oth R t.1 j)), y7, y8])
      ⟨fun _ _ e => e, _, _, by rw [oth_zero, Int.mul_one] <;> rfl⟩ (fun j σ H3 _ h => h.1.seq (SqL.of el)) ?_ ?_
    · rintro j x σ H3 H4 hj ⟨s3, y7, y8, rfl⟩ ⟨T, x1, x2, rfl, nT, rfl, ei, ej⟩
      cases ei
      rw [List.length_map] at hj
      have ej := (ints_at hj).symm.trans ej
      cases ej
      have hx := hI _ (Bx.getD_mem hj)
      refine ⟨T, _, rfl, SqT.of upd_same, rfl, _, _, rfl, _, _, rfl, rfl, ?_⟩
      refine ⟨_, rfl, _, rfl, rfl, _, rfl, ite2 (fun e => ?_) (fun e => ?_)⟩
      · have ne : ¬ j = t.1 := fun z => by
          subst z
          simp at e
        refine ⟨_, rfl, _, rfl, _, _, rfl, rfl, .inr ⟨by omega, by omega⟩, ?_⟩
        refine ⟨s3.trans (new_same nT), some (.int ((j : Nat) : Int)), some (.int (R.getD j 0)), ?_⟩
        rw [oth_at hj, if_neg ne, ← Int.mul_assoc]
        rfl
      · have ne : j = t.1 := by
          by_cases z : j = t.1
          · exact z
          · exfalso
            refine e ?_
            rw [decide_eq_false (fun y => z (by have := V.int.inj y; omega))] <;> rfl
        refine ⟨s3.trans (new_same nT), some (.int ((j : Nat) : Int)), some (.int (R.getD j 0)), ?_⟩
        rw [oth_at hj, if_pos ne]
        rfl
    · rintro σ H3 ⟨s3, y7, y8, rfl⟩
      rw [List.length_map, oth_all]
      have em3 := s3 _ _ em
      have el3 := s3 _ _ el
      refine ⟨_, rfl, .inl ⟨rfl, _, SqL.of em3⟩, _, rfl, m, _, _, rfl, rfl, em3, ?_, ?_⟩
      · rw [List.length_map, mets_len, List.length_take]
        omega
      have s4 := own_same (o := .lst ((mets r (ss.take i)).map V.int ++ [.int (t.2 * prod (R.set t.1 1))])) nm0 (s1.trans s3)
      have el4 : upd H3 m (.lst ((mets r (ss.take i)).map V.int ++ [.int (t.2 * prod (R.set t.1 1))])) l = some (.lst (R.map V.int)) := by
        rw [upd_ne nml.symm]
        exact el3
      refine ⟨_, rfl, _, rfl, l, _, t.1, _, rfl, rfl, SqL.of el4, ints_at (by omega), ?_⟩
      refine ⟨_, rfl, _, _, rfl, rfl, ?_⟩
      refine ⟨l, _, _, t.1, rfl, rfl, el4, ixN_nat (by rw [List.length_map]; omega), ?_⟩
      refine ⟨own_same nl s4, ?_, ?_, _, _, _, _, _, rfl⟩
      · rw [lft_take et, hR, upd_same, map_set]
        rfl
      · rw [upd_ne nml, upd_same, mets_take et, hR, List.map_append]
        rfl
  · rintro σ H1 ⟨s1, el, em, y4, y5, y6, y7, y8, rfl⟩
    refine ⟨_, rfl, q m H1 s1 nm0 ?_⟩
    rw [em, List.length_map, lb, List.take_length]

end
end K24
end

section
set_option Elab.async false
set_option linter.all false
set_option maxRecDepth 100000
set_option maxHeartbeats 4000000
namespace K24
open PySem PySem.Spec PyProof.Rows L2 Gd Bx
/-- slabs in a list that is tracked -/
def SlabsL (K : PySem.W.Frag) (H : Hp) (a : Addr) (ss : List Slab) : Prop :=
  ∃ bs : List Addr, H a = some (.lst (bs.map V.ref)) ∧ bs.length = ss.length ∧ ∀ (i : Nat) (b : Addr) (s : Nat × Int), bs[i]? = some b → ss[i]? = some s → SqT K H b [.int (s.1 : Nat), .int s.2]
theorem SlabsL.at_ {K : PySem.W.Frag} {H : Hp} {a : Addr} {ss : List Slab} (h : SlabsL K H a ss) : SlabsAt K H a ss := by
  obtain ⟨bs, h1, h2, h3⟩ := h
  exact ⟨bs, SqL.of h1, h2, h3⟩
theorem SlabsL.tups {K : PySem.W.Frag} {H H' : Hp} {a : Addr} {ss : List Slab} (h : SlabsL K H a ss) (t : Tups K H H') (e : H' a = H a) : SlabsL K H' a ss := by
  obtain ⟨bs, h1, h2, h3⟩ := h
  exact ⟨bs, e.trans h1, h2, fun i b s e1 e2 => t _ _ (h3 i b s e1 e2)⟩
theorem SlabsL.drawn {K : PySem.W.Frag} {H H' : Hp} {p a : Addr} {S : Int} {ss : List Slab} (h : SlabsL K H a ss) (F : Feed H p S) (n : a ≠ p) (x : Ex1 p H H') : SlabsL K H' a ss := by
  obtain ⟨bs, h1, h2, h3⟩ := h
  exact ⟨bs, x _ _ n h1, h2, fun i b s e1 e2 => ex1_tup F x (h3 i b s e1 e2)⟩
theorem snoc_at {α : Type} {xs : List α} {x y : α} {i : Nat} (h : (xs ++ [x])[i]? = some y) : xs[i]? = some y ∨ (i = xs.length ∧ y = x) := by
  rw [List.getElem?_append] at h
  by_cases c : i < xs.length
  · rw [if_pos c] at h
    exact .inl h
  · rw [if_neg c] at h
    have e : i - xs.length = 0 := by
      cases z : i - xs.length with
      | zero => rfl
      | succ n => rw [z] at h; simp at h
    rw [e] at h
    exact .inr ⟨by omega, (Option.some.inj h).symm⟩
/-- found.append((k, g)) -/
theorem SlabsL.push {K : PySem.W.Frag} {H : Hp} {a b : Addr} {ss : List Slab} {k : Nat} {g : Int} (h : SlabsL K H a ss) (nb : H b = none) :
    ∃ xs : List V, upd H b (.tup [.int (k : Nat), .int g]) a = some (.lst xs) ∧ xs.length = ss.length ∧
      SlabsL K (upd (upd H b (.tup [.int (k : Nat), .int g])) a (.lst (xs ++ [.ref b]))) a (ss ++ [(k, g)]) := by
  obtain ⟨bs, h1, h2, h3⟩ := h
  have ne : a ≠ b := ne_of_none h1 nb
  have e1 : upd H b (.tup [.int (k : Nat), .int g]) a = some (.lst (bs.map V.ref)) := by
    rw [upd_ne ne]
    exact h1
  refine ⟨_, e1, by rw [List.length_map, h2], bs ++ [b], ?_, by simp [h2], ?_⟩
  · rw [upd_same, List.map_append]
    rfl
  · intro i c s ec es
    have T := Tups.upd_lst (K := K) (ys := bs.map V.ref ++ [.ref b]) e1
    rcases snoc_at ec with ec | ⟨ei, ec⟩
    · rcases snoc_at es with es | ⟨ej, es⟩
      · exact T _ _ (same_tup (new_same nb) (h3 i c s ec es))
      · have := at_lt ec
        omega
    · rcases snoc_at es with es | ⟨ej, es⟩
      · have := at_lt es
        omega
      · rw [ec, es]
        exact T _ _ (SqT.of upd_same)
section
variable {K : PySem.W.Frag} {H : Hp} {a : Addr}
theorem SlabsL.same {H' : Hp} {ss : List Slab} (h : SlabsL K H a ss) (s : Same H H') : SlabsL K H' a ss := by
  obtain ⟨bs, h1, h2, h3⟩ := h
  exact ⟨bs, s _ _ h1, h2, fun i b t e1 e2 => same_tup s (h3 i b t e1 e2)⟩
end
theorem walk_upto {n : Nat} : Walk (Itr 0 n) n (fun _ => True) (YFn fun i => .int ((i : Nat) : Int)) :=
  walk_range.mono (fun _ _ => trivial) (fun i H x H' _ _ y => ⟨y.1, y.2.trans (by show V.int (0 + ((i : Nat) : Int)) = V.int ((i : Nat) : Int); rw [Int.zero_add])⟩)
/-- choices in a list, each a tuple that is tracked -/
def ChoicesT (H : Hp) (a : Addr) (cs : List (List Int)) : Prop :=
  ∃ bs : List Addr, H a = some (.lst (bs.map V.ref)) ∧ bs.length = cs.length ∧ ∀ (i : Nat) (b : Addr) (c : List Int), bs[i]? = some b → cs[i]? = some c → H b = some (.tup (c.map V.int))
theorem ChoicesT.same {H H' : Hp} {a : Addr} {cs : List (List Int)} (h : ChoicesT H a cs) (s : Same H H') : ChoicesT H' a cs := by
  obtain ⟨bs, h1, h2, h3⟩ := h
  exact ⟨bs, s _ _ h1, h2, fun i b c e1 e2 => s _ _ (h3 i b c e1 e2)⟩
/-- l.append(b), l.extend(b): what stands at l is another list -/
theorem ChoicesT.grown {H : Hp} {a : Addr} {xs ys : List V} {cs ds : List (List Int)} {b2 : List Addr} (h : ChoicesT H a cs) (ex : H a = some (.lst xs)) (ey : ys = b2.map V.ref) (l2 : b2.length = ds.length)
    (h2 : ∀ (i : Nat) (b : Addr) (c : List Int), b2[i]? = some b → ds[i]? = some c → H b = some (.tup (c.map V.int))) : ChoicesT (upd H a (.lst (xs ++ ys))) a (cs ++ ds) := by
  obtain ⟨b1, p1, q1, r1⟩ := h
  rw [p1] at ex
  cases ex
  subst ey
  have at1 : ∀ {b : Addr} {c : List Int}, H b = some (.tup (c.map V.int)) → upd H a (.lst (b1.map V.ref ++ b2.map V.ref)) b = some (.tup (c.map V.int)) := fun {b c} e => by
    rw [upd_ne (ne_of e p1 (fun z => nomatch z))]
    exact e
  refine ⟨b1 ++ b2, by rw [upd_same, List.map_append], by rw [List.length_append, List.length_append, q1, l2], fun i b c eb ec => ?_⟩
  rw [List.getElem?_append] at eb ec
  rw [q1] at eb
  by_cases cc : i < cs.length
  · rw [if_pos cc] at eb ec
    exact at1 (r1 i b c eb ec)
  · rw [if_neg cc] at eb ec
    exact at1 (h2 _ b c eb ec)
end K24
end

section
set_option Elab.async false
set_option linter.all false
set_option maxRecDepth 100000
set_option maxHeartbeats 4000000
namespace K24
open PySem PySem.Spec PyProof.Rows L2 Gd Bx
abbrev sFew : Stmt := topS 7
abbrev sSome : Stmt := topS 8
abbrev sChoices : Stmt := topS 9
theorem scFew : FnScope ["_law_feed_here", "_law_k"] ["_law_feed_here"] (defScope sFew) := ⟨rfl, rfl, rfl, by decide +kernel, rfl, by decide +kernel, by decide +kernel⟩
/-- sizes as the law draws them -/
structure Szs (z : List Int) : Prop where
  l1 : 1 ≤ z.length
  l3 : z.length ≤ 3
  one : ∀ x ∈ z, 1 ≤ x
  top : ∀ x ∈ z, x ≤ 60
  few : z.length = 1 ∨ ∀ x ∈ z, x ≤ 6
theorem Szs.in60 {z : List Int} (h : Szs z) : In 60 z := fun x hx => ⟨by have := h.one x hx; omega, h.top x hx⟩
theorem Szs.many {z : List Int} (h : Szs z) (i : Nat) : (allC (z.take i)).length ≤ 300 := by
  rcases h.few with e | e
  · have a := allC_len (B := 60) (z.take i) (fun x hx => h.top x (List.mem_of_mem_take hx))
    have l : (z.take i).length ≤ 1 := by rw [List.length_take]; omega
    have p : 60 ^ (z.take i).length ≤ 60 ^ 1 := Nat.pow_le_pow_right (by omega) l
    omega
  · have a := allC_len (B := 6) (z.take i) (fun x hx => e x (List.mem_of_mem_take hx))
    have l : (z.take i).length ≤ 3 := by rw [List.length_take]; have := h.l3; omega
    have p : 6 ^ (z.take i).length ≤ 6 ^ 3 := Nat.pow_le_pow_right (by omega) l
    omega
def spFew : Sp := fun vs H Q _ => ∃ (p : Addr) (S : Int), vs = [.ref p] ∧ Feed H p S ∧ S ≤ 100000000 ∧
  ∀ (l : Addr) (z : List Int) (H' : Hp), Ex1 p H H' → Feed H' p (S + 8) → H l = none → H' l = some (.lst (z.map V.int)) → Szs z → Q (.ref l) H'
section
variable {P : Program} {w : World} {K : PySem.W.Frag} {mg : Str → Option Value} {base : Heap} {f fT : Addr} {fd dT : FuncData}
theorem ok_few (F : Fun K "_law_few" "_law_few" sFew f fd) (mr : mg "range" = none) (FT : Fun K "_law_take" "_law_take" sTake fT dT) (bT : Binds K dT ["_law_feed_here", "_law_many"] []) (gT : mg "_law_take" = some (.ref fT)) :
    FnOk P w K mg base CX0 2 f fd ["_law_feed_here"] spFew := by
  have G : FnOk P w K mg base CX0 1 fT dT ["_law_feed_here", "_law_many"] spTake := ok_take FT
  refine F.ok scFew (fun vs H Q E h => ?_) (fun cdv A outer s H vs Q E hr h => ?_)
  · obtain ⟨p, S, rfl, _⟩ := h
    rfl
  obtain ⟨p, S, rfl, hF, hS, q⟩ := h
  have nd := scFew.nd
  have zl : sizeLine = 16777216 := rfl
  refine ⟨_, pss_cons (ps_if (pt_cmpR op_eq (pe_call G hr (by rfl) gT FT.kp bT .nil pass0 (pa_cons (pv 0) (pa_cons pe_int pa_nil))) pe_int (nomark _)) (pss_one (ps_ret (pe_lst (pa_cons pe_int pa_nil)))) pss_nil)
    (pss_one (ps_ret (pe_lc (own := [("_law_k", 1)]) (g := gName 1) (tt := tYes) rfl nd (pi_range1 (by rfl) mr (pa_cons (pe_ix ix_list (pe_lst (pa_cons pe_int (pa_cons pe_int (pa_cons pe_int (pa_cons pe_int pa_nil)))))
        (pe_call G hr (by rfl) gT FT.kp bT .nil pass0 (pa_cons (pv 0) (pa_cons pe_int pa_nil))) (fun _ _ => rfl)) pa_nil))
      (blkOk_by (N := ["_law_feed_here", "_law_k"]) (sc := defScope sFew) (by decide +kernel)) (fun _ _ _ _ _ => pg_name (i := 1) nd rfl (Or.inl rfl)) (fun _ _ _ _ _ => pts_nil)
      (fun _ _ _ _ _ => pe_ix (r := rIxL K) ix_list (pe_lst (pa_cons pe_int (pa_cons pe_int (pa_cons pe_int (pa_cons (pe_op op_add pe_int (pe_call G hr (by rfl) gT FT.kp bT .nil pass0 (pa_cons (pv 0) (pa_cons pe_int pa_nil)))) pa_nil)))))
        (pe_call G hr (by rfl) gT FT.kp bT .nil pass0 (pa_cons (pv 0) (pa_cons pe_int pa_nil))) (fun _ _ => rfl))))), ?_⟩
  refine ⟨_, rfl, p, 8, S, rfl, hF, by decide, by decide, by omega, fun r1 H1 r10 r11 f1 x1 => ?_⟩
  refine ⟨rfl, _, rfl, ite2 (fun _ => ?_) (fun _ => ?_)⟩
  · refine ⟨(by show 1 ≤ sizeLine; decide), fun l nl => ?_⟩
    have nlp := f1.not nl
    refine q l [60] _ (x1.trans (Ex1.new nl)) ((f1.stays nl).le (by omega)) (ex1_free x1 nlp nl) upd_same ⟨by simp, by simp, by simp, by simp, .inl rfl⟩
  refine ⟨(by show 4 ≤ sizeLine; decide), fun l2 nl2 => ?_⟩
  have f2 := f1.stays (o := .lst [.int 2, .int 3, .int 1, .int 3]) nl2
  refine ⟨_, rfl, p, 4, _, rfl, f2, by decide, by decide, by omega, fun k H3 k0 k1 f3 x3 => ?_⟩
  obtain ⟨n, hn, en⟩ := at_list (f := V.int) (xs := [2, 3, 1, 3]) k0 (by simpa using k1)
  have nb : 1 ≤ n ∧ n ≤ 3 := by
    simp only [List.mem_cons, List.not_mem_nil, or_false] at hn
    omega
  refine ⟨l2, _, k, .int n, rfl, rfl, SqL.of (x3 _ _ (f1.not nl2) upd_same), en, n, rfl, by omega, by omega, fun D nD => ?_⟩
  have x03 : Ex1 p H H3 := (x1.trans (Ex1.new nl2)).trans x3
  have nDp := f3.not nD
  refine lc_it walk_upto (fun i H4 => Ex1 p H3 H4 ∧ Feed H4 p (S + 2 + 2 * i) ∧ ∃ z : List Int, H4 D = some (.lst (z.map V.int)) ∧ z.length = i ∧ ∀ x ∈ z, 1 ≤ x ∧ x ≤ 6) ⟨Ex1.new nD, (f3.stays nD).le (by omega), [], upd_same, rfl, fun x h => nomatch h⟩ (fun _ _ _ _ => trivial) ?_ ?_
  · rintro i x H4 H5 hi ⟨x4, f4, z, ez, lz, hz⟩ ⟨rfl, rfl⟩
    refine ⟨rfl, ?_⟩
    refine ⟨_, rfl, p, 6, _, rfl, f4, by decide, by decide, by omega, fun u H6 u0 u1 f6 x6 => ?_⟩
    refine ⟨_, _, rfl, rfl, (by show 4 ≤ sizeLine; decide), fun l7 nl7 => ?_⟩
    have f7 := f6.stays (o := .lst [.int 2, .int 3, .int 1, .int (1 + u)]) nl7
    refine ⟨_, rfl, p, 4, _, rfl, f7, by decide, by decide, by omega, fun v H8 v0 v1 f8 x8 => ?_⟩
    obtain ⟨g, hg, eg⟩ := at_list (f := V.int) (xs := [2, 3, 1, 1 + u]) v0 (by simpa using v1)
    have gb : 1 ≤ g ∧ g ≤ 6 := by
      simp only [List.mem_cons, List.not_mem_nil, or_false] at hg
      omega
    refine ⟨l7, _, v, .int g, rfl, rfl, SqL.of (x8 _ _ (f6.not nl7) upd_same), eg, ?_⟩
    have x58 : Ex1 p H5 H8 := (x6.trans (Ex1.new nl7)).trans x8
    refine ⟨_, x58 _ _ nDp ez, by rw [List.length_map]; omega, ex1_own nD (x4.trans x58), (f8.off nDp).le (by omega), z ++ [g], ?_, by simp [lz], ?_⟩
    · rw [upd_same, List.map_append]
      rfl
    · intro y hy
      rcases List.mem_append.mp hy with hy | hy
      · exact hz y hy
      · rw [List.mem_singleton.mp hy]
        exact gb
  rintro H4 ⟨x4, f4, z, ez, lz, hz⟩
  exact q D z H4 (x03.trans x4) (f4.le (by omega)) (ex1_free x03 nDp nD) ez ⟨by omega, by omega, fun x hx => (hz x hx).1, fun x hx => by have := hz x hx; omega, .inr fun x hx => (hz x hx).2⟩

abbrev nSome : List Str := ["_law_feed_here", "_law_lengths", "_law_rest", "_law_found", "_law_turn_here", "_law_leads", "_law_source", "_law_lead", "_law_many"]
theorem scSome : FnScope nSome ["_law_feed_here", "_law_lengths"] (defScope sSome) := ⟨rfl, rfl, rfl, by decide +kernel, rfl, by decide +kernel, by decide +kernel⟩
def spSome (K : PySem.W.Frag) : Sp := fun vs H Q _ => ∃ (p a : Addr) (S : Int) (z : List Int), vs = [.ref p, .ref a] ∧ Feed H p S ∧ S ≤ 100000000 ∧ H a = some (.lst (z.map V.int)) ∧ a ≠ p ∧ z.length ≤ 3 ∧ In 60 z ∧
  ∀ (l : Addr) (ss : List Slab) (H' : Hp), Ex1 p H H' → Feed H' p (S + 50) → H l = none → SlabsL K H' l ss → Leg0 z ss → ss.length ≤ 12 → Q (.ref l) H'
theorem ok_some (F : Fun K "_law_some" "_law_some" sSome f fd) (ml : mg "list" = none) (mr : mg "range" = none) (mn : mg "len" = none) (FT : Fun K "_law_take" "_law_take" sTake fT dT) (bT : Binds K dT ["_law_feed_here", "_law_many"] []) (gT : mg "_law_take" = some (.ref fT)) :
    FnOk P w K mg base CX0 2 f fd ["_law_feed_here", "_law_lengths"] (spSome K) := by
  have G : FnOk P w K mg base CX0 1 fT dT ["_law_feed_here", "_law_many"] spTake := ok_take FT
  refine F.ok scSome (fun vs H Q E h => ?_) (fun cdv A outer s H vs Q E hr h => ?_)
  · obtain ⟨p, a, S, z, rfl, _⟩ := h
    rfl
  obtain ⟨p, a, S, z, rfl, hF, hS, ea, nap, l3, hz, q⟩ := h
  have nd := scSome.nd
  have zl : sizeLine = 16777216 := rfl
  refine ⟨_, pss_cons (ps_set (i := 2) nd rfl (.inr rfl) (pe_callTy call_list_of (by rfl) ml (by decide +kernel) (pa_cons (pv 1) pa_nil)))
    (pss_cons (ps_set (i := 3) nd rfl (.inl rfl) (pe_lst pa_nil))
    (pss_cons (ps_for PassesOwn.never rfl (pi_range1 (by rfl) mr (pa_cons (pe_ix ix_list (pe_lst (pa_cons pe_int (pa_cons pe_int (pa_cons pe_int (pa_cons (pe_op op_add pe_int (pe_call G hr (by rfl) gT FT.kp bT .nil pass0 (pa_cons (pv 0) (pa_cons pe_int pa_nil)))) pa_nil)))))
          (pe_call G hr (by rfl) gT FT.kp bT .nil pass0 (pa_cons (pv 0) (pa_cons pe_int pa_nil))) (fun _ _ => rfl)) pa_nil)) (pg_name (i := 4) nd rfl (.inl rfl))
      (pss_cons (ps_setLc (i := 5) (own := [("_law_source", 6)]) (g := gName 6) rfl nd rfl rfl (by rfl) (pi_range1 (by rfl) mr (pa_cons (pe_callB call_len_seq (by rfl) mn PySem.boot_len (pa_cons (pv 2) pa_nil)) pa_nil))
          (blkOk_by (N := nSome) (sc := defScope sSome) (by decide +kernel)) (fun _ _ _ _ _ => pg_name (i := 6) nd rfl (Or.inl rfl))
          (fun _ _ _ _ _ => pts_one (pt_cmpR op_gt (pe_ix (r := rIxL K) ix_list (pv 2) (pv 6) (fun _ _ => rfl)) pe_int (nomark _))) (fun _ _ _ _ _ => pv 6))
      (pss_one (ps_if (pt_cmpR (op_neL0 hr.units0) (pv 5) (pe_lst pa_nil) (nomark _))
        (pss_cons (ps_set (i := 7) nd rfl (.inl rfl) (pe_ix ix_list (pv 5) (pe_call G hr (by rfl) gT FT.kp bT .nil pass0 (pa_cons (pv 0) (pa_cons (pe_callB call_len_seq (by rfl) mn PySem.boot_len (pa_cons (pv 5) pa_nil)) pa_nil))) (fun _ _ => rfl)))
        (pss_cons (ps_set (i := 8) nd rfl (.inl rfl) (pe_ix ix_list (pe_lst (pa_cons pe_int (pa_cons (pe_ix ix_list (pv 2) (pv 7) (fun _ _ => rfl))
            (pa_cons (pe_op op_add pe_int (pe_call G hr (by rfl) gT FT.kp bT .nil pass0 (pa_cons (pv 0) (pa_cons (pe_ix ix_list (pv 2) (pv 7) (fun _ _ => rfl)) pa_nil)))) pa_nil))))
            (pe_call G hr (by rfl) gT FT.kp bT .nil pass0 (pa_cons (pv 0) (pa_cons pe_int pa_nil))) (fun _ _ => rfl)))
        (pss_cons (ps_expr (pe_bm PySem.F.plainAttrs_list PySem.F.slot_list_append PySem.F.type_list_append mt_append (pv 3) (pa_cons (pe_tup (pa_cons (pv 7) (pa_cons (pv 8) pa_nil))) pa_nil)))
        (pss_one (ps_asg (pe_op op_sub (pe_ix ix_list (pv 2) (pv 7) (fun _ _ => rfl)) (pv 8)) (pg_sub (pv 2) (pv 7) set_list)))))) pss_nil))))
    (pss_one (ps_ret (pv 3))))), ?_⟩
  refine ⟨_, rfl, a, _, rfl, .inl (SqL.of ea), fun l nl => ?_⟩
  have nlp := hF.not nl
  refine ⟨(by show 0 ≤ sizeLine; decide), fun m nm => ?_⟩
  have nml : m ≠ l := fun e => by rw [e, upd_same] at nm; cases nm
  have nm0 : H m = none := by rw [upd_ne nml] at nm; exact nm
  have nmp := hF.not nm0
  have f0 := (hF.stays (o := .lst (z.map V.int)) nl).stays (o := .lst []) nm
  have x0 : Ex1 p H (upd (upd H l (.lst (z.map V.int))) m (.lst [])) := (Ex1.new nl).trans (Ex1.new nm)
  have el0 : upd (upd H l (.lst (z.map V.int))) m (.lst []) l = some (.lst (z.map V.int)) := by
    rw [upd_ne nml.symm]
    exact upd_same
  refine ⟨_, rfl, p, 12, S, rfl, f0, by decide, by decide, by omega, fun u H1 u0 u1 f1 x1 => ?_⟩
  refine ⟨_, _, rfl, rfl, (by show 4 ≤ sizeLine; decide), fun o no => ?_⟩
  have f2 := f1.stays (o := .lst [.int 4, .int 9, .int 0, .int (1 + u)]) no
  refine ⟨_, rfl, p, 4, _, rfl, f2, by decide, by decide, by omega, fun v H3 v0 v1 f3 x3 => ?_⟩
  obtain ⟨n, hn, en⟩ := at_list (f := V.int) (xs := [4, 9, 0, 1 + u]) v0 (by simpa using v1)
  have nb : 0 ≤ n ∧ n ≤ 12 := by
    simp only [List.mem_cons, List.not_mem_nil, or_false] at hn
    omega
  have x13 : Ex1 p (upd (upd H l (.lst (z.map V.int))) m (.lst [])) H3 := (x1.trans (Ex1.new no)).trans x3
  refine ⟨o, _, v, .int n, rfl, rfl, SqL.of (x3 _ _ (f1.not no) upd_same), en, n, rfl, by omega, by omega, ?_⟩
  refine for_it walk_upto (fun i σ H4 => ∃ ss : List Slab, Ex1 p H H4 ∧ Feed H4 p (S + 2 + 3 * i) ∧ H4 l = some (.lst ((lft z ss).map V.int)) ∧ SlabsL K H4 m ss ∧ Leg0 z ss ∧ ss.length ≤ i ∧ ∃ y4 y5 y7 y8, σ = [some (.ref p), some (.ref a), some (.ref l), some (.ref m), y4, y5, none, y7, y8])
    ⟨[], x0.trans x13, f3.le (by omega), x13 _ _ nlp el0, ⟨[], x13 _ _ nmp upd_same, rfl, fun i b s e => nomatch e⟩, trivial, Nat.le_refl _, none, none, none, none, rfl⟩ (fun _ _ _ _ _ => trivial) ?_ ?_
  · rintro i x σ H4 H5 hi ⟨ss, x4, f4, el, em, hL, hl, y4, y5, y7, y8, rfl⟩ ⟨rfl, rfl⟩
    have ll : (lft z ss).length = z.length := lft_len
    have hI := lft_in0 hz hL
    refine ⟨_, rfl, l, _, rfl, .inl (SqL.of el), _, rfl, by omega, by rw [List.length_map]; omega, fun D nD => ?_⟩
    have nDp := f4.not nD
    refine lc_it walk_upto (fun j H6 => Same H5 H6 ∧ ∃ js : List Nat, H6 D = some (.lst (js.map fun k => V.int ((k : Nat) : Int))) ∧ js.length ≤ j ∧ ∀ k ∈ js, k < z.length ∧ 1 ≤ (lft z ss).getD k 0)
      ⟨new_same nD, [], upd_same, Nat.zero_le _, fun k h => nomatch h⟩ (fun _ _ _ _ => trivial) ?_ ?_
    · rintro j x H6 H7 hj ⟨s6, js, ejs, ljs, hjs⟩ ⟨rfl, rfl⟩
      rw [List.length_map, Int.toNat_natCast] at hj
      refine ⟨rfl, ?_⟩
      refine ⟨_, rfl, _, rfl, l, _, _, _, rfl, rfl, SqL.of (s6 _ _ el), ints_atI hj, _, _, rfl, rfl, _, rfl, ite2 (fun e => ?_) (fun e => ?_)⟩
      · have e : 0 < (lft z ss).getD j 0 := of_decide_eq_true e
        refine ⟨_, rfl, _, ejs, by rw [List.length_map]; omega, own_same nD s6, js ++ [j], ?_, by rw [List.length_append, List.length_singleton]; omega, ?_⟩
        · rw [upd_same, List.map_append]
          rfl
        · intro k hk
          rcases List.mem_append.mp hk with hk | hk
          · exact hjs k hk
          · rw [List.mem_singleton.mp hk]
            exact ⟨by omega, by omega⟩
      · exact ⟨s6, js, ejs, by omega, hjs⟩
    rintro H6 ⟨s6, js, ejs, ljs, hjs⟩
    rw [List.length_map, Int.toNat_natCast] at ljs
    have f6 := f4.kept s6
    have el6 := s6 _ _ el
    have em6 := em.same s6
    refine ⟨_, rfl, (by show 0 ≤ sizeLine; decide), fun b nb2 => ?_⟩
    have sb := new_same (o := .lst []) nb2
    have s7 := s6.trans sb
    refine ⟨D, b, _, rfl, rfl, SqL.of (sb _ _ ejs), SqL.of upd_same, _, rfl, ite2 (fun e => ?_) (fun e => ?_)⟩
    · have e : (!(js.map fun k => V.int ((k : Nat) : Int)).isEmpty) = true := e
      have pos : 0 < js.length := by
        cases js with
        | nil => cases e
        | cons x r => simp
      have f7 := f6.kept sb
      refine ⟨_, rfl, _, rfl, _, rfl, D, _, rfl, .inl (SqL.of (sb _ _ ejs)), p, _, _, rfl, f7, by rw [List.length_map]; omega, by rw [List.length_map]; omega, by omega, fun r H8 r0 r1 f8 x8 => ?_⟩
      rw [List.length_map] at r1
      obtain ⟨k, hk, ek⟩ := at_list (f := fun k : Nat => V.int ((k : Nat) : Int)) (xs := js) r0 r1
      obtain ⟨k1, k2⟩ := hjs k hk
      have kl : k < (lft z ss).length := by omega
      have kB := hI _ (Bx.getD_mem kl)
      refine ⟨D, _, _, _, rfl, rfl, SqL.of (x8 _ _ nDp (sb _ _ ejs)), ek, ?_⟩
      have el8 := x8 _ _ nlp (sb _ _ el6)
      have em8 := (em6.same sb).drawn f7 nmp x8
      generalize hR : (lft z ss).getD k 0 = R at *
      have at8 : atI ((lft z ss).map V.int) ((k : Nat) : Int) = some (.int R) := by
        rw [← hR]
        exact ints_atI kl
      refine ⟨_, rfl, _, rfl, l, _, _, _, rfl, rfl, SqL.of el8, at8, _, rfl, _, rfl, _, rfl, l, _, _, _, rfl, rfl, SqL.of el8, at8, p, R, _, rfl, f8, by omega, by omega, by omega, fun c H9 c0 c1 f9 x9 => ?_⟩
      refine ⟨_, _, rfl, rfl, (by show 3 ≤ sizeLine; decide), fun t nt => ?_⟩
      have f10 := f9.stays (o := .lst [.int 1, .int R, .int (1 + c)]) nt
      refine ⟨_, rfl, p, 3, _, rfl, f10, by decide, by decide, by omega, fun d H11 d0 d1 f11 x11 => ?_⟩
      obtain ⟨g, hg, eg⟩ := at_list (f := V.int) (xs := [1, R, 1 + c]) d0 (by simpa using d1)
      have gb : 1 ≤ g ∧ g ≤ R := by
        simp only [List.mem_cons, List.not_mem_nil, or_false] at hg
        omega
      refine ⟨t, _, d, .int g, rfl, rfl, SqL.of (x11 _ _ (f9.not nt) upd_same), eg, ?_⟩
      have x811 : Ex1 p H8 H11 := (x9.trans (Ex1.new nt)).trans x11
      have el11 := x811 _ _ nlp el8
      have em11 := em8.drawn f8 nmp x811
      obtain ⟨bs, ebs, _⟩ := id em11
      refine ⟨_, rfl, .inl ⟨rfl, _, SqL.of ebs⟩, _, rfl, _, rfl, (by show 2 ≤ sizeLine; decide), fun b3 nb3 => ?_⟩
      obtain ⟨xs, exs, lxs, em12⟩ := em11.push (k := k) (g := g) nb3
      refine ⟨m, xs, _, rfl, rfl, exs, by rw [lxs]; omega, ?_⟩
      have nbl : l ≠ b3 := ne_of_none el11 nb3
      have el12 : upd (upd H11 b3 (.tup [.int (k : Nat), .int g])) m (.lst (xs ++ [.ref b3])) l = some (.lst ((lft z ss).map V.int)) := by
        rw [upd_ne nml.symm, upd_ne nbl]
        exact el11
      refine ⟨_, rfl, _, rfl, l, _, _, _, rfl, rfl, SqL.of el12, at8, _, rfl, _, _, rfl, rfl, ?_⟩
      refine ⟨_, rfl, _, rfl, l, _, _, k, rfl, rfl, el12, ixN_nat (by rw [List.length_map]; exact kl), ?_⟩
      have eR : lft z (ss ++ [(k, g)]) = red (lft z ss) (k, g) := lft_snoc
      refine ⟨ss ++ [(k, g)], ?_, ?_, ?_, ?_, hL.snoc k1 gb.1 (by show g ≤ (lft z ss).getD k 0; rw [hR]; exact gb.2), by rw [List.length_append, List.length_singleton]; omega, _, _, _, _, rfl⟩
      · exact ex1_own nl (ex1_own nm0 ((((x4.trans (ex1_of_same s7)).trans x8).trans x811).trans (Ex1.new nb3)))
      · exact (((f11.stays nb3).off nmp).off nlp).le (by omega)
      · rw [upd_same, eR, map_set]
        show some (HO.lst (((lft z ss).set k (R - g)).map V.int)) = _
        rw [← hR]
        rfl
      · refine em12.tups (Tups.upd_lst el12) ?_
        rw [upd_ne nml]
    · exact ⟨ss, x4.trans (ex1_of_same s7), (f6.kept sb).le (by omega), sb _ _ el6, em6.same sb, hL, by omega, _, _, _, _, rfl⟩
  · rintro σ H4 ⟨ss, x4, f4, el, em, hL, hl, y4, y5, y7, y8, rfl⟩
    exact ⟨_, rfl, q m ss H4 x4 (f4.le (by omega)) nm0 em hL (by omega)⟩
end
end K24
end

section
set_option Elab.async false
set_option linter.all false
set_option maxRecDepth 100000
set_option maxHeartbeats 4000000
namespace K24
open PySem PySem.Spec PyProof.Rows L2 Gd Bx
abbrev nChoices : List Str := ["_law_lengths", "_law_found", "_law_size", "_law_longer", "_law_choice", "_law_at"]
theorem scChoices : FnScope nChoices ["_law_lengths"] (defScope sChoices) := ⟨rfl, rfl, rfl, by decide +kernel, rfl, by decide +kernel, by decide +kernel⟩
def spChoices (K : PySem.W.Frag) : Sp := fun vs H Q _ => ∃ (a : Addr) (z : List Int), vs = [.ref a] ∧ SqL K H a (z.map V.int) ∧ Szs z ∧ ∀ (l : Addr) (H' : Hp), Same H H' → H l = none → ChoicesT H' l (allC z) → Q (.ref l) H'
def ext (n : Int) (c : List Int) : List (List Int) := (List.range n.toNat).map fun i => c ++ [((i : Nat) : Int)]
theorem range_push (c : List Int) (k : Nat) : (List.range (k + 1)).map (fun i : Nat => c ++ [((i : Nat) : Int)]) = (List.range k).map (fun i : Nat => c ++ [((i : Nat) : Int)]) ++ [c ++ [((k : Nat) : Int)]] := by
  rw [List.range_succ, List.map_append]
  rfl
section
variable {P : Program} {w : World} {K : PySem.W.Frag} {mg : Str → Option Value} {base : Heap} {f fC : Addr} {fd dC : FuncData}
theorem ok_choices (F : Fun K "_law_choices" "_law_choices" sChoices f fd) (mr : mg "range" = none) : FnOk P w K mg base CX0 1 f fd ["_law_lengths"] (spChoices K) := by
  refine F.ok scChoices (fun vs H Q E h => ?_) (fun cdv A outer s H vs Q E hr h => ?_)
  · obtain ⟨a, z, rfl, _⟩ := h
    rfl
  obtain ⟨a, z, rfl, ha, hz, q⟩ := h
  have nd := scChoices.nd
  have zl : sizeLine = 16777216 := rfl
  refine ⟨_, pss_cons (ps_set (i := 1) nd rfl (.inl rfl) (pe_lst (pa_cons (pe_tup pa_nil) pa_nil)))
    (pss_cons (ps_for PassesOwn.never rfl (pi_list (pv 0)) (pg_name (i := 2) nd rfl (.inl rfl))
      (pss_cons (ps_set (i := 3) nd rfl (.inl rfl) (pe_lst pa_nil))
      (pss_cons (ps_for PassesOwn.never rfl (pi_list (pv 1)) (pg_name (i := 4) nd rfl (.inr rfl))
        (pss_one (ps_expr (pe_bm PySem.F.plainAttrs_list PySem.F.slot_list_extend PySem.F.type_list_extend mt_extend (pv 3)
          (pa_cons (pe_lc (own := [("_law_at", 5)]) (g := gName 5) (tt := tYes) rfl nd (pi_range1 (by rfl) mr (pa_cons (pv 2) pa_nil)) (blkOk_by (N := nChoices) (sc := defScope sChoices) (by decide +kernel))
            (fun _ _ _ _ _ => pg_name (i := 5) nd rfl (Or.inl rfl)) (fun _ _ _ _ _ => pts_nil) (fun _ _ _ _ _ => pe_op (r := rCatA K) op_catA (pv 4) (pe_tup (pa_cons (pv 5) pa_nil)))) pa_nil)))))
      (pss_one (ps_set (i := 1) nd rfl (.inl rfl) (pv 3))))))
    (pss_one (ps_ret (pv 1)))), ?_⟩
  refine ⟨(by show 0 ≤ sizeLine; decide), fun t0 nt0 => ?_⟩
  have s1 := new_same (o := .tup []) nt0
  refine ⟨(by show 1 ≤ sizeLine; decide), fun f0 nf0 => ?_⟩
  have s2 := s1.trans (new_same (o := .lst [.ref t0]) nf0)
  have nf00 : H f0 = none := s1.free nf0
  refine ⟨_, rfl, a, rfl, ⟨_, s2.seq ha⟩, ?_⟩
  refine for_it walk_list (fun i σ H1 => Same H H1 ∧ ∃ fo : Addr, H fo = none ∧ ChoicesT H1 fo (allC (z.take i)) ∧ ∃ y2 y3 y4, σ = [some (.ref a), some (.ref fo), y2, y3, y4, none])
    ⟨s2, f0, nf00, ⟨[t0], upd_same, rfl, fun i b c eb ec => ?_⟩, none, none, none, rfl⟩ (fun i σ H1 _ h => h.1.seq ha) ?_ ?_
  · have e1 : allC (z.take 0) = [[]] := rfl
    rw [e1] at ec
    cases i with
    | zero =>
      cases eb
      cases ec
      rw [upd_ne (ne_of_none upd_same nf0)]
      exact upd_same
    | succ i => simp at eb
  · rintro i x σ H1 H2 hi ⟨s3, fo, nfo, hc, y2, y3, y4, rfl⟩ ⟨rfl, ex⟩
    rw [List.length_map] at hi
    have ex := (ints_at hi).symm.trans ex
    cases ex
    have hn := hz.one _ (Bx.getD_mem hi)
    have hn2 := hz.top _ (Bx.getD_mem hi)
    have ecs : allC (z.take (i + 1)) = (allC (z.take i)).flatMap (ext (z.getD i 0)) := by
      rw [take_at (Gd.getD_at hi), allC_snoc]
      rfl
    have lcs := hz.many (i + 1)
    rw [ecs] at lcs
    obtain ⟨bs, ebs, lbs, tbs⟩ := hc
    refine ⟨(by show 0 ≤ sizeLine; decide), fun lo nlo => ?_⟩
    have s4 := new_same (o := .lst []) nlo
    have nlo0 : H lo = none := s3.free nlo
    refine ⟨_, rfl, fo, rfl, ⟨_, SqL.of (s4 _ _ ebs)⟩, ?_⟩
    refine for_it walk_list (fun j σ H3 => Same H2 H3 ∧ ChoicesT H3 lo (((allC (z.take i)).take j).flatMap (ext (z.getD i 0))) ∧ ∃ y4, σ = [some (.ref a), some (.ref fo), some (.int (z.getD i 0)), some (.ref lo), y4, none])
      ⟨s4, ⟨[], upd_same, rfl, fun i b c e => nomatch e⟩, _, rfl⟩ (fun j σ H3 _ h => SqL.of (h.1 _ _ ebs)) ?_ ?_
    · rintro j x σ H3 H4 hj ⟨s5, hlo, y4, rfl⟩ ⟨rfl, ex⟩
      obtain ⟨b1, e1, rfl⟩ := map_at ex
      rw [List.length_map, lbs] at hj
      obtain ⟨c, ec⟩ := at_of (xs := allC (z.take i)) rfl hj
      have tc := s5 _ _ (tbs j b1 c e1 ec)
      obtain ⟨xs0, exs0, lxs0, _⟩ := id hlo
      refine ⟨_, rfl, .inl ⟨rfl, _, SqL.of exs0⟩, _, rfl, _, rfl, by omega, by omega, fun D nD => ?_⟩
      have nlD : lo ≠ D := ne_of_none exs0 nD
      refine lc_it walk_upto (fun k H5 => Same H4 H5 ∧ ChoicesT H5 D ((List.range k).map fun i : Nat => c ++ [((i : Nat) : Int)])) ⟨new_same nD, [], upd_same, rfl, fun i b c e => nomatch e⟩ (fun _ _ _ _ => trivial) ?_ ?_
      · rintro k x H5 H6 hk ⟨s6, hD⟩ ⟨rfl, rfl⟩
        refine ⟨rfl, ?_⟩
        refine ⟨_, rfl, _, rfl, (by show 1 ≤ sizeLine; decide), fun t nt => ?_⟩
        have s7 := new_same (o := .tup [.int ((k : Nat) : Int)]) nt
        have tc7 := s7 _ _ (s6 _ _ tc)
        -- whichever tuple comes
        have fin : ∀ (u : Addr) (H7 : Hp), Same H6 H7 → H7 u = some (.tup ((c ++ [((k : Nat) : Int)]).map V.int)) → ∃ acc, H7 D = some (.lst acc) ∧ acc.length < sizeLine ∧ (Same H4 (upd H7 D (.lst (acc ++ [.ref u]))) ∧ ChoicesT (upd H7 D (.lst (acc ++ [.ref u]))) D ((List.range (k + 1)).map fun i : Nat => c ++ [((i : Nat) : Int)])) := fun u H7 s67 eu => by
          have hD7 := hD.same s67
          obtain ⟨ys, eys, lys, _⟩ := id hD7
          refine ⟨_, eys, ?_, own_same nD (s6.trans s67), ?_⟩
          · rw [List.length_map, lys, List.length_map, List.length_range]
            omega
          · rw [range_push]
            exact hD7.grown (b2 := [u]) eys rfl rfl fun i b d eb ed => by
              cases i with
              | zero =>
                cases eb
                cases ed
                exact eu
              | succ i => simp at eb
        refine ⟨b1, t, _, _, rfl, rfl, SqT.of tc7, SqT.of upd_same, ?_, fun e => ?_, (fun _ e => nomatch e), fun _ _ u nu => ?_⟩
        · have lc : c.length ≤ 3 := by
            have := (allC_choice _ c (List.mem_of_getElem? ec)).len
            rw [this, List.length_take]
            have := hz.l3
            omega
          rw [List.length_map]
          show c.length + 1 ≤ sizeLine
          omega
        · have : c = [] := by simpa using e
          subst this
          exact fin t _ s7 upd_same
        · refine fin u _ (s7.trans (new_same nu)) ?_
          rw [upd_same, List.map_append]
          rfl
      rintro H5 ⟨s6, hD⟩
      have hlo5 := hlo.same s6
      obtain ⟨xs, exs, lxs, _⟩ := id hlo5
      obtain ⟨ds, eds, lds, tds⟩ := hD
      refine ⟨lo, D, _, _, rfl, rfl, exs, eds, ?_, ?_⟩
      · rw [List.length_map, List.length_map, lxs, lds, List.length_map, List.length_range]
        have : (((allC (z.take i)).take j).flatMap (ext (z.getD i 0))).length ≤ ((allC (z.take i)).flatMap (ext (z.getD i 0))).length := by
          conv => rhs; rw [← List.take_append_drop j (allC (z.take i)), List.flatMap_append, List.length_append]
          omega
        omega
      refine ⟨own_same nlo (s5.trans s6), ?_, _, rfl⟩
      rw [take_at ec, List.flatMap_append]
      have e4 : [c].flatMap (ext (z.getD i 0)) = ext (z.getD i 0) c := by simp
      rw [e4]
      exact hlo5.grown exs rfl lds tds
    · rintro σ H3 ⟨s5, hlo, y4, rfl⟩
      rw [List.length_map, lbs, List.take_length, ← ecs] at hlo
      exact ⟨_, rfl, s3.trans s5, lo, nlo0, hlo, _, _, _, rfl⟩
  · rintro σ H1 ⟨s3, fo, nfo, hc, y2, y3, y4, rfl⟩
    rw [List.length_map, List.take_length] at hc
    exact ⟨_, rfl, q fo H1 s3 nfo hc⟩
end
end K24
end

section
set_option Elab.async false
set_option linter.all false
set_option maxRecDepth 100000
set_option maxHeartbeats 4000000
namespace K24
open PySem PySem.Spec PyProof.Rows L2 Gd Bx
abbrev sMetL : Stmt := topS 10
abbrev nMetL : List Str := ["_law_lengths", "_law_layers", "_law_yet", "_law_done", "_law_met_here", "_law_number", "_law_lead", "_law_many", "_law_choice"]
theorem scMetL : FnScope nMetL ["_law_lengths", "_law_layers"] (defScope sMetL) := ⟨rfl, rfl, rfl, by decide +kernel, rfl, by decide +kernel, by decide +kernel⟩
def mkM (M : List (List Int × Nat)) : List (List Key × V) := M.map fun x => (x.1.map Sum.inl, V.int ((x.2 : Nat) : Int))
def keyC (c : List Int) : List Key := c.map Sum.inl
theorem keyC_map (c : List Int) : (keyC c).map kV = c.map V.int := by
  unfold keyC
  rw [List.map_map]
  rfl
theorem keyC_inj {a b : List Int} (h : keyC a = keyC b) : a = b := by
  have := congrArg (List.map fun k : Key => match k with | .inl i => i | .inr _ => 0) h
  unfold keyC at this
  rw [List.map_map, List.map_map] at this
  simpa [Function.comp_def] using this
theorem look_M (M : List (List Int × Nat)) (c : List Int) : valV (mkM M) (keyC c) = (find M c).map fun k => V.int ((k : Nat) : Int) := by
  unfold valV mkM find
  rw [List.find?_map]
  have e : ((fun kv : List Key × V => decide (kv.1 = keyC c)) ∘ fun x : List Int × Nat => (x.1.map Sum.inl, V.int ((x.2 : Nat) : Int))) = fun x => decide (x.1 = c) := by
    funext x
    show decide (keyC x.1 = keyC c) = _
    by_cases h : x.1 = c
    · rw [h, decide_eq_true rfl, decide_eq_true rfl]
    · rw [decide_eq_false h, decide_eq_false (fun q => h (keyC_inj q))]
  rw [e]
  cases M.find? fun x => decide (x.1 = c) <;> rfl
theorem put_M {M : List (List Int × Nat)} {c : List Int} (k : Nat) (h : find M c = none) : putK (mkM M) (keyC c) (.int ((k : Nat) : Int)) = mkM (M ++ [(c, k)]) := by
  rw [putK_new _ (by rw [look_M, h] <;> rfl)]
  unfold mkM
  rw [List.map_append]
  rfl
theorem mkM_len (M : List (List Int × Nat)) : (mkM M).length = M.length := by simp [mkM]
def spMetL (K : PySem.W.Frag) : Sp := fun vs H Q _ => ∃ (a b : Addr) (z : List Int) (ss : List Slab), vs = [.ref a, .ref b] ∧ SqL K H a (z.map V.int) ∧ SlabsAt K H b ss ∧ Szs z ∧ Leg0 z ss ∧ ss.length ≤ 12 ∧
  ∀ (l : Addr) (H' : Hp), Same H H' → H l = none → H' l = some (.dT (mkM (metL z (List.replicate z.length 0) ss 0))) →
    (∀ (i : Nat) (x : List Int × Nat), (metL z (List.replicate z.length 0) ss 0)[i]? = some x → True) → Q (.ref l) H'
theorem rep_ints (n : Nat) : (List.replicate n [V.int 0]).flatten = (List.replicate n (0 : Int)).map V.int := by
  induction n with
  | zero => rfl
  | succ n ih => rw [List.replicate_succ, List.flatten_cons, ih, List.replicate_succ, List.map_cons] <;> rfl
theorem hit_yet {z d c : List Int} {s : Slab} (h : c ∈ yetL z d) (ld : d.length = z.length) (hs : s.1 < z.length) : d.getD s.1 0 ≤ c.getD s.1 0 ∧ (hit d s c = decide (c.getD s.1 0 < d.getD s.1 0 + s.2)) ∧ Choice z c := by
  unfold yetL at h
  obtain ⟨h1, h2⟩ := List.mem_filter.mp h
  have hc := allC_choice z c h1
  have g := (ge_iff (by rw [hc.len, ld])).mp h2 s.1 (by omega)
  refine ⟨g, ?_, hc⟩
  unfold hit
  rw [h2, Bool.true_and]
section
variable {P : Program} {w : World} {K : PySem.W.Frag} {mg : Str → Option Value} {base : Heap} {f fC : Addr} {fd dC : FuncData}
theorem ok_metL (F : Fun K "_law_met" "_law_met" sMetL f fd) (mn : mg "len" = none) (me : mg "enumerate" = none)
    (FC : Fun K "_law_choices" "_law_choices" sChoices fC dC) (GC : FnOk P w K mg base CX0 1 fC dC ["_law_lengths"] (spChoices K)) (bC : Binds K dC ["_law_lengths"] []) (gC : mg "_law_choices" = some (.ref fC)) :
    FnOk P w K mg base CX0 2 f fd ["_law_lengths", "_law_layers"] (spMetL K) := by
  refine F.ok scMetL (fun vs H Q E h => ?_) (fun cdv A outer s H vs Q E hr h => ?_)
  · obtain ⟨a, b, z, ss, rfl, _⟩ := h
    rfl
  obtain ⟨a, b, z, ss, rfl, ha, hb, hz, hL, hlen, q⟩ := h
  have nd := scMetL.nd
  have hu := hu_of hr
  have zl : sizeLine = 16777216 := rfl
  have hf := hL.fine
  have l3 := hz.l3
  refine ⟨_, pss_cons (ps_set (i := 2) nd rfl (.inl rfl) (pe_call GC hr (by rfl) gC FC.kp bC .nil pass0 (pa_cons (pv 0) pa_nil)))
    (pss_cons (ps_set (i := 3) nd rfl (.inl rfl) (pe_op op_rep (pe_lst (pa_cons pe_int pa_nil)) (pe_callB call_len_seq (by rfl) mn PySem.boot_len (pa_cons (pv 0) pa_nil))))
    (pss_cons (ps_set (i := 4) nd rfl (.inr rfl) pe_dnewT)
    (pss_cons (ps_for PassesOwn.never rfl (pi_enum (by rfl) me (pa_cons (pv 1) pa_nil))
        (pg_tup rfl (pgs_cons (pg_name (i := 5) nd rfl (.inl rfl)) (pgs_cons (pg_tup rfl (pgs_cons (pg_name (i := 6) nd rfl (.inl rfl)) (pgs_cons (pg_name (i := 7) nd rfl (.inl rfl)) pgs_nil))) pgs_nil)))
      (pss_cons (ps_for PassesOwn.never rfl (pi_list (pv 2)) (pg_name (i := 8) nd rfl (.inl rfl))
        (pss_one (ps_if (pt_chain op_le op_lt (pe_ix ix_list (pv 3) (pv 6) (fun _ _ => rfl)) (pe_ix ix_tup (pv 8) (pv 6) (fun _ _ => rfl)) (pe_op op_add (pe_ix ix_list (pv 3) (pv 6) (fun _ _ => rfl)) (pv 7)))
          (pss_one (ps_dput hu (pv 4) (pv 8) (pv 5) rfl)) pss_nil)))
      (pss_cons (ps_setLc (i := 2) (own := [("_law_choice", 8)]) (g := gName 8) rfl nd rfl rfl (by rfl) (pi_list (pv 2)) (blkOk_by (N := nMetL) (sc := defScope sMetL) (by decide +kernel))
          (fun _ _ _ _ _ => pg_name (i := 8) nd rfl (Or.inl rfl)) (fun _ _ _ _ _ => pts_one (pt_cmp (pc_dnotin hu (pv 8) (pv 4)))) (fun _ _ _ _ _ => pv 8))
      (pss_one (ps_asg (pe_op op_add (pe_ix ix_list (pv 3) (pv 6) (fun _ _ => rfl)) (pv 7)) (pg_sub (pv 3) (pv 6) set_list))))))
    (pss_one (ps_ret (pv 4)))))), ?_⟩
  refine ⟨_, rfl, a, z, rfl, ha, hz, fun y H1 s1 ny hy => ?_⟩
  refine ⟨(by show 1 ≤ sizeLine; decide), fun l0 nl0 => ?_⟩
  have s2 := s1.trans (new_same (o := .lst [.int 0]) nl0)
  refine ⟨_, rfl, a, _, rfl, .inl (s2.seq ha), ?_⟩
  refine ⟨l0, _, _, rfl, rfl, upd_same, by omega, by rw [List.length_map]; omega, by rw [List.length_map]; simp only [List.length_singleton]; omega, fun l nl => ?_⟩
  rw [List.length_map, Int.toNat_natCast, rep_ints]
  have nl' : H l = none := s2.free nl
  have j3 := new_same (o := .lst ((List.replicate z.length (0 : Int)).map V.int)) nl
  have s3 := s2.trans j3
  intro m nm
  have nml : m ≠ l := fun e => by rw [e, upd_same] at nm; cases nm
  have nm0 : H m = none := s3.free nm
  have j4 := new_same (o := .dT []) nm
  have s4 := s3.trans j4
  have hy4 : ChoicesT (upd (upd (upd H1 l0 (.lst [.int 0])) l (.lst ((List.replicate z.length (0 : Int)).map V.int))) m (.dT [])) y (allC z) := hy.same (((new_same nl0).trans j3).trans j4)
  obtain ⟨bs, hbs, lb, tb⟩ := hb
  have y0 : yetL z (List.replicate z.length 0) = allC z := by
    unfold yetL
    rw [List.filter_eq_self]
    intro c hc
    have k := allC_choice z c hc
    rw [ge_iff (by rw [k.len, List.length_replicate])]
    intro j hj
    rw [List.length_replicate] at hj
    rw [List.getD_eq_getElem?_getD, List.getElem?_replicate, if_pos hj]
    exact k.low j hj
  refine ⟨_, rfl, b, _, rfl, s4.seq hbs, ?_⟩
  refine for_it walk_enum (fun i σ H2 => Same H H2 ∧ (∃ yo : Addr, H yo = none ∧ H2 l = some (.lst ((dn (List.replicate z.length 0) (ss.take i)).map V.int)) ∧ H2 m = some (.dT (mkM (metL z (List.replicate z.length 0) (ss.take i) 0))) ∧
      ChoicesT H2 yo (yetL z (dn (List.replicate z.length 0) (ss.take i))) ∧ ∃ y5 y6 y7 y8, σ = [some (.ref a), some (.ref b), some (.ref yo), some (.ref l), some (.ref m), y5, y6, y7, y8]))
    ⟨s4, y, ny, ?_, upd_same, ?_, none, none, none, none, rfl⟩ (fun i σ H2 _ h => h.1.seq hbs) ?_ ?_
  · rw [upd_ne nml.symm]
    exact upd_same
  · show ChoicesT _ y (yetL z (List.replicate z.length 0))
    rw [y0]
    exact hy4
  · rintro i x σ H2 H3 hi ⟨s5, yo, nyo, el, em, hyo, y5, y6, y7, y8, rfl⟩ ⟨T, x1, x2, rfl, nT, rfl, ei, ex⟩
    cases ei
    obtain ⟨b1, e1, rfl⟩ := map_at ex
    obtain ⟨u, eu⟩ := at_of lb.symm (at_lt e1)
    have i_lt := at_lt eu
    obtain ⟨u1, u2⟩ := fine_at hf eu
    have jT := new_same (o := .tup [.int ((i : Nat) : Int), .ref b1]) nT
    have s6 := s5.trans jT
    have tt := same_tup s6 (tb i b1 u e1 eu)
    refine ⟨T, _, rfl, SqT.of upd_same, rfl, _, _, rfl, _, _, rfl, ⟨b1, _, rfl, tt, rfl, _, _, rfl, _, _, rfl, rfl, ?_⟩⟩
    have el3 := jT _ _ el
    have em3 := jT _ _ em
    have hyo3 := hyo.same jT
    refine ⟨rfl, ?_⟩
    generalize upd H2 T (.tup [.int ((i : Nat) : Int), .ref b1]) = H4 at *
    have ld : (dn (List.replicate z.length 0) (ss.take i)).length = z.length := by rw [dn_len, List.length_replicate]
    generalize hD : dn (List.replicate z.length 0) (ss.take i) = d at *
    have many := hz.many z.length
    rw [List.take_length] at many
    obtain ⟨ys, eys, lys, tys⟩ := hyo3
    have nym : yo ≠ m := ne_of eys em3 (fun z => nomatch z)
    have old : ∀ c, c ∈ yetL z d → find (metL z (List.replicate z.length 0) (ss.take i) 0) c = none := fun c hc => by
      unfold yetL at hc
      obtain ⟨h1, h2⟩ := List.mem_filter.mp hc
      have k := allC_choice z c h1
      have l1 : c.length = (List.replicate z.length (0 : Int)).length := by rw [k.len, List.length_replicate]
      have ff : Fine (List.replicate z.length (0 : Int)).length (ss.take i) := by
        rw [List.length_replicate]
        exact fun t ht => hf t (List.mem_of_mem_take ht)
      rw [find_metL h1, (hits_nil l1 ff (ge_dn l1 ff (by rw [hD]; exact h2))).mpr (by rw [hD]; exact h2)]
      rfl
    refine ⟨_, rfl, yo, rfl, ⟨_, SqL.of eys⟩, ?_⟩
    refine for_it walk_list (fun j σ H5 => (∀ c o, c ≠ m → H4 c = some o → H5 c = some o) ∧ H5 m = some (.dT (mkM (metL z (List.replicate z.length 0) (ss.take i) 0 ++ ((((yetL z d).take j).filter (hit d u)).map fun c => (c, i))))) ∧
        ∃ y8, σ = [some (.ref a), some (.ref b), some (.ref yo), some (.ref l), some (.ref m), some (.int ((i : Nat) : Int)), some (.int ((u.1 : Nat) : Int)), some (.int u.2), y8])
      ⟨fun _ _ _ e => e, by simpa using em3, _, rfl⟩ (fun j σ H5 _ h => SqL.of (h.1 _ _ nym eys)) ?_ ?_
    · rintro j x σ H5 H6 hj ⟨k5, em5, y8, rfl⟩ ⟨rfl, ex⟩
      obtain ⟨t, et, rfl⟩ := map_at ex
      rw [List.length_map, lys] at hj
      obtain ⟨c, ec⟩ := at_of (xs := yetL z d) rfl hj
      have mc := List.mem_of_getElem? ec
      obtain ⟨g1, g2, hch⟩ := hit_yet mc ld u1
      have tc4 := tys j t c et ec
      have tc5 := k5 _ _ (ne_of tc4 em3 (fun z => nomatch z)) tc4
      have el5 := k5 _ _ (ne_of el3 em3 (fun z => nomatch z)) el3
      refine ⟨_, rfl, _, rfl, l, _, _, _, rfl, rfl, SqL.of el5, ints_atI (by omega), ?_⟩
      refine ⟨_, rfl, _, rfl, t, _, _, _, rfl, rfl, SqT.of tc5, ints_atI (by rw [hch.len]; exact u1), _, _, rfl, rfl, _, rfl, ?_⟩
      rw [decide_eq_true g1]
      refine iteT ?_
      refine ⟨_, rfl, _, rfl, l, _, _, _, rfl, rfl, SqL.of el5, ints_atI (by omega), _, rfl, _, _, rfl, rfl, _, _, rfl, rfl, _, rfl, ite2 (fun e => ?_) (fun e => ?_)⟩
      · have hh : hit d u c = true := g2.trans e
        have fn : find (metL z (List.replicate z.length 0) (ss.take i) 0 ++ ((((yetL z d).take j).filter (hit d u)).map fun c => (c, i))) c = none := by
          rw [find_app, old c mc, find_part, if_neg (fun q => not_take (yet_nodup z d) ec q.1)]
          rfl
        refine ⟨_, rfl, _, rfl, _, rfl, m, _, rfl, DPut.t (k := keyC c) em5 (by rw [keyC_map]; exact tc5) ?_, ?_⟩
        · have a1 := metL_len (ss := ss.take i) (z := z) (d := List.replicate z.length 0) (k := 0)
          have a2 := List.length_filter_le (hit d u) ((yetL z d).take j)
          have a3 : (yetL z d).length ≤ (allC z).length := List.length_filter_le ..
          have a4 : (allC z).length * (ss.take i).length ≤ 300 * 12 := Nat.mul_le_mul many (by rw [List.length_take]; omega)
          rw [mkM_len, List.length_append, List.length_map]
          rw [List.length_take] at a2
          omega
        rw [put_M i fn]
        refine ⟨fun c2 o nc e2 => ?_, ?_, _, rfl⟩
        · rw [upd_ne nc]
          exact k5 c2 o nc e2
        · rw [upd_same, filter_push (hit d u) ec, if_pos hh, List.map_append, List.append_assoc]
          rfl
      · have hh : hit d u c = false := g2.trans (Bool.eq_false_iff.mpr e)
        refine ⟨k5, ?_, _, rfl⟩
        rw [em5, filter_push (hit d u) ec, if_neg (by rw [hh]; simp), List.append_nil]
    · rintro σ H5 ⟨k5, em5, y8, rfl⟩
      rw [List.length_map, lys, List.take_length, yet_hit] at em5
      have eM : metL z (List.replicate z.length 0) (ss.take i) 0 ++ ((allC z).filter (hit d u)).map (fun c => (c, i)) = metL z (List.replicate z.length 0) (ss.take (i + 1)) 0 := by
        rw [take_at eu, metL_snoc, hD, List.length_take, show 0 + min i ss.length = i by omega]
      rw [eM] at em5
      have eys5 := k5 _ _ nym eys
      have s45 : Same H H5 := fun c o e => k5 c o (ne_of_none e nm0) (s6 c o e)
      have el5 := k5 _ _ (ne_of el3 em3 (fun z => nomatch z)) el3
      refine ⟨_, rfl, yo, rfl, ⟨_, SqL.of eys5⟩, fun D nD => ?_⟩
      refine lc_it walk_list (fun j H6 => Same H5 H6 ∧ ChoicesT H6 D (((yetL z d).take j).filter fun c => !hit d u c)) ⟨new_same nD, [], upd_same, rfl, fun i b c e => nomatch e⟩ (fun j H6 _ h => SqL.of (h.1 _ _ eys5)) ?_ ?_
      · rintro j x H6 H7 hj ⟨s7, hD7⟩ ⟨rfl, ex⟩
        obtain ⟨t, et, rfl⟩ := map_at ex
        rw [List.length_map, lys] at hj
        obtain ⟨c, ec⟩ := at_of (xs := yetL z d) rfl hj
        have mc := List.mem_of_getElem? ec
        have tc4 := tys j t c et ec
        have tc7 := s7 _ _ (k5 _ _ (ne_of tc4 em3 (fun z => nomatch z)) tc4)
        have fM : find (metL z (List.replicate z.length 0) (ss.take (i + 1)) 0) c = if hit d u c = true then some i else none := by
          rw [← eM, find_app, old c mc, find_part]
          have m1 : c ∈ allC z := (List.mem_filter.mp mc).1
          by_cases h : hit d u c = true
          · rw [if_pos ⟨m1, h⟩, if_pos h]
            rfl
          · rw [if_neg (fun q => h q.2), if_neg h]
            rfl
        refine ⟨rfl, ?_⟩
        refine ⟨_, rfl, _, rfl, m, _, rfl, DGet.t (k := keyC c) (s7 _ _ em5) (by rw [keyC_map]; exact tc7), _, rfl, ?_⟩
        rw [look_M, fM]
        obtain ⟨xs, exs, lxs, _⟩ := id hD7
        have lx : xs.length ≤ 300 := by
          have a2 := List.length_filter_le (fun c => !hit d u c) ((yetL z d).take j)
          have a3 : (yetL z d).length ≤ (allC z).length := List.length_filter_le ..
          rw [List.length_take] at a2
          omega
        by_cases h : hit d u c = true
        · rw [if_pos h]
          refine iteF ?_
          refine ⟨s7, ?_⟩
          rw [filter_push _ ec, if_neg (by rw [h]; simp), List.append_nil]
          exact hD7
        · rw [if_neg h]
          refine iteT ?_
          refine ⟨_, rfl, _, exs, by rw [List.length_map]; omega, own_same nD s7, ?_⟩
          rw [filter_push _ ec, if_pos (by rw [Bool.eq_false_iff.mpr h]; rfl)]
          exact hD7.grown (b2 := [t]) exs rfl rfl fun i b e eb ee => by
            cases i with
            | zero =>
              cases eb
              cases ee
              exact tc7
            | succ i => simp at eb
      rintro H6 ⟨s7, hD7⟩
      rw [List.length_map, lys, List.take_length, yet_next ld u1 u2] at hD7
      have el6 := s7 _ _ el5
      have em6 := s7 _ _ em5
      have nDl : D ≠ l := fun e => by rw [e, el5] at nD; cases nD
      have nD0 : H D = none := s45.free nD
      refine ⟨_, rfl, _, rfl, l, _, _, _, rfl, rfl, SqL.of el6, ints_atI (by omega), _, rfl, _, _, rfl, rfl, ?_⟩
      refine ⟨_, rfl, _, rfl, l, _, _, u.1, rfl, rfl, el6, ixN_nat (by rw [List.length_map]; omega), ?_⟩
      have nml2 : m ≠ l := ne_of em6 el6 (fun z => nomatch z)
      refine ⟨own_same nl' (s45.trans s7), D, nD0, ?_, ?_, ?_, _, _, _, _, rfl⟩
      · rw [upd_same, take_at eu, dn_snoc, hD, map_set]
        rfl
      · rw [upd_ne nml2]
        exact em6
      · rw [take_at eu, dn_snoc, hD]
        obtain ⟨ds, eds, lds, tds⟩ := hD7
        exact ⟨ds, by rw [upd_ne nDl]; exact eds, lds, fun i b c e1 e2 => by
          have := tds i b c e1 e2
          rw [upd_ne (ne_of this el6 (fun z => nomatch z))]
          exact this⟩
  · rintro σ H2 ⟨s5, yo, nyo, el, em, hyo, y5, y6, y7, y8, rfl⟩
    rw [List.length_map, lb, List.take_length] at em
    exact ⟨_, rfl, q m H2 s5 nm0 em fun _ _ _ => trivial⟩
end
end K24
end

section
set_option Elab.async false
set_option linter.all false
set_option maxRecDepth 100000
set_option maxHeartbeats 8000000
namespace K24
open PySem PySem.Spec PyProof.Rows L2 Gd Bx
abbrev sLR : Stmt := topS 11
abbrev nLR : List Str := ["_law_lengths", "_law_layers", "_law_met_here", "_law_counts", "_law_rest", "_law_number", "_law_lead", "_law_many", "_law_choice", "_law_again", "_law_found", "_law_kept"]
theorem scLR : FnScope nLR ["_law_lengths", "_law_layers", "_law_met_here"] (defScope sLR) := ⟨rfl, rfl, rfl, by decide +kernel, rfl, by decide +kernel, by decide +kernel⟩
def spLR (K : PySem.W.Frag) : Sp := fun vs H Q _ => ∃ (a b m : Addr) (z : List Int) (ss : List Slab), vs = [.ref a, .ref b, .ref m] ∧ SqL K H a (z.map V.int) ∧ SlabsAt K H b ss ∧ H m = some (.dT (mkM (metL z (List.replicate z.length 0) ss 0))) ∧
  Szs z ∧ Leg0 z ss ∧ ss.length ≤ 12 ∧ ∀ H', Same H H' → Q (.bl true) H'
theorem ints_same {K : PySem.W.Frag} {H : Hp} : ∀ ns : List Int, Paired (EqV K H 1) (ns.map V.int) (ns.map V.int)
  | [] => .nil
  | n :: ns => .cons (.inl ⟨rfl, rfl⟩) (ints_same ns)
section
variable {P : Program} {w : World} {K : PySem.W.Frag} {mg : Str → Option Value} {base : Heap} {f fM fL : Addr} {fd dM dL : FuncData}
theorem ok_LR (F : Fun K "_law_lists_right" "_law_lists_right" sLR f fd) (ml : mg "list" = none) (mr : mg "range" = none) (mn : mg "len" = none) (me : mg "enumerate" = none) (mp : mg "repr" = none)
    (FM : Fun K "met_by" "met_by" sMet fM dM) (GM : FnOk P w K mg base CX0 1 fM dM ["sizes", "slabs"] (spMet K)) (bM : Binds K dM ["sizes", "slabs"] []) (kM : KBinds K dM ["sizes", "slabs"] ["slabs", "sizes"] back2 back2) (gM : mg "met_by" = some (.ref fM))
    (FL : Fun K "left" "left" sLeft fL dL) (GL : FnOk P w K mg base CX0 1 fL dL ["sizes", "slabs"] (spLeft K)) (bL : Binds K dL ["sizes", "slabs"] []) (kL : KBinds K dL ["sizes", "slabs"] ["slabs", "sizes"] back2 back2) (gL : mg "left" = some (.ref fL)) :
    FnG P w K mg base CX0 2 f fd ["_law_lengths", "_law_layers", "_law_met_here"] (spLR K) := by
  refine okG F scLR (fun vs H Q E h => ?_) (fun cv A out s H vs Q E gd hr h => ?_)
  · obtain ⟨a, b, m, z, ss, rfl, _⟩ := h
    rfl
  obtain ⟨a, b, m, z, ss, rfl, ha, hb, hm, hz, hL, hlen, q⟩ := h
  have nd := scLR.nd
  have hu := hu_of hr
  have zl : sizeLine = 16777216 := rfl
  have hf := hL.fine
  have l3 := hz.l3
  refine ⟨_, pss_cons (ps_set (i := 3) nd rfl (.inl rfl) (pe_op op_rep (pe_lst (pa_cons pe_int pa_nil)) (pe_callB call_len_seq (by rfl) mn PySem.boot_len (pa_cons (pv 1) pa_nil))))
    (pss_cons (ps_set (i := 4) nd rfl (.inl rfl) (pe_callTy call_list_of (by rfl) ml (by decide +kernel) (pa_cons (pv 0) pa_nil)))
    (pss_cons (ps_for PassesOwn.never rfl (pi_enum (by rfl) me (pa_cons (pv 1) pa_nil))
        (pg_tup rfl (pgs_cons (pg_name (i := 5) nd rfl (.inr rfl)) (pgs_cons (pg_tup rfl (pgs_cons (pg_name (i := 6) nd rfl (.inl rfl)) (pgs_cons (pg_name (i := 7) nd rfl (.inl rfl)) pgs_nil))) pgs_nil)))
      (pss_cons (ps_asg (pe_callB call_len_seq (by rfl) mn PySem.boot_len (pa_cons (pe_lock (pe_lc (own := [("_law_choice", 8)]) (g := gName 8) rfl nd (pi_keys (pv 2)) (blkOk_by (N := nLR) (sc := defScope sLR) (by decide +kernel))
          (fun _ _ _ _ _ => pg_name (i := 8) nd rfl (Or.inl rfl)) (fun _ _ _ _ _ => pts_one (pt_cmpR op_eq (pe_dget hu (pv 2) (pv 8) (fun _ _ => rfl)) (pv 5) (nomark _))) (fun _ _ _ _ _ => pe_int))) pa_nil)) (pg_sub (pv 3) (pv 5) set_list))
      (pss_one (ps_asg (pe_op op_sub (pe_ix ix_list (pv 4) (pv 6) (fun _ _ => rfl)) (pv 7)) (pg_sub (pv 4) (pv 6) set_list)))))
    (pss_cons (ps_for PassesOwn.never rfl (pi_range1 (by rfl) mr (pa_cons pe_int pa_nil)) (pg_name (i := 9) nd rfl (.inl rfl))
      (pss_cons (ps_set (i := 10) nd rfl (.inl rfl) (pe_call GM hr (by rfl) gM FM.kp bM .nil pass0 (pa_cons (pv 0) (pa_cons (pv 1) pa_nil))))
      (pss_cons (ps_set (i := 11) nd rfl (.inl rfl) (pe_call GL hr (by rfl) gL FL.kp bL .nil pass0 (pa_cons (pv 0) (pa_cons (pv 1) pa_nil))))
      (pss_cons (ps_if (PW.pt (pw_or (pt_cmpR op_ne (pe_callB (call_repr gd hr.units) (by rfl) mp (by decide +kernel) (pa_cons (pv 10) pa_nil)) (pe_callB (call_repr gd hr.units) (by rfl) mp (by decide +kernel) (pa_cons (pv 3) pa_nil)) (nomark _))
          (pw_or1 (pt_cmpR op_ne (pe_callB (call_repr gd hr.units) (by rfl) mp (by decide +kernel) (pa_cons (pv 11) pa_nil)) (pe_callB (call_repr gd hr.units) (by rfl) mp (by decide +kernel) (pa_cons (pv 4) pa_nil)) (nomark _))))) pss_never pss_nil)
      (pss_cons (ps_expr (pe_bm PySem.F.plainAttrs_list PySem.F.slot_list_append PySem.F.type_list_append mt_append (pv 10) (pa_cons pe_int pa_nil)))
      (pss_cons (ps_expr (pe_bm0 PySem.F.plainAttrs_list PySem.F.slot_list_reverse PySem.F.type_list_reverse mt_reverse (pv 11)))
      (pss_one (ps_expr (pe_bm PySem.F.plainAttrs_list PySem.F.slot_list_append PySem.F.type_list_append mt_append (pv 11) (pa_cons pe_non pa_nil))))))))))
    (pss_one (ps_ret (pe_and (pe_cmpR (op_eqV hr.units) (pe_kw2 GM hr (by rfl) gM FM.kp kM pass0 (pk_cons (pv 1) (pk_cons (pv 0) pk_nil))) (pv 3) (nomark _))
      (pe_one (pe_cmpR (op_eqV hr.units) (pe_kw2 GL hr (by rfl) gL FL.kp kL pass0 (pk_cons (pv 1) (pk_cons (pv 0) pk_nil))) (pv 4) (nomark _))))))))), ?_⟩
  obtain ⟨bs, hbs, lb, tb⟩ := id hb
  refine ⟨(by show 1 ≤ sizeLine; decide), fun l0 nl0 => ?_⟩
  have s1 := new_same (o := .lst [.int 0]) nl0
  refine ⟨_, rfl, b, _, rfl, .inl (s1.seq hbs), ?_⟩
  refine ⟨l0, _, _, rfl, rfl, upd_same, by omega, by rw [List.length_map]; omega, by rw [List.length_map]; simp only [List.length_singleton]; omega, fun l nl => ?_⟩
  rw [List.length_map, Int.toNat_natCast, lb, rep_ints]
  have nl' : H l = none := s1.free nl
  have s2 := s1.trans (new_same (o := .lst ((List.replicate ss.length (0 : Int)).map V.int)) nl)
  refine ⟨_, rfl, a, _, rfl, .inl (s2.seq ha), fun r nr => ?_⟩
  have nrl : r ≠ l := fun e => by rw [e, upd_same] at nr; cases nr
  have nr0 : H r = none := s2.free nr
  have s3 := s2.trans (new_same (o := .lst (z.map V.int)) nr)
  refine ⟨_, rfl, b, _, rfl, s3.seq hbs, ?_⟩
  refine for_it walk_enum (fun i σ H1 => Same H H1 ∧ (∃ cs : List Int, H1 l = some (.lst (cs.map V.int)) ∧ cs.length = ss.length ∧ ∀ j, j < i → cs.getD j 0 = (mets z ss).getD j 0) ∧ H1 r = some (.lst ((lft z (ss.take i)).map V.int)) ∧
      ∃ y5 y6 y7, σ = [some (.ref a), some (.ref b), some (.ref m), some (.ref l), some (.ref r), y5, y6, y7, none, none, none, none])
    ⟨s3, ⟨_, by rw [upd_ne nrl.symm]; exact upd_same, List.length_replicate, fun j hj => absurd hj (by omega)⟩, upd_same, none, none, none, rfl⟩ (fun i σ H1 _ h => h.1.seq hbs) ?_ ?_
  · rintro i x σ H1 H2 hi ⟨s4, ⟨cs, el, lcs, hcs⟩, er, y5, y6, y7, rfl⟩ ⟨T, x1, x2, rfl, nT, rfl, ei, ex⟩
    cases ei
    obtain ⟨b1, e1, rfl⟩ := map_at ex
    obtain ⟨u, eu⟩ := at_of lb.symm (at_lt e1)
    have i_lt := at_lt eu
    obtain ⟨u1, u2⟩ := fine_at hf eu
    have jT := new_same (o := .tup [.int ((i : Nat) : Int), .ref b1]) nT
    have s6 := s4.trans jT
    have tt := same_tup s6 (tb i b1 u e1 eu)
    refine ⟨T, _, rfl, SqT.of upd_same, rfl, _, _, rfl, _, _, rfl, ⟨b1, _, rfl, tt, rfl, _, _, rfl, _, _, rfl, rfl, ?_⟩⟩
    have el3 := jT _ _ el
    have er3 := jT _ _ er
    have hm3 := s6 _ _ hm
    refine ⟨rfl, ?_⟩
    generalize upd H1 T (.tup [.int ((i : Nat) : Int), .ref b1]) = H4 at *
    refine ⟨m, _, hm3, trivial, fun od => ?_⟩
    refine ⟨_, rfl, m, od, rfl, .inr ⟨_, upd_same, fun D nD => ?_⟩⟩
    have nDm : D ≠ m := fun e => by rw [e, upd_same] at nD; cases nD
    have nD4 : H4 D = none := by rw [upd_ne nDm] at nD; exact nD
    have many := metL_len (ss := ss) (z := z) (d := List.replicate z.length 0) (k := 0)
    have many2 := hz.many z.length
    rw [List.take_length] at many2
    have many3 : (allC z).length * ss.length ≤ 300 * 12 := Nat.mul_le_mul many2 hlen
    generalize hM : metL z (List.replicate z.length 0) ss 0 = M at *
    refine lc_it walk_keysT (fun j H5 => (∀ c o, c ≠ m → H4 c = some o → H5 c = some o) ∧ H5 m = some (.frz od (.dT (mkM M))) ∧ H5 D = some (.lst (((M.take j).filter fun x => decide (x.2 = i)).map fun _ => V.int 1)))
      ⟨fun c o nc e => ?_, ?_, upd_same⟩ (fun j H5 _ h => h.2.1) ?_ ?_
    · rw [upd_ne (fun e2 => by rw [e2, nD4] at e; cases e), upd_ne nc]
      exact e
    · rw [upd_ne nDm.symm]
      exact upd_same
    · rintro j x H5 H6 hj ⟨k5, em5, eD⟩ ⟨rfl, k, v, t, ekv, rfl, et⟩
      rw [mkM_len] at hj
      obtain ⟨⟨c, n⟩, ecn⟩ := at_of (xs := M) rfl hj
      have e3 : (mkM M)[j]? = some (keyC c, V.int ((n : Nat) : Int)) := by
        unfold mkM
        rw [List.getElem?_map, ecn]
        rfl
      rw [e3] at ekv
      cases ekv
      have fo : find M c = some n := by
        rw [← hM]
        exact find_own hf (by rw [hM]; exact List.mem_of_getElem? ecn)
      refine ⟨rfl, ?_⟩
      refine ⟨_, rfl, _, rfl, m, _, rfl, .inr ⟨_, keyC c, t, .inr ⟨_, em5⟩, rfl, et, by rw [look_M, fo] <;> rfl⟩, ?_⟩
      refine ⟨_, rfl, rfl, _, rfl, ite2 (fun e => ?_) (fun e => ?_)⟩
      · have e : n = i := by
          have := V.int.inj (of_decide_eq_true e)
          omega
        refine ⟨_, eD, ?_, fun c2 o nc e2 => ?_, ?_, ?_⟩
        · rw [List.length_map]
          have := List.length_filter_le (fun x : List Int × Nat => decide (x.2 = i)) (M.take j)
          rw [List.length_take] at this
          omega
        · rw [upd_ne (fun e4 => by rw [e4, nD4] at e2; cases e2)]
          exact k5 c2 o nc e2
        · rw [upd_ne nDm.symm]
          exact em5
        · rw [upd_same, filter_push _ ecn, if_pos (decide_eq_true e), List.map_append]
          rfl
      · have e : ¬ n = i := fun z => e (decide_eq_true (by rw [z]))
        refine ⟨k5, em5, ?_⟩
        rw [eD, filter_push _ ecn, if_neg (by rw [decide_eq_false e]; simp), List.append_nil]
    rintro H5 ⟨k5, em5, eD⟩
    rw [mkM_len, List.take_length] at eD
    refine ⟨em5, ?_⟩
    have eD6 : upd H5 m (.dT (mkM M)) D = some (.lst ((M.filter fun x => decide (x.2 = i)).map fun _ => V.int 1)) := by
      rw [upd_ne nDm]
      exact eD
    refine ⟨D, _, rfl, .inl (SqL.of eD6), ?_⟩
    have s46 : Same H4 (upd H5 m (.dT (mkM M))) := fun c o e => by
      by_cases cm : c = m
      · rw [cm, upd_same, ← hm3, ← cm]
        exact e
      · rw [upd_ne cm]
        exact k5 c o cm e
    have el6 := s46 _ _ el3
    have er6 := s46 _ _ er3
    have cnt : (((M.filter fun x => decide (x.2 = i)).map fun _ => V.int 1).length : Int) = (mets z ss).getD i 0 := by
      have := counted hz.in60 hL eu
      rw [hM] at this
      rw [List.length_map, ← List.countP_eq_length_filter]
      exact this
    refine ⟨_, rfl, _, rfl, l, _, _, i, rfl, rfl, el6, ixN_nat (by rw [List.length_map]; omega), ?_⟩
    have nlr : l ≠ r := nrl.symm
    have er7 : upd (upd H5 m (.dT (mkM M))) l (.lst ((cs.map V.int).set i (.int (((M.filter fun x => decide (x.2 = i)).map fun _ => V.int 1).length : Nat)))) r = some (.lst ((lft z (ss.take i)).map V.int)) := by
      rw [upd_ne nrl]
      exact er6
    have ll : (lft z (ss.take i)).length = z.length := lft_len
    refine ⟨_, rfl, _, rfl, r, _, _, _, rfl, rfl, SqL.of er7, ints_atI (by omega), _, rfl, _, _, rfl, rfl, ?_⟩
    refine ⟨_, rfl, _, rfl, r, _, _, u.1, rfl, rfl, er7, ixN_nat (by rw [List.length_map]; omega), ?_⟩
    refine ⟨own_same nr0 (own_same nl' (s6.trans s46)), ⟨cs.set i ((mets z ss).getD i 0), ?_, by rw [List.length_set, lcs], fun j hj => ?_⟩, ?_, _, _, _, rfl⟩
    · rw [upd_ne nlr, upd_same, cnt, map_set]
    · rw [getD_set (by omega)]
      split
      · rename_i e
        rw [e]
      · exact hcs j (by omega)
    · rw [upd_same, lft_take eu, map_set]
      rfl
  · rintro σ H1 ⟨s4, ⟨cs, el, lcs, hcs⟩, er, y5, y6, y7, rfl⟩
    rw [List.length_map, lb, List.take_length] at er
    have ecs : cs = mets z ss := ext_getD (by rw [lcs, mets_len]) fun j hj => hcs j (by rw [List.length_map, lb]; omega)
    rw [ecs] at el
    have mb := mets_bound (by omega) hz.in60 hL
    have hz3 : (60 : Int) * 60 ^ z.length ≤ 12960000 := by
      have := hz.l1
      have : z.length = 1 ∨ z.length = 2 ∨ z.length = 3 := by omega
      rcases this with h | h | h <;> rw [h] <;> decide
    have mb2 : ∀ i ∈ mets z ss, i.natAbs ≤ 10 ^ 40 := fun i hi => by
      have := mb i hi
      have h2 : i.natAbs ≤ 12960000 := by omega
      exact Nat.le_trans h2 (by decide)
    have lI := lft_in0 hz.in60 hL
    obtain ⟨m1, m2, m3⟩ := ints_shown mb2 (by rw [mets_len]; omega)
    obtain ⟨r1, r2, r3⟩ := ints_shown (ns := lft z ss) (fun i hi => by
      have := lI i hi
      have h2 : i.natAbs ≤ 60 := by omega
      exact Nat.le_trans h2 (by decide)) (by rw [lft_len]; omega)
    refine ⟨2, rfl, by decide, by decide, ?_⟩
    refine for_it walk_range (fun i σ H2 => Same H1 H2 ∧ ∃ y5 y6 y7 y9 y10 y11, σ = [some (.ref a), some (.ref b), some (.ref m), some (.ref l), some (.ref r), y5, y6, y7, none, y9, y10, y11])
      ⟨fun _ _ e => e, _, _, _, _, _, _, rfl⟩ (fun _ _ _ _ _ => trivial) ?_ ?_
    · rintro i x σ H2 H3 hi ⟨s5, y5, y6, y7, y9, y10, y11, rfl⟩ ⟨rfl, rfl⟩
      have s05 := s4.trans s5
      refine ⟨_, rfl, _, rfl, a, b, z, ss, rfl, s05.seq ha, hb.same s05, hz.in60.mono (by omega), hL, by omega, fun fo H6 s6 nfo efo => ?_⟩
      have s06 := s05.trans s6
      refine ⟨_, rfl, _, rfl, a, b, z, ss, rfl, s06.seq ha, hb.same s06, hf, fun ko H7 s7 nko eko => ?_⟩
      have s17 := (s5.trans s6).trans s7
      have efo7 := s7 _ _ efo
      refine ⟨_, rfl, .ref fo, _, rfl, list_dp (SqL.of efo7), m1, m2, m3, ?_⟩
      refine ⟨_, rfl, .ref l, _, rfl, list_dp (SqL.of (s17 _ _ el)), m1, m2, m3, ?_⟩
      refine ⟨rfl, _, rfl, ?_⟩
      rw [decide_eq_true rfl]
      refine iteF ?_
      refine ⟨_, rfl, .ref ko, _, rfl, list_dp (SqL.of eko), r1, r2, r3, ?_⟩
      refine ⟨_, rfl, .ref r, _, rfl, list_dp (SqL.of (s17 _ _ er)), r1, r2, r3, ?_⟩
      refine ⟨rfl, _, rfl, ?_⟩
      rw [decide_eq_true rfl]
      refine iteF ?_
      have nfk : ko ≠ fo := (ne_of_none efo nko).symm
      refine ⟨_, rfl, .inl ⟨rfl, _, SqL.of efo7⟩, fo, _, _, rfl, rfl, efo7, by rw [List.length_map, mets_len]; omega, ?_⟩
      have eko8 : upd H7 fo (.lst ((mets z ss).map V.int ++ [.int 7])) ko = some (.lst ((lft z ss).map V.int)) := by
        rw [upd_ne nfk]
        exact eko
      refine ⟨_, rfl, .inl ⟨rfl, _, SqL.of eko8⟩, ko, _, rfl, rfl, eko8, ?_⟩
      refine ⟨_, rfl, .inl ⟨rfl, _, SqL.of upd_same⟩, ko, _, _, rfl, rfl, upd_same, by rw [List.length_reverse, List.length_map, lft_len]; omega, ?_⟩
      refine ⟨?_, _, _, _, _, _, _, rfl⟩
      have n1 : H1 fo = none := s5.free nfo
      have n2 : H1 ko = none := (s5.trans s6).free nko
      exact own_same n2 (own_same n2 (own_same n1 s17))
    · rintro σ H2 ⟨s5, y5, y6, y7, y9, y10, y11, rfl⟩
      have s05 := s4.trans s5
      refine ⟨_, rfl, _, rfl, a, b, z, ss, rfl, s05.seq ha, hb.same s05, hz.in60.mono (by omega), hL, by omega, fun fo H6 s6 nfo efo => ?_⟩
      have s16 := s5.trans s6
      refine ⟨_, rfl, 1, by decide, .inl ⟨fo, l, _, _, rfl, rfl, SqL.of efo, SqL.of (s16 _ _ el), ints_same _⟩, _, rfl, ?_⟩
      refine iteT ?_
      have s06 := s4.trans s16
      refine ⟨_, rfl, _, rfl, a, b, z, ss, rfl, s06.seq ha, hb.same s06, hf, fun ko H7 s7 nko eko => ?_⟩
      refine ⟨_, rfl, 1, by decide, .inl ⟨ko, r, _, _, rfl, rfl, SqL.of eko, SqL.of ((s16.trans s7) _ _ er), ints_same _⟩, ?_⟩
      exact q _ (s06.trans s7)
end
end K24
end

section
set_option Elab.async false
set_option linter.all false
set_option maxRecDepth 100000
set_option maxHeartbeats 8000000
namespace K24
open PySem PySem.Spec PyProof.Rows L2 Gd Bx
abbrev sTurn : Stmt := topS 12
abbrev nTurn : List Str := ["_law_feed_here", "_law_turn_here", "_law_lengths", "_law_layers", "_law_shown", "_law_met_here", "_law_choice", "_law_due"]
theorem scTurn : FnScope nTurn ["_law_feed_here"] (defScope sTurn) := ⟨rfl, rfl, rfl, by decide +kernel, rfl, by decide +kernel, by decide +kernel⟩
def spTurn : Sp := fun vs H Q _ => ∃ (p : Addr) (S : Int), vs = [.ref p] ∧ Feed H p S ∧ S ≤ 1000 ∧ ∀ H', Ex1 p H H' → Q (.bl true) H'
theorem hits_bound : ∀ {ss : List Slab} {d c : List Int} {k j : Nat}, j ∈ hits d ss c k → j < k + ss.length
  | [], _, _, _, _, h => nomatch h
  | s :: ss, d, c, k, j, h => by
    rw [hits] at h
    have tail : j ∈ hits (adv d s) ss c (k + 1) → j < k + (s :: ss).length := fun h => by
      have := hits_bound h
      rw [List.length_cons]
      omega
    split at h
    · rcases List.mem_cons.mp h with h | h
      · rw [h, List.length_cons]
        omega
      · exact tail h
    · exact tail h
theorem slabOf_bound {ss : List Slab} {d c : List Int} {j : Nat} (h : slabOf d ss c 0 = some j) : j < ss.length := by
  have := hits_bound (List.mem_of_head? h)
  omega
def dO : Option Nat → PyData
  | none => .none
  | some k => .int (k : Nat)
theorem dO_dp {K : PySem.W.Frag} {H : Hp} : ∀ o : Option Nat, Dp K H (oi o) (dO o)
  | none => .non
  | some k => .int _
theorem dO_shown {o : Option Nat} (h : ∀ k, o = some k → k ≤ 1000) : (dO o).showable = true ∧ (dO o).shown.length ≤ sizeLine ∧ (dO o).depth ≤ 60 := by
  cases o with
  | none => exact ⟨rfl, by decide +kernel, by decide⟩
  | some k =>
    have := h k rfl
    exact one_shown (by rw [Int.natAbs_natCast]; exact Nat.le_trans this (by decide))
theorem oi_get {o : Option Nat} : (o.map fun k => V.int ((k : Nat) : Int)).getD V.non = oi o := by
  cases o <;> rfl
/-- lengths and slabs, told -/
def dPair (s : Slab) : PyData := .tuple [.int (s.1 : Nat), .int s.2]
def dBoth (z : List Int) (ss : List Slab) : PyData := .tuple [.list (z.map .int), .list (ss.map dPair)]
theorem pairs_dp {K : PySem.W.Frag} {H : Hp} : ∀ {bs : List Addr} {ss : List Slab}, bs.length = ss.length → (∀ (i : Nat) (b : Addr) (s : Slab), bs[i]? = some b → ss[i]? = some s → SqT K H b [.int (s.1 : Nat), .int s.2]) → DpAll K H (bs.map V.ref) (ss.map dPair)
  | [], [], _, _ => .nil
  | b :: bs, s :: ss, hl, h => .cons (.tup (h 0 b s rfl rfl) (.cons (.int _) (.cons (.int _) .nil))) (pairs_dp (by simpa using hl) fun i b s e1 e2 => h (i + 1) b s e1 e2)
theorem pairs_leaves : ∀ {ss : List Slab}, (∀ s ∈ ss, (s.1 : Int) ≤ 60 ∧ s.2.natAbs ≤ 60) → PyData.leavesShortAll 100 (ss.map dPair) = true ∧ PyData.showableAll (ss.map dPair) = true ∧ PyData.weightAll (ss.map dPair) ≤ 500 * ss.length ∧ PyData.depthAll (ss.map dPair) ≤ 1
  | [], _ => ⟨rfl, rfl, Nat.zero_le _, Nat.zero_le _⟩
  | s :: ss, h => by
    obtain ⟨a, b, c, d⟩ := pairs_leaves (ss := ss) fun j hj => h j (by simp [hj])
    obtain ⟨h1, h2⟩ := h s (by simp)
    have big : (60 : Nat) ≤ 10 ^ 40 := by decide
    obtain ⟨e1, e2, e3⟩ := int_shown (i := ((s.1 : Nat) : Int)) (by rw [Int.natAbs_natCast]; omega)
    obtain ⟨f1, f2, f3⟩ := int_shown (i := s.2) (by omega)
    refine ⟨?_, ?_, ?_, ?_⟩
    · simp only [List.map_cons, PyData.leavesShortAll, a, Bool.and_true, dPair, PyData.leavesShort, Bool.and_eq_true, decide_eq_true_eq]
      exact ⟨e1, f1⟩
    · simp only [List.map_cons, PyData.showableAll, b, Bool.and_true, dPair, PyData.showable, Bool.and_eq_true, decide_eq_true_eq]
      exact ⟨e2, f2⟩
    · have w : (dPair s).weight ≤ 403 := by
        simp only [dPair, PyData.weight, PyData.weightAll] at e3 f3 ⊢
        omega
      simp only [List.map_cons, PyData.weightAll, List.length_cons]
      omega
    · simp only [List.map_cons, PyData.depthAll, dPair, PyData.depth]
      omega
theorem both_shown {z : List Int} {ss : List Slab} (hz : ∀ i ∈ z, i.natAbs ≤ 60) (lz : z.length ≤ 3) (hs : ∀ s ∈ ss, (s.1 : Int) ≤ 60 ∧ s.2.natAbs ≤ 60) (ls : ss.length ≤ 12) :
    (dBoth z ss).showable = true ∧ (dBoth z ss).shown.length ≤ sizeLine ∧ (dBoth z ss).depth ≤ 60 := by
  have big : (60 : Nat) ≤ 10 ^ 40 := by decide
  obtain ⟨a, b, c, d⟩ := ints_leaves (ns := z) fun i hi => Nat.le_trans (hz i hi) big
  obtain ⟨a2, b2, c2, d2⟩ := pairs_leaves hs
  have hsh := PyData.shown_le 100 (by decide) (dBoth z ss) (by simp only [dBoth, PyData.leavesShort, PyData.leavesShortAll, a, a2, Bool.and_true])
  have hw : (dBoth z ss).weight ≤ 20000 := by
    simp only [dBoth, PyData.weight, PyData.weightAll]
    omega
  have zl : sizeLine = 16777216 := rfl
  refine ⟨by simp only [dBoth, PyData.showable, PyData.showableAll, b, b2, Bool.and_true], by omega, ?_⟩
  simp only [dBoth, PyData.depth, PyData.depthAll, d]
  omega
theorem both_dp {K : PySem.W.Frag} {H : Hp} {t a b : Addr} {z : List Int} {ss : List Slab} (ht : SqT K H t [.ref a, .ref b]) (ha : SqL K H a (z.map V.int)) (hb : SlabsAt K H b ss) : Dp K H (.ref t) (dBoth z ss) := by
  obtain ⟨bs, h1, h2, h3⟩ := hb
  exact .tup ht (.cons (list_dp ha) (.cons (.lst h1 (pairs_dp h2 h3)) .nil))
section
variable {P : Program} {w : World} {K : PySem.W.Frag} {mg : Str → Option Value} {base : Heap} {f fF fS fM fR fC fO : Addr} {fd dF dS dM dR dC dO' : FuncData}
theorem ok_turn (F : Fun K "_law_turn" "_law_turn" sTurn f fd) (mr : mg "range" = none) (mp : mg "repr" = none)
    (FF : Fun K "_law_few" "_law_few" sFew fF dF) (GF : FnOk P w K mg base CX0 2 fF dF ["_law_feed_here"] spFew) (bF : Binds K dF ["_law_feed_here"] []) (gF : mg "_law_few" = some (.ref fF))
    (FS : Fun K "_law_some" "_law_some" sSome fS dS) (GS : FnOk P w K mg base CX0 2 fS dS ["_law_feed_here", "_law_lengths"] (spSome K)) (bS : Binds K dS ["_law_feed_here", "_law_lengths"] []) (gS : mg "_law_some" = some (.ref fS))
    (FM : Fun K "_law_met" "_law_met" sMetL fM dM) (GM : FnOk P w K mg base CX0 2 fM dM ["_law_lengths", "_law_layers"] (spMetL K)) (bM : Binds K dM ["_law_lengths", "_law_layers"] []) (gM : mg "_law_met" = some (.ref fM))
    (FR : Fun K "_law_lists_right" "_law_lists_right" sLR fR dR) (GR : FnG P w K mg base CX0 2 fR dR ["_law_lengths", "_law_layers", "_law_met_here"] (spLR K)) (bR : Binds K dR ["_law_lengths", "_law_layers", "_law_met_here"] []) (gR : mg "_law_lists_right" = some (.ref fR))
    (FC : Fun K "_law_choices" "_law_choices" sChoices fC dC) (GC : FnOk P w K mg base CX0 1 fC dC ["_law_lengths"] (spChoices K)) (bC : Binds K dC ["_law_lengths"] []) (gC : mg "_law_choices" = some (.ref fC))
    (FO : Fun K "slab_of" "slab_of" sOf fO dO') (GO : FnOk P w K mg base CX0 1 fO dO' ["slabs", "positions"] (spOf K)) (bO : Binds K dO' ["slabs", "positions"] []) (kO : KBinds K dO' ["slabs", "positions"] ["positions", "slabs"] back2 back2) (gO : mg "slab_of" = some (.ref fO)) :
    FnG P w K mg base CX0 3 f fd ["_law_feed_here"] spTurn := by
  refine okG F scTurn (fun vs H Q E h => ?_) (fun cv A out s H vs Q E gd hr h => ?_)
  · obtain ⟨p, S, rfl, _⟩ := h
    rfl
  obtain ⟨p, S, rfl, hF, hS, q⟩ := h
  have nd := scTurn.nd
  have hu := hu_of hr
  have zl : sizeLine = 16777216 := rfl
  have hr1 := hr.mono (show 1 ≤ 2 by decide)
  refine ⟨_, pss_cons (ps_for PassesOwn.never rfl (pi_range1 (by rfl) mr (pa_cons pe_int pa_nil)) (pg_name (i := 1) nd rfl (.inl rfl))
      (pss_cons (ps_set (i := 2) nd rfl (.inl rfl) (pe_call GF hr (by rfl) gF FF.kp bF .nil pass0 (pa_cons (pv 0) pa_nil)))
      (pss_cons (ps_set (i := 3) nd rfl (.inl rfl) (pe_call GS hr (by rfl) gS FS.kp bS .nil pass0 (pa_cons (pv 0) (pa_cons (pv 2) pa_nil))))
      (pss_cons (ps_set (i := 4) nd rfl (.inl rfl) (pe_callB (call_repr gd hr.units) (by rfl) mp (by decide +kernel) (pa_cons (pe_tup (pa_cons (pv 2) (pa_cons (pv 3) pa_nil))) pa_nil)))
      (pss_cons (ps_set (i := 5) nd rfl (.inl rfl) (pe_call GM hr (by rfl) gM FM.kp bM .nil pass0 (pa_cons (pv 2) (pa_cons (pv 3) pa_nil))))
      (pss_cons (ps_if (pt_not (pt_val (pe_callG GR gd hr (by rfl) gR FR.kp bR .nil pass0 (pa_cons (pv 2) (pa_cons (pv 3) (pa_cons (pv 5) pa_nil)))))) pss_never pss_nil)
      (pss_cons (ps_for PassesOwn.never rfl (pi_list (pe_call GC hr1 (by rfl) gC FC.kp bC .nil pass0 (pa_cons (pv 2) pa_nil))) (pg_name (i := 6) nd rfl (.inl rfl))
        (pss_cons (ps_set (i := 7) nd rfl (.inl rfl) (pe_callB (call_repr gd hr.units) (by rfl) mp (by decide +kernel) (pa_cons (pe_dget2 hu (pv 5) (pv 6) pe_non ⟨rfl, rfl, rfl, rfl⟩) pa_nil)))
        (pss_one (ps_if (PW.pt (pw_or (pt_cmpR op_ne (pe_callB (call_repr gd hr.units) (by rfl) mp (by decide +kernel) (pa_cons (pe_call GO hr1 (by rfl) gO FO.kp bO .nil pass0 (pa_cons (pv 3) (pa_cons (pv 6) pa_nil))) pa_nil)) (pv 7) (nomark _))
          (pw_or1 (pt_cmpR op_ne (pe_callB (call_repr gd hr.units) (by rfl) mp (by decide +kernel) (pa_cons (pe_kw2 GO hr1 (by rfl) gO FO.kp kO pass0 (pk_cons (pv 6) (pk_cons (pv 3) pk_nil))) pa_nil)) (pv 7) (nomark _))))) pss_never pss_nil))))
      (pss_one (ps_if (pt_cmpR op_ne (pe_callB (call_repr gd hr.units) (by rfl) mp (by decide +kernel) (pa_cons (pe_tup (pa_cons (pv 2) (pa_cons (pv 3) pa_nil))) pa_nil)) (pv 4) (nomark _)) pss_never pss_nil)))))))))
    (pss_one (ps_ret pe_bl)), ?_⟩
  refine ⟨3, rfl, by decide, by decide, ?_⟩
  refine for_it walk_range (fun i σ H1 => Ex1 p H H1 ∧ Feed H1 p (S + 58 * (i : Nat)) ∧ ∃ y1 y2 y3 y4 y5 y6 y7, σ = [some (.ref p), y1, y2, y3, y4, y5, y6, y7])
    ⟨fun _ _ _ e => e, hF.le (by omega), none, none, none, none, none, none, none, rfl⟩ (fun _ _ _ _ _ => trivial) ?_ ?_
  · rintro i x σ H1 H2 hi ⟨x1, f1, y1, y2, y3, y4, y5, y6, y7, rfl⟩ ⟨rfl, rfl⟩
    have hi3 : i < 3 := hi
    refine ⟨_, rfl, p, _, rfl, f1, by omega, fun l z H3 x3 f3 n3 e3 hz => ?_⟩
    have nlp := f1.not n3
    have l3 := hz.l3
    refine ⟨_, rfl, _, rfl, p, l, _, z, rfl, f3, by omega, e3, nlp, by omega, hz.in60, fun m ss H4 x4 f4 n4 em hL hlen => ?_⟩
    have e4 := x4 _ _ nlp e3
    have hf := hL.fine
    have x04 := (x1.trans x3).trans x4
    have bz : ∀ i ∈ z, i.natAbs ≤ 60 := fun i hi => by
      have := hz.in60 i hi
      omega
    have bs' : ∀ s ∈ ss, (s.1 : Int) ≤ 60 ∧ s.2.natAbs ≤ 60 := fun s hs => by
      obtain ⟨j, hj⟩ := List.mem_iff_getElem?.mp hs
      obtain ⟨hI, t1, t2, t3⟩ := Leg0.at_ hz.in60 hL hj
      have := hI _ (Bx.getD_mem (i := s.1) t1)
      rw [lft_len] at t1
      exact ⟨by omega, by omega⟩
    obtain ⟨w1, w2, w3⟩ := both_shown bz l3 bs' hlen
    refine ⟨_, rfl, _, rfl, (by show 2 ≤ sizeLine; decide), fun t nt => ?_⟩
    have s5 := new_same (o := .tup [.ref l, .ref m]) nt
    have e5 := s5 _ _ e4
    have em5 := em.at_.same s5
    refine ⟨.ref t, dBoth z ss, rfl, both_dp (SqT.of upd_same) (SqL.of e5) em5, w1, w2, w3, ?_⟩
    have f5 := f4.kept s5
    refine ⟨_, rfl, _, rfl, l, m, z, ss, rfl, SqL.of e5, em5, hz, hL, hlen, fun d H6 s6 n6 e6 _ => ?_⟩
    have s46 := s5.trans s6
    refine ⟨_, rfl, _, rfl, _, rfl, l, m, d, z, ss, rfl, SqL.of (s46 _ _ e4), em.at_.same s46, e6, hz, hL, hlen, fun H7 s7 => ?_⟩
    refine ⟨_, rfl, ?_⟩
    refine iteF ?_
    have s47 := s46.trans s7
    refine ⟨_, rfl, l, z, rfl, SqL.of (s47 _ _ e4), hz, fun c H8 s8 n8 hc => ?_⟩
    have s48 := s47.trans s8
    have e8 := (s7.trans s8) _ _ e6
    obtain ⟨bs, hbs, lb, tb⟩ := hc
    refine ⟨c, rfl, ⟨_, SqL.of hbs⟩, ?_⟩
    refine for_it walk_list (fun j σ H9 => Same H8 H9 ∧ ∃ y6 y7, σ = [some (.ref p), some (.int (0 + ((i : Nat) : Int))), some (.ref l), some (.ref m), some (.str (dBoth z ss).shown), some (.ref d), y6, y7])
      ⟨fun _ _ e => e, _, _, rfl⟩ (fun j σ H9 _ h => h.1.seq (SqL.of hbs)) ?_ ?_
    · rintro j x σ H9 H10 hj ⟨s9, y6, y7, rfl⟩ ⟨rfl, ex⟩
      obtain ⟨b1, e1, rfl⟩ := map_at ex
      obtain ⟨ch, ech⟩ := at_of lb.symm (at_lt e1)
      have et := s9 _ _ (tb j b1 ch e1 ech)
      have hmem := List.mem_of_getElem? ech
      have hch := allC_choice z ch hmem
      have ed := s9 _ _ e8
      have hd : valV (mkM (metL z (List.replicate z.length 0) ss 0)) (keyC ch) = (slabOf (List.replicate z.length 0) ss ch 0).map fun k => V.int ((k : Nat) : Int) := by
        rw [look_M, find_metL hmem]
        rfl
      obtain ⟨o1, o2, o3⟩ := dO_shown (o := slabOf (List.replicate z.length 0) ss ch 0) fun k e => by
        have := slabOf_bound e
        omega
      refine ⟨_, rfl, d, rfl, .inr ⟨_, .inl ed⟩, _, rfl, _, .inr ⟨_, keyC ch, b1, .inl ed, rfl, by rw [keyC_map]; exact et, hd.symm⟩, ?_⟩
      rw [oi_get]
      refine ⟨_, _, rfl, dO_dp _, o1, o2, o3, ?_⟩
      have s49 := s48.trans s9
      refine ⟨_, rfl, _, rfl, m, b1, ch, ss, rfl, em.at_.same s49, SqT.of et, by rw [hch.len]; exact hf, by rw [hch.len]; omega, fun Ha sa => ?_⟩
      rw [hch.len]
      refine ⟨_, _, rfl, dO_dp _, o1, o2, o3, ?_⟩
      refine ⟨_, rfl, rfl, _, rfl, ?_⟩
      rw [decide_eq_true rfl]
      refine iteF ?_
      refine ⟨_, rfl, _, rfl, m, b1, ch, ss, rfl, em.at_.same (s49.trans sa), SqT.of (sa _ _ et), by rw [hch.len]; exact hf, by rw [hch.len]; omega, fun Hb sb => ?_⟩
      rw [hch.len]
      refine ⟨_, _, rfl, dO_dp _, o1, o2, o3, ?_⟩
      refine ⟨_, rfl, rfl, _, rfl, ?_⟩
      rw [decide_eq_true rfl]
      refine iteF ?_
      exact ⟨(s9.trans sa).trans sb, _, _, rfl⟩
    · rintro σ H9 ⟨s9, y6, y7, rfl⟩
      have s49 := s48.trans s9
      refine ⟨_, rfl, _, rfl, (by show 2 ≤ sizeLine; decide), fun t2 nt2 => ?_⟩
      have sA := s49.trans (new_same (o := .tup [.ref l, .ref m]) nt2)
      refine ⟨.ref t2, dBoth z ss, rfl, both_dp (SqT.of upd_same) (SqL.of (sA _ _ e4)) (em.at_.same sA), w1, w2, w3, ?_⟩
      refine ⟨_, rfl, rfl, _, rfl, ?_⟩
      rw [decide_eq_true rfl]
      refine iteF ?_
      refine ⟨x04.trans (ex1_of_same sA), (f4.kept sA).le (by omega), _, _, _, _, _, _, _, rfl⟩
  · rintro σ H1 ⟨x1, f1, y1, y2, y3, y4, y5, y6, y7, rfl⟩
    exact q _ x1
end
end K24
end

section
set_option Elab.async false
set_option linter.all false
set_option maxRecDepth 100000
set_option maxHeartbeats 4000000
namespace K24
open PySem PySem.Spec PyProof.Rows L2 Gd Bx
abbrev sLaw : Stmt := topS 13
theorem scLaw : FnScope ["_law_script", "_law_k"] ["_law_script"] (defScope sLaw) :=
  ⟨rfl, rfl, rfl, by decide +kernel, rfl, by decide +kernel, by decide +kernel⟩
def spLaw (K : PySem.W.Frag) : Sp := fun vs H Q _ => ∃ (a : Addr) (ns : List Int), vs = [.ref a] ∧ SqL K H a (ns.map V.int) ∧ ns.length ≤ 63 ∧ ∀ H', Q (.bl true) H'
theorem list_by {K : PySem.W.Frag} {H H' : Hp} {p a : Addr} {xs : List V} (n : H p = none) (x : Ex1 p H H') (h : SqL K H a xs) : SqL K H' a xs := by
  rcases h with (h | ⟨o, h⟩) | h
  · exact .inl (.inl (x _ _ (ne_of_none h n) h))
  · exact .inl (.inr ⟨o, x _ _ (ne_of_none h n) h⟩)
  · exact .inr h
section
variable {P : Program} {w : World} {K : PySem.W.Frag} {mg : Str → Option Value} {base : Heap} {f fF fT : Addr} {fd dF dT : FuncData}
theorem ok_law (F : Fun K "law" "law" sLaw f fd) (mr : mg "range" = none) (mm : mg "min" = none) (mn : mg "len" = none)
    (FF : Fun K "_law_feed" "_law_feed" sFeed fF dF) (GF : FnOk P w K mg base CX0 1 fF dF ["_law_script", "_law_k"] (spFeed K)) (bF : Binds K dF ["_law_script", "_law_k"] []) (gF : mg "_law_feed" = some (.ref fF))
    (FT : Fun K "_law_turn" "_law_turn" sTurn fT dT) (GT : FnG P w K mg base CX0 3 fT dT ["_law_feed_here"] spTurn) (bT : Binds K dT ["_law_feed_here"] []) (gT : mg "_law_turn" = some (.ref fT)) :
    FnG P w K mg base CX0 4 f fd ["_law_script"] (spLaw K) := by
  refine okG F scLaw (fun vs H Q E h => ?_) (fun cv A out s H vs Q E gd hr h => ?_)
  · obtain ⟨a, ns, rfl, _⟩ := h
    rfl
  obtain ⟨a, ns, rfl, ha, hn, q⟩ := h
  have nd := scLaw.nd
  have hr1 := hr.mono (show 1 ≤ 3 by decide)
  refine ⟨_, pss_cons (ps_for PassesOwn.never rfl (pi_range1 (by rfl) mr (pa_cons (pe_callB (call_min2 rfl) (by rfl) mm (by decide +kernel) (pa_cons pe_int (pa_cons (pe_callB call_len_seq (by rfl) mn PySem.boot_len (pa_cons (pv 0) pa_nil)) pa_nil))) pa_nil)) (pg_name (i := 1) nd rfl (.inl rfl))
      (pss_one (ps_if (pt_not (pt_val (pe_callG GT gd hr (by rfl) gT FT.kp bT .nil pass0 (pa_cons (pe_call GF hr1 (by rfl) gF FF.kp bF .nil pass0 (pa_cons (pv 0) (pa_cons (pv 1) pa_nil))) pa_nil)))) pss_never pss_nil)))
    (pss_one (ps_ret (pe_callG GT gd hr (by rfl) gT FT.kp bT .nil pass0 (pa_cons (pe_lst (pa_cons pe_int (pa_cons pe_int (pa_cons pe_int pa_nil)))) pa_nil)))), ?_⟩
  refine ⟨_, rfl, a, _, rfl, .inl ha, 3, _, rfl, _, rfl, by split <;> omega, by split <;> omega, ?_⟩
  refine for_it walk_upto (fun i σ H1 => SqL K H1 a (ns.map V.int) ∧ ∃ y, σ = [some (.ref a), y]) ⟨ha, none, rfl⟩ (fun _ _ _ _ _ => trivial) ?_ ?_
  · rintro i x σ H1 H2 hi ⟨h1, y, rfl⟩ ⟨rfl, rfl⟩
    have hi3 : i ≤ 3 := by
      split at hi <;> omega
    refine ⟨_, rfl, _, rfl, a, ns, _, rfl, h1, by omega, by omega, fun p fs np fp => ?_⟩
    refine ⟨p, 0, rfl, fp, by omega, fun H3 x3 => ?_⟩
    refine ⟨_, rfl, ?_⟩
    refine iteF ?_
    exact ⟨list_by np (Ex1.at.trans x3) h1, _, rfl⟩
  · rintro σ H1 ⟨h1, y, rfl⟩
    refine ⟨(by show 3 ≤ sizeLine; decide), fun p np => ?_⟩
    exact ⟨p, 0, rfl, Feed.here (by omega) (by omega), by omega, fun H3 x3 => q H3⟩
end
end K24
end

section
set_option Elab.async false
set_option linter.all false
set_option maxRecDepth 100000
set_option maxHeartbeats 8000000
namespace K24
open PySem PySem.Spec PyProof.Rows L2 Gd
theorem all_mk {l : PySem.W.OpenLaw} {w : World} {K : PySem.W.Frag} {h : Heap} {mg : Str → Option Value} {fa : Addr} {f0 f1 f2 f3 f4 f5 f6 f7 f8 f9 f10 f11 : Addr}  (X : K.In h) (G : h.Ns mainGlobals mg) (hfa : mg "law" = some (.ref fa))
    {od0 an0 od1 an1 od2 an2 od3 an3 od4 an4 od5 an5 od6 an6 od7 an7 od8 an8 od9 an9 od10 an10 od11 an11 : Option Addr} {sl0 sl1 sl2 sl3 sl4 sl5 sl6 sl7 sl8 sl9 sl10 sl11 : Array (Option Value)} {oc0 kV0 dc0 pm0 cd0 ct0 oc1 kV1 dc1 pm1 cd1 ct1 oc2 kV2 dc2 pm2 cd2 ct2 oc3 kV3 dc3 pm3 cd3 ct3 oc4 kV4 dc4 pm4 cd4 ct4 oc5 kV5 dc5 pm5 cd5 ct5 oc6 kV6 dc6 pm6 cd6 ct6 oc7 kV7 dc7 pm7 cd7 ct7 oc8 kV8 dc8 pm8 cd8 ct8 oc9 kV9 dc9 pm9 cd9 ct9 oc10 kV10 dc10 pm10 cd10 ct10 oc11 kV11 dc11 pm11 cd11 ct11 : Value}
    (aF0 : PySem.W.nsIn K mainGlobals "slab_of" = some (some (.ref f0)))
    (lF0 : K.lookup f0 = some ⟨oc0, od0, .func (PySem.W.fnOf "slab_of" "slab_of" (defArgs sOf) (defBody sOf) (defScope sOf) .none kV0 dc0 pm0 an0 cd0 ct0), sl0⟩)
    (cF0 : PySem.W.codeIn K cd0 "slab_of" = true)
    (kF0 : PySem.W.keepIn K (.ref f0) = true)
    (aF1 : PySem.W.nsIn K mainGlobals "met_by" = some (some (.ref f1)))
    (lF1 : K.lookup f1 = some ⟨oc1, od1, .func (PySem.W.fnOf "met_by" "met_by" (defArgs sMet) (defBody sMet) (defScope sMet) .none kV1 dc1 pm1 an1 cd1 ct1), sl1⟩)
    (cF1 : PySem.W.codeIn K cd1 "met_by" = true)
    (kF1 : PySem.W.keepIn K (.ref f1) = true)
    (aF2 : PySem.W.nsIn K mainGlobals "left" = some (some (.ref f2)))
    (lF2 : K.lookup f2 = some ⟨oc2, od2, .func (PySem.W.fnOf "left" "left" (defArgs sLeft) (defBody sLeft) (defScope sLeft) .none kV2 dc2 pm2 an2 cd2 ct2), sl2⟩)
    (cF2 : PySem.W.codeIn K cd2 "left" = true)
    (kF2 : PySem.W.keepIn K (.ref f2) = true)
    (aF3 : PySem.W.nsIn K mainGlobals "_law_feed" = some (some (.ref f3)))
    (lF3 : K.lookup f3 = some ⟨oc3, od3, .func (PySem.W.fnOf "_law_feed" "_law_feed" (defArgs sFeed) (defBody sFeed) (defScope sFeed) .none kV3 dc3 pm3 an3 cd3 ct3), sl3⟩)
    (cF3 : PySem.W.codeIn K cd3 "_law_feed" = true)
    (kF3 : PySem.W.keepIn K (.ref f3) = true)
    (aF4 : PySem.W.nsIn K mainGlobals "_law_take" = some (some (.ref f4)))
    (lF4 : K.lookup f4 = some ⟨oc4, od4, .func (PySem.W.fnOf "_law_take" "_law_take" (defArgs sTake) (defBody sTake) (defScope sTake) .none kV4 dc4 pm4 an4 cd4 ct4), sl4⟩)
    (cF4 : PySem.W.codeIn K cd4 "_law_take" = true)
    (kF4 : PySem.W.keepIn K (.ref f4) = true)
    (aF5 : PySem.W.nsIn K mainGlobals "_law_few" = some (some (.ref f5)))
    (lF5 : K.lookup f5 = some ⟨oc5, od5, .func (PySem.W.fnOf "_law_few" "_law_few" (defArgs sFew) (defBody sFew) (defScope sFew) .none kV5 dc5 pm5 an5 cd5 ct5), sl5⟩)
    (cF5 : PySem.W.codeIn K cd5 "_law_few" = true)
    (kF5 : PySem.W.keepIn K (.ref f5) = true)
    (aF6 : PySem.W.nsIn K mainGlobals "_law_some" = some (some (.ref f6)))
    (lF6 : K.lookup f6 = some ⟨oc6, od6, .func (PySem.W.fnOf "_law_some" "_law_some" (defArgs sSome) (defBody sSome) (defScope sSome) .none kV6 dc6 pm6 an6 cd6 ct6), sl6⟩)
    (cF6 : PySem.W.codeIn K cd6 "_law_some" = true)
    (kF6 : PySem.W.keepIn K (.ref f6) = true)
    (aF7 : PySem.W.nsIn K mainGlobals "_law_choices" = some (some (.ref f7)))
    (lF7 : K.lookup f7 = some ⟨oc7, od7, .func (PySem.W.fnOf "_law_choices" "_law_choices" (defArgs sChoices) (defBody sChoices) (defScope sChoices) .none kV7 dc7 pm7 an7 cd7 ct7), sl7⟩)
    (cF7 : PySem.W.codeIn K cd7 "_law_choices" = true)
    (kF7 : PySem.W.keepIn K (.ref f7) = true)
    (aF8 : PySem.W.nsIn K mainGlobals "_law_met" = some (some (.ref f8)))
    (lF8 : K.lookup f8 = some ⟨oc8, od8, .func (PySem.W.fnOf "_law_met" "_law_met" (defArgs sMetL) (defBody sMetL) (defScope sMetL) .none kV8 dc8 pm8 an8 cd8 ct8), sl8⟩)
    (cF8 : PySem.W.codeIn K cd8 "_law_met" = true)
    (kF8 : PySem.W.keepIn K (.ref f8) = true)
    (aF9 : PySem.W.nsIn K mainGlobals "_law_lists_right" = some (some (.ref f9)))
    (lF9 : K.lookup f9 = some ⟨oc9, od9, .func (PySem.W.fnOf "_law_lists_right" "_law_lists_right" (defArgs sLR) (defBody sLR) (defScope sLR) .none kV9 dc9 pm9 an9 cd9 ct9), sl9⟩)
    (cF9 : PySem.W.codeIn K cd9 "_law_lists_right" = true)
    (kF9 : PySem.W.keepIn K (.ref f9) = true)
    (aF10 : PySem.W.nsIn K mainGlobals "_law_turn" = some (some (.ref f10)))
    (lF10 : K.lookup f10 = some ⟨oc10, od10, .func (PySem.W.fnOf "_law_turn" "_law_turn" (defArgs sTurn) (defBody sTurn) (defScope sTurn) .none kV10 dc10 pm10 an10 cd10 ct10), sl10⟩)
    (cF10 : PySem.W.codeIn K cd10 "_law_turn" = true)
    (kF10 : PySem.W.keepIn K (.ref f10) = true)
    (aF11 : PySem.W.nsIn K mainGlobals "law" = some (some (.ref f11)))
    (lF11 : K.lookup f11 = some ⟨oc11, od11, .func (PySem.W.fnOf "law" "law" (defArgs sLaw) (defBody sLaw) (defScope sLaw) .none kV11 dc11 pm11 an11 cd11 ct11), sl11⟩)
    (cF11 : PySem.W.codeIn K cd11 "law" = true)
    (kF11 : PySem.W.keepIn K (.ref f11) = true)
    (z_tuple : PySem.W.nsIn K mainGlobals "tuple" = some none)
    (z_list : PySem.W.nsIn K mainGlobals "list" = some none)
    (z_len : PySem.W.nsIn K mainGlobals "len" = some none)
    (z_all : PySem.W.nsIn K mainGlobals "all" = some none)
    (z_zip : PySem.W.nsIn K mainGlobals "zip" = some none)
    (z_enumerate : PySem.W.nsIn K mainGlobals "enumerate" = some none)
    (z_range : PySem.W.nsIn K mainGlobals "range" = some none)
    (z_repr : PySem.W.nsIn K mainGlobals "repr" = some none)
    (z_min : PySem.W.nsIn K mainGlobals "min" = some none)
    (z_abs : PySem.W.nsIn K mainGlobals "abs" = some none) :
    ∃ fd : FuncData, (∀ (s : Shared) (v : Value), BindsTo s fd ⟨[v], []⟩ [("_law_script", v)]) ∧ ∀ base : Heap, K.In base → base.Ns mainGlobals mg → FnG l.prog w K mg base CX0 4 fa fd ["_law_script"] (spLaw K) := by
  have e := hfa.symm.trans (PySem.W.mg_of X G aF11)
  cases e
  have F0 := fun_mk (st := sOf) lF0 cF0 kF0
  have b0 := F0.binds (ps := ["slabs", "positions"]) fun _ _ _ _ _ _ us hl => match us, hl with | [_, _], _ => rfl
  have m0 := PySem.W.mg_of X G aF0
  have F1 := fun_mk (st := sMet) lF1 cF1 kF1
  have b1 := F1.binds (ps := ["sizes", "slabs"]) fun _ _ _ _ _ _ us hl => match us, hl with | [_, _], _ => rfl
  have m1 := PySem.W.mg_of X G aF1
  have F2 := fun_mk (st := sLeft) lF2 cF2 kF2
  have b2 := F2.binds (ps := ["sizes", "slabs"]) fun _ _ _ _ _ _ us hl => match us, hl with | [_, _], _ => rfl
  have m2 := PySem.W.mg_of X G aF2
  have F3 := fun_mk (st := sFeed) lF3 cF3 kF3
  have b3 := F3.binds (ps := ["_law_script", "_law_k"]) fun _ _ _ _ _ _ us hl => match us, hl with | [_, _], _ => rfl
  have m3 := PySem.W.mg_of X G aF3
  have F4 := fun_mk (st := sTake) lF4 cF4 kF4
  have b4 := F4.binds (ps := ["_law_feed_here", "_law_many"]) fun _ _ _ _ _ _ us hl => match us, hl with | [_, _], _ => rfl
  have m4 := PySem.W.mg_of X G aF4
  have F5 := fun_mk (st := sFew) lF5 cF5 kF5
  have b5 := F5.binds (ps := ["_law_feed_here"]) fun _ _ _ _ _ _ us hl => match us, hl with | [_], _ => rfl
  have m5 := PySem.W.mg_of X G aF5
  have F6 := fun_mk (st := sSome) lF6 cF6 kF6
  have b6 := F6.binds (ps := ["_law_feed_here", "_law_lengths"]) fun _ _ _ _ _ _ us hl => match us, hl with | [_, _], _ => rfl
  have m6 := PySem.W.mg_of X G aF6
  have F7 := fun_mk (st := sChoices) lF7 cF7 kF7
  have b7 := F7.binds (ps := ["_law_lengths"]) fun _ _ _ _ _ _ us hl => match us, hl with | [_], _ => rfl
  have m7 := PySem.W.mg_of X G aF7
  have F8 := fun_mk (st := sMetL) lF8 cF8 kF8
  have b8 := F8.binds (ps := ["_law_lengths", "_law_layers"]) fun _ _ _ _ _ _ us hl => match us, hl with | [_, _], _ => rfl
  have m8 := PySem.W.mg_of X G aF8
  have F9 := fun_mk (st := sLR) lF9 cF9 kF9
  have b9 := F9.binds (ps := ["_law_lengths", "_law_layers", "_law_met_here"]) fun _ _ _ _ _ _ us hl => match us, hl with | [_, _, _], _ => rfl
  have m9 := PySem.W.mg_of X G aF9
  have F10 := fun_mk (st := sTurn) lF10 cF10 kF10
  have b10 := F10.binds (ps := ["_law_feed_here"]) fun _ _ _ _ _ _ us hl => match us, hl with | [_], _ => rfl
  have m10 := PySem.W.mg_of X G aF10
  have F11 := fun_mk (st := sLaw) lF11 cF11 kF11
  have m11 := PySem.W.mg_of X G aF11
  have y_tuple := PySem.W.mg_none_of X G z_tuple
  have y_list := PySem.W.mg_none_of X G z_list
  have y_len := PySem.W.mg_none_of X G z_len
  have y_all := PySem.W.mg_none_of X G z_all
  have y_zip := PySem.W.mg_none_of X G z_zip
  have y_enumerate := PySem.W.mg_none_of X G z_enumerate
  have y_range := PySem.W.mg_none_of X G z_range
  have y_repr := PySem.W.mg_none_of X G z_repr
  have y_min := PySem.W.mg_none_of X G z_min
  have y_abs := PySem.W.mg_none_of X G z_abs
  refine ⟨PySem.W.fnOf "law" "law" (defArgs sLaw) (defBody sLaw) (defScope sLaw) .none kV11 dc11 pm11 an11 cd11 ct11, fun s v => .of_eq rfl, fun base _ _ => ?_⟩
  have k_slab_of := back2_of (p0 := "slabs") (p1 := "positions") F0 fun _ _ _ _ _ _ _ _ => rfl
  have k_met_by := back2_of (p0 := "sizes") (p1 := "slabs") F1 fun _ _ _ _ _ _ _ _ => rfl
  have k_left := back2_of (p0 := "sizes") (p1 := "slabs") F2 fun _ _ _ _ _ _ _ _ => rfl
  have gOf := ok_of (P := l.prog) (w := w) (base := base) F0 y_enumerate y_all y_zip
  have gMet := ok_met (P := l.prog) (w := w) (base := base) F1 y_list y_enumerate
  have gLeft := ok_left (P := l.prog) (w := w) (base := base) F2 y_list
  have gFeed := ok_feed (P := l.prog) (w := w) (base := base) F3 y_len y_abs
  have gFew := ok_few (K := K) (P := l.prog) (w := w) (base := base) F5 y_range F4 b4 m4
  have gSome := ok_some (K := K) (P := l.prog) (w := w) (base := base) F6 y_list y_range y_len F4 b4 m4
  have gChoices := ok_choices (K := K) (P := l.prog) (w := w) (base := base) F7 y_range (mg := mg)
  have gMetL := ok_metL (P := l.prog) (w := w) (base := base) F8 y_len y_enumerate F7 gChoices b7 m7
  have gLR := ok_LR (P := l.prog) (w := w) (base := base) F9 y_list y_range y_len y_enumerate y_repr F1 gMet b1 k_met_by m1 F2 gLeft b2 k_left m2
  have gTurn := ok_turn (P := l.prog) (w := w) (base := base) F10 y_range y_repr F5 gFew b5 m5 F6 gSome b6 m6 F8 gMetL b8 m8 F9 gLR b9 m9 F7 gChoices b7 m7 F0 gOf b0 k_slab_of m0
  exact ok_law F11 y_range y_min y_len F3 gFeed b3 m3 F10 gTurn b10 m10

end K24
open PySem PySem.W PyProof.Rows
set_option maxRecDepth 100000 in
set_option maxHeartbeats 0 in
theorem PySem.Challenge.cw_plansamid_k24_choices_met_by_slabs_holds : PySem.Challenge.rw_plansamid_k24_choices_met_by_slabs.Holds := by
  w_on; o_law; k_head; (case hw => w_witness2)
  k_fill
  refine Gd.walkG (l := PySem.Challenge.rw_plansamid_k24_choices_met_by_slabs) (m := 63) (n := 4) (x := "_law_script") (sp := K24.spLaw) rfl (by decide) rfl ⟨rfl, by decide, by decide⟩ (fun w h Y => PySem.W.kIn_of Y) ?F ?S
  case S =>
    intro K H a ns h1 _ _ h4; exact ⟨a, ns, rfl, h4, h1, fun _ => rfl⟩
  case F =>
    intro w mg fa h KX G hmg
    refine' K24.all_mk KX G hmg ?aF0 ?lF0 ?cF0 ?kF0 ?aF1 ?lF1 ?cF1 ?kF1 ?aF2 ?lF2 ?cF2 ?kF2 ?aF3 ?lF3 ?cF3 ?kF3 ?aF4 ?lF4 ?cF4 ?kF4 ?aF5 ?lF5 ?cF5 ?kF5 ?aF6 ?lF6 ?cF6 ?kF6 ?aF7 ?lF7 ?cF7 ?kF7 ?aF8 ?lF8 ?cF8 ?kF8 ?aF9 ?lF9 ?cF9 ?kF9 ?aF10 ?lF10 ?cF10 ?kF10 ?aF11 ?lF11 ?cF11 ?kF11 ?z_tuple ?z_list ?z_len ?z_all ?z_zip ?z_enumerate ?z_range ?z_repr ?z_min ?z_abs
    (case aF0 => k_is)
    (case lF0 => k_is)
    (case cF0 => k_is)
    (case kF0 => k_is)
    (case aF1 => k_is)
    (case lF1 => k_is)
    (case cF1 => k_is)
    (case kF1 => k_is)
    (case aF2 => k_is)
    (case lF2 => k_is)
    (case cF2 => k_is)
    (case kF2 => k_is)
    (case aF3 => k_is)
    (case lF3 => k_is)
    (case cF3 => k_is)
    (case kF3 => k_is)
    (case aF4 => k_is)
    (case lF4 => k_is)
    (case cF4 => k_is)
    (case kF4 => k_is)
    (case aF5 => k_is)
    (case lF5 => k_is)
    (case cF5 => k_is)
    (case kF5 => k_is)
    (case aF6 => k_is)
    (case lF6 => k_is)
    (case cF6 => k_is)
    (case kF6 => k_is)
    (case aF7 => k_is)
    (case lF7 => k_is)
    (case cF7 => k_is)
    (case kF7 => k_is)
    (case aF8 => k_is)
    (case lF8 => k_is)
    (case cF8 => k_is)
    (case kF8 => k_is)
    (case aF9 => k_is)
    (case lF9 => k_is)
    (case cF9 => k_is)
    (case kF9 => k_is)
    (case aF10 => k_is)
    (case lF10 => k_is)
    (case cF10 => k_is)
    (case kF10 => k_is)
    (case aF11 => k_is)
    (case lF11 => k_is)
    (case cF11 => k_is)
    (case kF11 => k_is)
    (case z_tuple => k_is)
    (case z_list => k_is)
    (case z_len => k_is)
    (case z_all => k_is)
    (case z_zip => k_is)
    (case z_enumerate => k_is)
    (case z_range => k_is)
    (case z_repr => k_is)
    (case z_min => k_is)
    (case z_abs => k_is)
end
