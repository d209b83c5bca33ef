import PyProof.Rows.All
import Wide.All
import OpenK.AllK
import Wide.FinOn
import HandS.ForMost
import HandS.ForExc
import HandS.EndBits
import HandS.IsInst
import PyProof.ReprRoads
import PyProof.ReprLen
import PyProof.FitsInt
import PyProof.NeKinds
import HandS.Zip
import KE.GoesZip
import KE.GoesMore
import HandS.Walk
import KE.GoesEnum
import PyProof.EnumFor
import HandS.TupLe
import HandS.Conv
import HandS.Codes
import HandS.TupAny
import HandS.Style
import PySem.Challenge.RW_plansamid_k28_dropped_early

section
set_option Elab.async false
set_option linter.all false
set_option maxRecDepth 100000
set_option maxHeartbeats 4000000
/-! A def's promise where no text of a container is being put together around it (so that repr is served). -/
namespace Gd
open PySem PySem.Spec PyProof.Rows L2

/-- no container is amid its own text -/
def Free (A : Around) : Prop := A.guards = some []

structure FnG (P : Program) (w : World) (K : PySem.W.Frag) (mg : Str → Option Value)
    (base : Heap) (cx : CXT) (n : Nat) (f : Addr) (fd : FuncData) (ps : List Str) (sp : Sp) : Prop where
  len : ∀ vs H Q E, sp vs H Q E → vs.length = ps.length
  run : ∀ (A : Around) (out : List Env) (s : Shared) (H : Hp) (args : Args) (us : List Value)
      (vs : List V) (Q : VK) (E : XK), Free A → Room n A → Env0 P w K mg base A out s H →
      BindsTo s fd args (ps.zip us) → Vals vs us → sp vs H Q E →
      codeAny (model P w) A (.call (.ref f) args) (CR cx out P w H s Q E) s

section
variable {P : Program} {w : World} {K : PySem.W.Frag} {mg : Str → Option Value} {base : Heap} {cx : CXT}
theorem FnG.ofOk {n : Nat} {f : Addr} {fd : FuncData} {ps : List Str} {sp : Sp}
    (F : FnOk P w K mg base cx n f fd ps sp) : FnG P w K mg base cx n f fd ps sp :=
  ⟨F.len, fun A out s H args us vs Q E _ => F.run A out s H args us vs Q E⟩
theorem FnG.mono {m n : Nat} {f : Addr} {fd : FuncData} {ps : List Str} {sp : Sp}
    (F : FnG P w K mg base cx m f fd ps sp) (h : m ≤ n) : FnG P w K mg base cx n f fd ps sp :=
  ⟨F.len, fun A out s H args us vs Q E g r => F.run A out s H args us vs Q E g (r.mono h)⟩
end

section
variable {X : Cx} {cx : CXT} {n : Nat} {f : Addr} {fd : FuncData} {ps : List Str} {sp : Sp}
  {dvs : List V} {ds : List Value} {E : XK} {x : Str} {p pos : Pos} {e : Expr} {es : List Expr} {t : TA}

theorem run_g {pins : List (Addr × Obj)} {σ : L2.St} {H : Hp} {s : Shared} {Q : VK} {us : List Value} {vs : List V}
    (F : FnG X.prog X.w X.K X.mg X.base cx n f fd ps sp) (g : Free X.A) (hr : Room n X.A)
    (hb : Binds X.K fd ps ds) (hd : Vals dvs ds) (hx : Passes cx X E)
    (I : Inv X pins σ H s) (r : Vals vs us) (h : sp (vs ++ dvs) H Q E) :
    wpAny (model X.prog X.w) X.A (call (.ref f) us) (EP X pins σ Q) X.xe s := by
  have rr : Vals (vs ++ dvs) (us ++ ds) := r.append hd
  have hl : (us ++ ds).length = ps.length := (Paired.length rr).symm.trans (F.len _ _ _ _ h)
  have all := F.run X.A X.stack s H ⟨us, []⟩ (us ++ ds) (vs ++ dvs) Q E g hr I.env0 (hb s us I.kIn hl) rr h
  refine wpAny_call (codeAny_mono all ?_)
  intro o s' z
  cases o with
  | error er => exact hx pins σ H s er s' I z
  | ok fl =>
    cases fl with
    | ret u => exact I.after z
    | _ => exact False.elim z

theorem pe_callG (F : FnG X.prog X.w X.K X.mg X.base cx n f fd ps sp) (g : Free X.A) (hr : Room n X.A)
    (hg : Gl X x) (hm : X.mg x = some (.ref f)) (hk : PySem.W.keepIn X.K (.ref f) = true)
    (hb : Binds X.K fd ps ds) (hd : Vals dvs ds) (hx : Passes cx X E) (ha : PA X (e :: es) t)
    (hdb : (x == ("__debug__" : Str)) = false := by decide)
    (he : starEach (e :: es) X.env = (false, eval e X.env) :: starEach es X.env := by rfl)
    (hpl : (backTo pos (starEach es X.env)).any (·.1) = false := by rfl) :
    PE X (.Call (.Name x p) (e :: es) [] pos) (tCall sp dvs E t) := by
  constructor
  intro pins s σ H Q I h
  refine wpAny_Call_Name_kw (ld_glob I hg hm ?_ hdb)
  have args := ha.run pos pins s σ H _ I h
  refine PySem.W.callWith_K (h₀ := X.base) I.ok.mod.kin hk (thn args ?_) he hpl
  rintro us s1 ⟨vs, H1, J, r, q⟩
  exact ⟨J.kIn, run_g F g hr hb hd hx J r q⟩
end

/-! ### by the body -/
section
variable {P : Program} {w : World} {K : PySem.W.Frag} {mg : Str → Option Value} {base : Heap}
theorem FnG.body {cx : CXT} {n : Nat} {f : Addr} {nm ql : Str} {pr : Arguments} {bd : List Stmt} {sc : Scope}
    {dV kV dc pm cv ct oc : Value} {an od : Option Addr} {sl : Array (Option Value)} {N ps : List Str} {sp : Sp}
    (lk : K.lookup f = some ⟨oc, od, .func (PySem.W.fnOf nm ql pr bd sc dV kV dc pm an cv ct), sl⟩)
    (hc : PySem.W.codeIn K cv ql = true) (S : FnScope N ps sc) (len : ∀ vs H Q E, sp vs H Q E → vs.length = ps.length)
    (hb : ∀ (A : Around) (out : List Env) (s : Shared) (H : Hp) (vs : List V) (Q : VK) (E : XK),
      Free (A.deeper (envOfC ql sc s.heap.objs.size f cv)) → Room n (A.deeper (envOfC ql sc s.heap.objs.size f cv)) →
      sp vs H Q E → ∃ t, PSs (cxOf cx P w K mg base N ql sc f cv A out s H E) bd t ∧
        t { nx := fun _ H' => Q .non H', rt := Q } (start N vs) H) :
    FnG P w K mg base cx (n + 1) f (PySem.W.fnOf nm ql pr bd sc dV kV dc pm an cv ct) ps sp := by
  refine ⟨len, ?_⟩
  intro A out s H args us vs Q E g hr e0 hbd r hsp
  have hl := len _ _ _ _ hsp
  have KX : K.In s.heap := e0.mod.kin.keeps fun b o e => (e0.bs b o e).1
  have lim : s.heap.NoLimit := e0.mod.nolimit.keeps fun b o e => (e0.bs b o e).1
  have kinds : ∀ y ∈ ps.zip us, sc.names.lookup y.1 = some .local ∨
      (sc.names.lookup y.1 = some .cell ∧
        ((cellsFrom (s.heap.objs.size + 1) sc.names []).lookup y.1).isSome = true) := by
    rintro ⟨y, v⟩ hy
    rcases S.par y (List.of_mem_zip hy).1 with q | q
    · left; exact q
    · right; exact ⟨q, PySem.W.cellsFrom_some _ _ _ (.inl q)⟩
  have code := PySem.W.codeRec_of KX hc
  refine codeAny_call_function hr.depth (KX _ _ lk) rfl S.co S.gen rfl code (hbd _ _ _ _ ?_)
  refine wpAny_newFunctionEnv_cells S.kind kinds ?_
  intro env he s1 x
  subst he
  refine ⟨lim.keeps x.toInCall.keep, codeAny_func ?_⟩
  obtain ⟨t, ht, hq⟩ := hb A out s H vs Q E g (hr.deeper _) hsp
  have I := inv_start (CX := cx) (P := P) (w := w) (E := E) S hr.hd e0 hl r x
  refine wpAny_mono (ht.run [] s1 (start N vs) H _ I hq) ?_ fun er s' z => z
  intro fl s' z
  cases fl with
  | ret u =>
    obtain ⟨v, σ', H', J, rv, q⟩ := z
    exact ⟨v, H', J.os, J.bare, J.base, J.hok, rv, q⟩
  | next =>
    obtain ⟨σ', H', J, q⟩ := z
    exact ⟨V.non, H', J.os, J.bare, J.base, J.hok, rfl, q⟩
  | brk =>
    obtain ⟨_, _, _, q⟩ := z
    exact q.elim
  | cont =>
    obtain ⟨_, _, _, q⟩ := z
    exact q.elim

theorem okG {x ql : Str} {st : Stmt} {f : Addr} {fd : FuncData} {N ps : List Str} {n : Nat} {sp : Sp}
    (F : Fun K x ql st f fd) (S : FnScope N ps (defScope st)) (len : ∀ vs H Q E, sp vs H Q E → vs.length = ps.length)
    (hb : ∀ (cv : Value) (A : Around) (out : List Env) (s : Shared) (H : Hp) (vs : List V) (Q : VK) (E : XK),
      Free (A.deeper (envOfC ql (defScope st) s.heap.objs.size f cv)) →
      Room n (A.deeper (envOfC ql (defScope st) s.heap.objs.size f cv)) → sp vs H Q E →
      ∃ t, PSs (cxOf CX0 P w K mg base N ql (defScope st) f cv A out s H E).nox (defBody st) t ∧
        t { nx := fun _ H' => Q .non H', rt := Q } (start N vs) H) :
    FnG P w K mg base CX0 (n + 1) f fd ps sp := by
  obtain ⟨oc, od, kV, dc, pm, an, cv, ct, sl, rfl, lk, hc⟩ := F.ex
  refine FnG.body lk hc S len ?_
  intro A out s H vs Q E g hr hsp
  obtain ⟨t, h, q⟩ := hb cv A out s H vs Q E g hr hsp
  exact ⟨t, h.nox, q⟩
end
end Gd
end

section
set_option Elab.async false
set_option linter.all false
set_option maxRecDepth 100000
set_option maxHeartbeats 4000000
/-! The end of a law's row from a promise of Gd.FnG. -/
namespace Gd
open PySem PySem.Spec PyProof.Rows L2

/-- what is wanted of the law's own call -/
def Yes (s1 : Shared) (r : Result) (s' : Shared) : Prop :=
  r = .ok (.ret (.bool true)) ∧ OldK s1.heap s'.heap ∧ s'.os = s1.os ∧ AllBare s'.gens

section
variable {P : Program} {w : World} {K : PySem.W.Frag} {mg mb : Str → Option Value} {cx : CXT} {n : Nat}
  {fa a : Addr} {fd : FuncData} {x : Str} {sp : Sp} {s1 : Shared} {vs : List Value} {ns : List Int}

theorem begun (H : Hp) (only : Only H) (hS : SqL K H a (ns.map V.int)) (hok : HOk P w H s1.heap)
    (at_a : ∀ b, H b ≠ none → b = a) (noK : H a ≠ none → K.lookup a = none)
    (KX : K.In s1.heap) (hns : s1.heap.Ns mainGlobals mg) (hb : s1.heap.Ns builtinsNs mb)
    (hbb : ∀ y : Str, y ≠ "__name__" → mb y = bootBuiltins y) (hlim : s1.heap.NoLimit) (hg : s1.gens = #[])
    (ha : s1.heap.get? a = some { cls := .type "list", data := .seq vs.toArray }) (hr : Room n callerA)
    (F : ∀ base : Heap, K.In base → base.Ns mainGlobals mg → FnG P w K mg base cx n fa fd [x] sp)
    (hbind : ∀ (s : Shared) (u : Value), BindsTo s fd ⟨[u], []⟩ [(x, u)])
    (hsp : sp [.ref a] H (fun v _ => v = .bl true) fun _ _ _ => False)
    (hCX : ∀ e s', cx [] H s1 (fun _ _ _ => False) e s' → False) :
    codeAny (model P w) callerA (.call (.ref fa) ⟨[.ref a], []⟩) (Yes s1) s1 := by
  -- the base: what isn't tracked
  let B := hidT s1.heap H
  have toB : ∀ {b : Addr} {o : Obj}, s1.heap.get? b = some o → H b = none → B.get? b = some o :=
    fun e z => hidT_get e z
  have notDict : ∀ {b : Addr} {o : Obj} {es : Array DictEntry} {m : Nat},
      s1.heap.get? b = some o → o.data = .dict es m → H b = none := by
    intro b o es m e d
    cases q : H b with
    | none => rfl
    | some u =>
      exfalso
      have eb : b = a := at_a b (by simp [q])
      rw [eb, ha] at e
      cases Option.some.inj e
      cases d
  have nsB : ∀ {b : Addr} {m : Str → Option Value}, s1.heap.Ns b m → B.Ns b m := by
    rintro b m ⟨o, es, ep, e, d, r⟩
    exact ⟨o, es, ep, toB e (notDict e d), d, r⟩
  have inB : K.In B := by
    intro b o e
    refine toB (KX b o e) ?_
    cases q : H b with
    | none => rfl
    | some u =>
      have eb : b = a := at_a b (by simp [q])
      have z := noK (by rw [← eb, q]; simp)
      rw [eb, z] at e
      cases e
  have modB : Mod K mg B := by
    obtain ⟨mc, l1, l2⟩ := hlim
    exact ⟨inB, nsB hns, ⟨mb, nsB hb, hbb⟩, ⟨mc, nsB l1, l2⟩⟩
  have nil : ∀ {b : Addr}, b ∉ ([] : List Addr) := fun z => nomatch z
  have e0 : Env0 P w K mg B callerA [] s1 H :=
    ⟨rfl, modB, fun b o e => of_hidT e, Nat.le_of_eq (hidT_size _ _), trivial, fun b z => (nil z).elim, hok, .of_eq hg⟩
  have got := (F B inB (nsB hns)).run callerA [] s1 H ⟨[.ref a], []⟩ [.ref a] [.ref a] _ _ rfl hr e0
    (hbind s1 (.ref a)) (.cons rfl .nil) hsp
  refine codeAny_mono got ?_
  intro r s' z
  cases r with
  | error er => exact (hCX er s' z).elim
  | ok fl =>
    cases fl with
    | ret u =>
      obtain ⟨v, H', os, bare, un, hok', rv, q⟩ := z
      obtain rfl : v = .bl true := q
      obtain rfl : u = Value.bool true := rv
      refine ⟨rfl, OldK.of_keep ?_, os, bare⟩
      intro b o e
      cases q : H b with
      | none => exact un.keep b o e q (fun z => (nil z).elim) (fun z => (nil z).elim)
      | some u =>
        rcases only b with z | ⟨ob, xs, z⟩
        · exact nomatch q.symm.trans z
        · obtain ⟨g1, _⟩ := hok b _ z
          obtain ⟨g2, _⟩ := hok' b _ (un.frzs b ob _ z)
          exact g2.trans (g1.symm.trans e)
    | _ => exact False.elim z

theorem law_callG (KX : K.In s1.heap) (hns : s1.heap.Ns mainGlobals mg) (hb : s1.heap.Ns builtinsNs mb)
    (hbb : ∀ y : Str, y ≠ "__name__" → mb y = bootBuiltins y) (hlim : s1.heap.NoLimit) (hg : s1.gens = #[])
    (ha : s1.heap.get? a = some { cls := .type "list", data := .seq vs.toArray }) (hi : IntsAre vs ns)
    (hl : ns.length ≤ sizeLine) (hr : Room n callerA)
    (F : ∀ base : Heap, K.In base → base.Ns mainGlobals mg → FnG P w K mg base cx n fa fd [x] sp)
    (hbind : ∀ (s : Shared) (u : Value), BindsTo s fd ⟨[u], []⟩ [(x, u)])
    (hsp : ∀ H : Hp, Only H → SqL K H a (ns.map V.int) → sp [.ref a] H (fun v _ => v = .bl true) fun _ _ _ => False)
    (hCX : ∀ H e s', cx [] H s1 (fun _ _ _ => False) e s' → False) :
    codeAny (model P w) callerA (.call (.ref fa) ⟨[.ref a], []⟩) (Yes s1) s1 := by
  have rv := vals_ints hi
  have hz : vs.toArray.size ≤ sizeLine := by
    rw [List.size_toArray, hi.length]
    exact hl
  cases hk : K.lookup a with
  | some o =>
    have e : some o = some _ := (KX a o hk).symm.trans ha
    cases e
    have here : SqL K (fun _ => none) a (ns.map V.int) := .inr ⟨_, vs.toArray, _, hk, rfl, rfl, rfl, hz, by simpa using rv⟩
    have only : Only (fun _ => none) := fun _ => .inl rfl
    exact begun (fun _ => none) only here (fun b u z => nomatch z) (fun b z => absurd rfl z) (fun z => absurd rfl z)
      KX hns hb hbb hlim hg ha hr F hbind (hsp _ only here) (hCX _)
  | none =>
    let H : Hp := fun b => if b = a then some (.frz { cls := .type "list", data := .seq vs.toArray } (.lst (ns.map V.int))) else none
    have Ha : H a = some (.frz { cls := .type "list", data := .seq vs.toArray } (.lst (ns.map V.int))) := if_pos rfl
    have Hn : ∀ {b : Addr}, b ≠ a → H b = none := fun z => if_neg z
    have only : Only H := by
      intro b
      by_cases eb : b = a
      · right
        subst eb
        exact ⟨_, _, Ha⟩
      · left
        exact Hn eb
    have here : SqL K H a (ns.map V.int) := .inl (.inr ⟨_, Ha⟩)
    refine begun H only here ?_ ?_ (fun _ => hk) KX hns hb hbb hlim hg ha hr F hbind (hsp _ only here) (hCX _)
    · intro b u z
      by_cases eb : b = a
      · subst eb
        rw [Ha] at z
        cases z
        exact ⟨ha, by rw [List.length_map]; exact hl, vs, _, rv, ha⟩
      · rw [Hn eb] at z
        cases z
    · intro b z
      by_cases eb : b = a
      · exact eb
      · exact absurd (Hn eb) z
end

theorem walkG {l : PySem.W.OpenLaw} {m n : Nat} {q : Program} {loose : List Str} {XP : (Str → Option Value) → Heap → Prop}
    {YP : World → Heap → Prop} {d : DefRec} {K : Params → PySem.W.Frag} {sp : PySem.W.Frag → Sp} {x : Str}
    (hn : l.most = some m) (hm : m ≤ sizeLine) (hdf : d.params.defaults = []) (hr : Room n callerA)
    (hY : ∀ (w : World) (h : Heap), YP w h → (K w.params).In h)
    (F : ∀ (w : World) (mg : Str → Option Value) (fa : Addr) (h : Heap), (K w.params).In h → h.Ns mainGlobals mg →
      mg d.name = some (.ref fa) → ∃ fd : FuncData, (∀ (s : Shared) (u : Value), BindsTo s fd ⟨[u], []⟩ [(x, u)]) ∧
        ∀ base : Heap, (K w.params).In base → base.Ns mainGlobals mg →
          FnG l.prog w (K w.params) mg base CX0 n fa fd [x] (sp (K w.params)))
    (hsp : ∀ (K : PySem.W.Frag) (H : Hp) (a : Addr) (ns : List Int), ns.length ≤ m →
      (∀ z ∈ ns, Builtin.Int.intBits z ≤ 1048576) → Only H → SqL K H a (ns.map V.int) →
      sp K [.ref a] H (fun v _ => v = .bl true) fun _ _ _ => False) :
    PySem.W.WalkO q loose XP YP l.row.toRowW d [] (fun f vs => PySem.call f vs) := by
  refine Att.attach_callB hn hdf ?_
  intro w s0 s1 mg mb fa o pm cd dc a vs ns G Y ho hd hcd hmg hobj hints hlen hbits hg
  have KX := hY w _ Y
  obtain ⟨fd, hb, hF⟩ := F w mg fa _ KX G.T.g hmg
  exact law_callG KX G.T.g G.T.b G.T.builtins G.T.nolimit hg hobj hints (Nat.le_trans hlen hm) hr hF hb
    (fun H only hS => hsp _ H a ns hlen hbits only hS) fun H e s' z => z.elim
end Gd
end

section
set_option Elab.async false
set_option linter.all false
set_option maxRecDepth 100000
set_option maxHeartbeats 4000000
/-! What the laws draw from: a list of three numbers, of which each draw takes one more. -/
namespace Gd
open PySem PySem.Spec PyProof.Rows L2

/-- at p: what is left of a great number, the seed, how many were drawn, at most S -/
def Feed (H : Hp) (p : Addr) (S : Int) : Prop := ∃ g x s : Int, H p = some (.lst [.int g, .int x, .int s]) ∧ 0 ≤ s ∧ s ≤ S
theorem Feed.le {H : Hp} {p : Addr} {S T : Int} (h : Feed H p S) (l : S ≤ T) : Feed H p T := by
  obtain ⟨g, x, s, e, a, b⟩ := h
  exact ⟨g, x, s, e, a, by omega⟩
theorem Feed.here {H : Hp} {p : Addr} {S g x s : Int} (h0 : 0 ≤ s) (h : s ≤ S) : Feed (upd H p (.lst [.int g, .int x, .int s])) p S :=
  ⟨g, x, s, upd_same, h0, h⟩
theorem Feed.stays {H : Hp} {p q : Addr} {S : Int} {o : HO} (h : Feed H p S) (n : H q = none) : Feed (upd H q o) p S := by
  obtain ⟨g, x, s, e, a, b⟩ := h
  refine ⟨g, x, s, ?_, a, b⟩
  rw [upd_ne (ne_of_none e n)]
  exact e
/-- all is as it was, but at p -/
def Ex1 (p : Addr) (H H' : Hp) : Prop := ∀ a o, a ≠ p → H a = some o → H' a = some o
theorem Ex1.refl (p : Addr) (H : Hp) : Ex1 p H H := fun _ _ _ h => h
theorem Ex1.trans {p : Addr} {H H1 H2 : Hp} (a : Ex1 p H H1) (b : Ex1 p H1 H2) : Ex1 p H H2 := fun x o n h => b x o n (a x o n h)
theorem Ex1.at {p : Addr} {H : Hp} {o : HO} : Ex1 p H (upd H p o) := fun a u n e => by
  rw [upd_ne n]
  exact e
theorem Ex1.new {p q : Addr} {H : Hp} {o : HO} (n : H q = none) : Ex1 p H (upd H q o) := fun a u _ e => by
  rw [upd_ne (ne_of_none e n)]
  exact e

theorem Feed.lst {H : Hp} {p : Addr} {S : Int} (h : Feed H p S) : ∃ xs, H p = some (.lst xs) := by
  obtain ⟨g, x, s, e, _⟩ := h
  exact ⟨_, e⟩
theorem Feed.ne {H : Hp} {p q : Addr} {S : Int} (h : Feed H p S) (n : H q = none) : q ≠ p := fun z => by
  obtain ⟨xs, e⟩ := h.lst
  rw [z, e] at n
  cases n
def spTake : Sp := fun vs H Q _ => ∃ (p : Addr) (m S : Int), vs = [.ref p, .int m] ∧ Feed H p S ∧ 0 < m ∧ m < 1073741824 ∧
  S ≤ 1000000000 ∧ ∀ (r : Int) (H' : Hp), 0 ≤ r → r < m → Feed H' p (S + 1) → Ex1 p H H' → Q (.int r) H'

theorem fmod_in (a : Int) {b : Int} (h : 0 < b) : 0 ≤ a.fmod b ∧ a.fmod b < b :=
  ⟨Int.fmod_nonneg_of_pos a h, Int.fmod_lt_of_pos a h⟩
end Gd
end

section
set_option Elab.async false
set_option linter.all false
set_option maxRecDepth 100000
set_option maxHeartbeats 4000000
/-! Data: numbers, texts, truths, None, tuples of such. -/
namespace Gd
open PySem PySem.Spec PyProof.Rows L2

mutual
def tupOnly : PyData → Bool
  | .none => true
  | .bool _ => true
  | .int _ => true
  | .str _ => true
  | .tuple ds => decide (ds.length ≤ 1000) && tupOnlyAll ds
  | .list _ => false
  | .dict _ => false
def tupOnlyAll : List PyData → Bool
  | [] => true
  | d :: ds => tupOnly d && tupOnlyAll ds
end

/-- tuples stay -/
def Tups (K : PySem.W.Frag) (H H' : Hp) : Prop := ∀ a xs, SqT K H a xs → SqT K H' a xs
theorem Tups.refl {K : PySem.W.Frag} {H : Hp} : Tups K H H := fun _ _ h => h
theorem Tups.trans {K : PySem.W.Frag} {H H1 H2 : Hp} (a : Tups K H H1) (b : Tups K H1 H2) : Tups K H H2 := fun x y h => b x y (a x y h)
theorem Tups.upd_lst {K : PySem.W.Frag} {H : Hp} {D : Addr} {xs ys : List V} (e : H D = some (.lst xs)) : Tups K H (upd H D (.lst ys)) := by
  intro a zs h
  rcases h with (h | ⟨o, h⟩) | h
  · refine .inl (.inl ?_)
    rw [upd_ne (fun z => by rw [z, e] at h; cases h)]
    exact h
  · refine .inl (.inr ⟨o, ?_⟩)
    rw [upd_ne (fun z => by rw [z, e] at h; cases h)]
    exact h
  · exact .inr h
theorem Tups.of_same {K : PySem.W.Frag} {H H' : Hp} (s : Same H H') : Tups K H H' := by
  intro a zs h
  rcases h with (h | ⟨o, h⟩) | h
  · exact .inl (.inl (s _ _ h))
  · exact .inl (.inr ⟨o, s _ _ h⟩)
  · exact .inr h

theorem Tups.new {K : PySem.W.Frag} {H : Hp} {q : Addr} {o : HO} (n : H q = none) : Tups K H (upd H q o) :=
  .of_same fun b u e => by
    rw [upd_ne (ne_of_none e n)]
    exact e
theorem Ex1.tups {K : PySem.W.Frag} {H H' : Hp} {p : Addr} {xs : List V} (x : Ex1 p H H') (e : H p = some (.lst xs)) : Tups K H H' := by
  intro a zs h
  rcases h with (h | ⟨o, h⟩) | h
  · exact .inl (.inl (x _ _ (fun z => by rw [z, e] at h; cases h) h))
  · exact .inl (.inr ⟨o, x _ _ (fun z => by rw [z, e] at h; cases h) h⟩)
  · exact .inr h
section
variable {K : PySem.W.Frag} {H H' : Hp}
mutual
theorem Dp.tups (t : Tups K H H') : ∀ (d : PyData) {v : V}, tupOnly d = true → Dp K H v d → Dp K H' v d
  | .none, _, _, h => by cases h; exact .non
  | .bool _, _, _, h => by cases h; exact .bl _
  | .int _, _, _, h => by cases h; exact .int _
  | .str _, _, _, h => by cases h; exact .str _
  | .tuple ds, _, o, h => by
    cases h with
    | tup a b =>
      simp only [tupOnly, Bool.and_eq_true] at o
      exact .tup (t _ _ a) (DpAll.tups t ds o.2 b)
  | .list _, _, o, _ => by simp [tupOnly] at o
  | .dict _, _, _, h => by cases h
theorem DpAll.tups (t : Tups K H H') : ∀ (ds : List PyData) {vs : List V}, tupOnlyAll ds = true → DpAll K H vs ds → DpAll K H' vs ds
  | [], _, _, h => by cases h; exact .nil
  | d :: ds, _, o, h => by
    simp only [tupOnlyAll, Bool.and_eq_true] at o
    cases h with
    | cons a b => exact .cons (Dp.tups t d o.1 a) (DpAll.tups t ds o.2 b)
end
mutual
theorem Dp.same (s : Same H H') : ∀ (d : PyData) {v : V}, Dp K H v d → Dp K H' v d
  | .none, _, h => by cases h; exact .non
  | .bool _, _, h => by cases h; exact .bl _
  | .int _, _, h => by cases h; exact .int _
  | .str _, _, h => by cases h; exact .str _
  | .tuple ds, _, h => by
    cases h with
    | tup a b => exact .tup (Tups.of_same s _ _ a) (DpAll.same s ds b)
  | .list ds, _, h => by
    cases h with
    | lst a b => exact .lst (s.seq a) (DpAll.same s ds b)
  | .dict _, _, h => by cases h
theorem DpAll.same (s : Same H H') : ∀ (ds : List PyData) {vs : List V}, DpAll K H vs ds → DpAll K H' vs ds
  | [], _, h => by cases h; exact .nil
  | d :: ds, _, h => by
    cases h with
    | cons a b => exact .cons (Dp.same s d a) (DpAll.same s ds b)
end
theorem DpAll.len : ∀ {vs : List V} {ds : List PyData}, DpAll K H vs ds → vs.length = ds.length
  | _, _, .nil => rfl
  | _, _, .cons _ b => congrArg (· + 1) (DpAll.len b)
theorem DpAll.at_ : ∀ {vs : List V} {ds : List PyData} {i : Nat} {v : V}, DpAll K H vs ds → vs[i]? = some v → ∃ d, ds[i]? = some d ∧ Dp K H v d
  | _, _, _, _, .nil, e => by simp at e
  | _, _, 0, _, .cons a _, e => by
    cases Option.some.inj e
    exact ⟨_, rfl, a⟩
  | _, _, i + 1, _, .cons _ b, e => DpAll.at_ (i := i) b e
theorem DpAll.snoc : ∀ {vs : List V} {ds : List PyData} {v : V} {d : PyData}, DpAll K H vs ds → Dp K H v d → DpAll K H (vs ++ [v]) (ds ++ [d])
  | _, _, _, _, .nil, h => .cons h .nil
  | _, _, _, _, .cons a b, h => .cons a (DpAll.snoc b h)
theorem tupOnlyAll_at : ∀ {ds : List PyData} {i : Nat} {d : PyData}, tupOnlyAll ds = true → ds[i]? = some d → tupOnly d = true
  | [], _, _, _, e => by simp at e
  | x :: r, 0, d, o, e => by
    simp only [tupOnlyAll, Bool.and_eq_true] at o
    cases Option.some.inj e
    exact o.1
  | x :: r, i + 1, d, o, e => by
    simp only [tupOnlyAll, Bool.and_eq_true] at o
    exact tupOnlyAll_at (i := i) o.2 e
theorem tupOnlyAll_take : ∀ {ds : List PyData}, tupOnlyAll ds = true → ∀ i : Nat, tupOnlyAll (ds.take i) = true
  | [], _, i => by rw [List.take_nil] <;> rfl
  | x :: r, o, 0 => rfl
  | x :: r, o, i + 1 => by
    simp only [tupOnlyAll, Bool.and_eq_true] at o
    simp only [List.take_succ_cons, tupOnlyAll, Bool.and_eq_true]
    exact ⟨o.1, tupOnlyAll_take o.2 i⟩
theorem depth_at : ∀ {ds : List PyData} {i : Nat} {d : PyData}, ds[i]? = some d → d.depth ≤ PyData.depthAll ds
  | [], _, _, e => by simp at e
  | x :: r, 0, d, e => by
    cases Option.some.inj e
    simp only [PyData.depthAll]
    omega
  | x :: r, i + 1, d, e => by
    have h := depth_at (ds := r) (i := i) e
    simp only [PyData.depthAll]
    omega
end

/-- the built-in class of data -/
def kindN : PyData → String
  | .none => "NoneType"
  | .bool _ => "bool"
  | .int _ => "int"
  | .str _ => "str"
  | .list _ => "list"
  | .tuple _ => "tuple"
  | .dict _ => "dict"
theorem Dp.kind {K : PySem.W.Frag} {H : Hp} {v : V} {d : PyData} (h : Dp K H v d) (o : tupOnly d = true) : TyX K H v (.type (kindN d)) := by
  cases h with
  | non => exact .base .non
  | bl b => exact .base (.bl b)
  | int i => exact .base (.int i)
  | str x => exact .base (.str x)
  | lst _ _ => simp [tupOnly] at o
  | tup a _ =>
    rcases a with (a | ⟨z, a⟩) | ⟨z, its, n, a, c, _⟩
    · exact .base (.tup a)
    · exact .fTuple a
    · exact .kTuple a c
section
theorem kb0 : kitB "NoneType" "list" = some false ∧ kitB "NoneType" "tuple" = some false ∧ kitB "NoneType" "dict" = some false := by decide +kernel
theorem kb1 : kitB "bool" "list" = some false ∧ kitB "bool" "tuple" = some false ∧ kitB "bool" "dict" = some false := by decide +kernel
theorem kb2 : kitB "int" "list" = some false ∧ kitB "int" "tuple" = some false ∧ kitB "int" "dict" = some false := by decide +kernel
theorem kb3 : kitB "str" "list" = some false ∧ kitB "str" "tuple" = some false ∧ kitB "str" "dict" = some false := by decide +kernel
theorem kb4 : kitB "tuple" "list" = some false ∧ kitB "tuple" "tuple" = some true ∧ kitB "tuple" "dict" = some false := by decide +kernel
theorem kind_list {d : PyData} (o : tupOnly d = true) : kitB (kindN d) "list" = some false := by
  cases d with
  | none => exact kb0.1
  | bool b => exact kb1.1
  | int i => exact kb2.1
  | str x => exact kb3.1
  | tuple ds => exact kb4.1
  | list ds => simp [tupOnly] at o
  | dict ds => simp [tupOnly] at o
theorem kind_dict {d : PyData} (o : tupOnly d = true) : kitB (kindN d) "dict" = some false := by
  cases d with
  | none => exact kb0.2.2
  | bool b => exact kb1.2.2
  | int i => exact kb2.2.2
  | str x => exact kb3.2.2
  | tuple ds => exact kb4.2.2
  | list ds => simp [tupOnly] at o
  | dict ds => simp [tupOnly] at o
theorem kind_tuple {d : PyData} (o : tupOnly d = true) (n : ¬ ∃ ds, d = .tuple ds) : kitB (kindN d) "tuple" = some false := by
  cases d with
  | none => exact kb0.2.1
  | bool b => exact kb1.2.1
  | int i => exact kb2.2.1
  | str x => exact kb3.2.1
  | tuple ds => exact absurd ⟨ds, rfl⟩ n
  | list ds => simp [tupOnly] at o
  | dict ds => simp [tupOnly] at o
end
end Gd
end

section
set_option Elab.async false
set_option linter.all false
set_option maxRecDepth 100000
set_option maxHeartbeats 4000000
/-! repr of data, the reading of a promise that is free of texts under way. -/
namespace Gd
open PySem PySem.Spec PyProof.Rows L2

section
variable {K : PySem.W.Frag} {H : Hp}
mutual
theorem Dp.plain : ∀ (d : PyData) {v : V}, Dp K H v d → d.hasDict = false
  | .none, _, _ => by simp only [PyData.hasDict]
  | .bool _, _, _ => by simp only [PyData.hasDict]
  | .int _, _, _ => by simp only [PyData.hasDict]
  | .str _, _, _ => by simp only [PyData.hasDict]
  | .list ds, _, h => by
    cases h with
    | lst _ k =>
      simp only [PyData.hasDict]
      exact DpAll.plain ds k
  | .tuple ds, _, h => by
    cases h with
    | tup _ k =>
      simp only [PyData.hasDict]
      exact DpAll.plain ds k
  | .dict _, _, h => by cases h
theorem DpAll.plain : ∀ (ds : List PyData) {vs : List V}, DpAll K H vs ds → PyData.hasDictAll ds = false
  | [], _, _ => by simp only [PyData.hasDictAll]
  | d :: ds, _, h => by
    cases h with
    | cons a b =>
      simp only [PyData.hasDictAll, Dp.plain d a, DpAll.plain ds b, Bool.or_self]
end
end

/-- repr(x), x data -/
def rRepr (K : PySem.W.Frag) : List V → Hp → VK → Prop := fun xs H Q =>
  ∃ (x : V) (d : PyData), xs = [x] ∧ Dp K H x d ∧ d.showable = true ∧ d.shown.length ≤ sizeLine ∧ d.depth ≤ 60 ∧ Q (.str d.shown) H

section
variable {X : Cx}
theorem call_repr (g : Free X.A) (hu : X.A.units + 64 < cLine) : CallR X (.builtin "repr") (rRepr X.K) := by
  intro pins s σ H xs us Q I r h
  obtain ⟨x, d, rfl, hd, hs, hz, hdp, q⟩ := h
  obtain ⟨u, rfl, ru⟩ := r.one
  have pl := Dp.plain d hd
  obtain ⟨as, rd⟩ := Dp.reads I d x u hd ru
  have fin : ∀ (h' : Heap) (tk tk' : Nat), (∀ b o, s.heap.get? b = some o → h'.get? b = some o) →
      EP X pins σ Q (.str d.shown tk) { s with heap := h', toks := tk' } :=
    fun h' tk tk' k => ⟨.str d.shown, H, I.kept k, ⟨tk, rfl⟩, q⟩
  have fin0 : ∀ (tk tk' : Nat), EP X pins σ Q (.str d.shown tk) { s with toks := tk' } :=
    fun tk tk' => ⟨.str d.shown, H, I.tok tk', ⟨tk, rfl⟩, q⟩
  cases rd with
  | none => exact P.repr_of_none (fin0 _ _)
  | bool b => exact P.repr_of_bool (fin0 _ _)
  | int i t => exact P.repr_of_int (by simpa [PyData.showable] using hs) (fin0 _ _)
  | str z t => exact P.repr_of_str (fin0 _ _) hz
  | list h1 h2 h3 h4 =>
    exact repr_of_reads' (.list h1 h2 h3 h4) hs (PyData.noDict_hsm pl) g (by omega) (fun _ _ e => e) (fun h' u tk k => fin h' u tk k) hz
  | tuple h1 h2 h3 h4 =>
    exact repr_of_reads' (.tuple h1 h2 h3 h4) hs (PyData.noDict_hsm pl) g (by omega) (fun _ _ e => e) (fun h' u tk k => fin h' u tk k) hz
  | dict h1 h2 h3 h4 h5 => simp [PyData.hasDict] at pl
end
end Gd
end

section
set_option Elab.async false
set_option linter.all false
set_option maxRecDepth 100000
set_option maxHeartbeats 4000000
/-! Data with lists, and with two small dicts; what is not in it: the addresses of N. -/
namespace Gd
open PySem PySem.Spec PyProof.Rows L2

mutual
inductive Dd (K : PySem.W.Frag) (H : Hp) (N : Addr → Prop) : V → PyData → Prop
  | non : Dd K H N .non .none
  | bl (b : Bool) : Dd K H N (.bl b) (.bool b)
  | int (i : Int) : Dd K H N (.int i) (.int i)
  | str (x : Str) : Dd K H N (.str x) (.str x)
  | lst {a : Addr} {xs : List V} {ds : List PyData} : H a = some (.lst xs) → ¬ N a → a ≠ sysModules → DdAll K H N xs ds → Dd K H N (.ref a) (.list ds)
  | tup {a : Addr} {xs : List V} {ds : List PyData} : SqT K H a xs → DdAll K H N xs ds → Dd K H N (.ref a) (.tuple ds)
  | dct0 {a : Addr} : H a = some (.dK []) → ¬ N a → Dd K H N (.ref a) (.dict [])
  | dct1 {a : Addr} {x : Str} {i : Int} : H a = some (.dK [(Sum.inr x, .int i)]) → ¬ N a → Dd K H N (.ref a) (.dict [(.str x, .int i)])
inductive DdAll (K : PySem.W.Frag) (H : Hp) (N : Addr → Prop) : List V → List PyData → Prop
  | nil : DdAll K H N [] []
  | cons {v : V} {vs : List V} {d : PyData} {ds : List PyData} : Dd K H N v d → DdAll K H N vs ds → DdAll K H N (v :: vs) (d :: ds)
end

section
variable {K : PySem.W.Frag} {H H' : Hp} {N N' : Addr → Prop}
mutual
theorem Dd.stay (t : Tups K H H') (x : ∀ a o, ¬ N a → H a = some o → H' a = some o) (m : ∀ a, N' a → N a) : ∀ (d : PyData) {v : V}, Dd K H N v d → Dd K H' N' v d
  | .none, _, h => by cases h; exact .non
  | .bool _, _, h => by cases h; exact .bl _
  | .int _, _, h => by cases h; exact .int _
  | .str _, _, h => by cases h; exact .str _
  | .tuple ds, _, h => by
    cases h with
    | tup a b => exact .tup (t _ _ a) (DdAll.stay t x m ds b)
  | .list ds, _, h => by
    cases h with
    | lst a n g b => exact .lst (x _ _ n a) (fun z => n (m _ z)) g (DdAll.stay t x m ds b)
  | .dict ds, _, h => by
    cases h with
    | dct0 a n => exact .dct0 (x _ _ n a) (fun z => n (m _ z))
    | dct1 a n => exact .dct1 (x _ _ n a) (fun z => n (m _ z))
theorem DdAll.stay (t : Tups K H H') (x : ∀ a o, ¬ N a → H a = some o → H' a = some o) (m : ∀ a, N' a → N a) : ∀ (ds : List PyData) {vs : List V}, DdAll K H N vs ds → DdAll K H' N' vs ds
  | [], _, h => by cases h; exact .nil
  | d :: ds, _, h => by
    cases h with
    | cons a b => exact .cons (Dd.stay t x m d a) (DdAll.stay t x m ds b)
end
theorem Dd.same {v : V} {d : PyData} (s : Same H H') (h : Dd K H N v d) : Dd K H' N v d := Dd.stay (Tups.of_same s) (fun a o _ e => s a o e) (fun _ z => z) d h
theorem DdAll.same {vs : List V} {ds : List PyData} (s : Same H H') (h : DdAll K H N vs ds) : DdAll K H' N vs ds := DdAll.stay (Tups.of_same s) (fun a o _ e => s a o e) (fun _ z => z) ds h
theorem Dd.free {v : V} {d : PyData} (h : Dd K H N v d) : Dd K H (fun _ => False) v d := Dd.stay .refl (fun a o _ e => e) (fun _ z => z.elim) d h
theorem DdAll.free {vs : List V} {ds : List PyData} (h : DdAll K H N vs ds) : DdAll K H (fun _ => False) vs ds := DdAll.stay .refl (fun a o _ e => e) (fun _ z => z.elim) ds h
/-- behind a draw -/
theorem Dd.drawn {p : Addr} {ys : List V} {v : V} {d : PyData} (e : H p = some (.lst ys)) (x : Ex1 p H H') (h : Dd K H (· = p) v d) : Dd K H' (· = p) v d :=
  Dd.stay (x.tups e) (fun a o n q => x a o n q) (fun _ z => z) d h
theorem DdAll.drawn {p : Addr} {ys : List V} {vs : List V} {ds : List PyData} (e : H p = some (.lst ys)) (x : Ex1 p H H') (h : DdAll K H (· = p) vs ds) : DdAll K H' (· = p) vs ds :=
  DdAll.stay (x.tups e) (fun a o n q => x a o n q) (fun _ z => z) ds h
mutual
/-- what is new is not in it -/
theorem Dd.shun {q : Addr} (n : H q = none) : ∀ (d : PyData) {v : V}, Dd K H N v d → Dd K H (fun a => N a ∨ a = q) v d
  | .none, _, h => by cases h; exact .non
  | .bool _, _, h => by cases h; exact .bl _
  | .int _, _, h => by cases h; exact .int _
  | .str _, _, h => by cases h; exact .str _
  | .tuple ds, _, h => by
    cases h with
    | tup a b => exact .tup a (DdAll.shun n ds b)
  | .list ds, _, h => by
    cases h with
    | lst a m g b => exact .lst a (fun z => z.elim m (fun z => by rw [z, n] at a; cases a)) g (DdAll.shun n ds b)
  | .dict ds, _, h => by
    cases h with
    | dct0 a m => exact .dct0 a (fun z => z.elim m (fun z => by rw [z, n] at a; cases a))
    | dct1 a m => exact .dct1 a (fun z => z.elim m (fun z => by rw [z, n] at a; cases a))
theorem DdAll.shun {q : Addr} (n : H q = none) : ∀ (ds : List PyData) {vs : List V}, DdAll K H N vs ds → DdAll K H (fun a => N a ∨ a = q) vs ds
  | [], _, h => by cases h; exact .nil
  | d :: ds, _, h => by
    cases h with
    | cons a b => exact .cons (Dd.shun n d a) (DdAll.shun n ds b)
end
theorem DdAll.len : ∀ {vs : List V} {ds : List PyData}, DdAll K H N vs ds → vs.length = ds.length
  | _, _, .nil => rfl
  | _, _, .cons _ b => congrArg (· + 1) (DdAll.len b)
theorem DdAll.at_ : ∀ {vs : List V} {ds : List PyData} {i : Nat} {v : V}, DdAll K H N vs ds → vs[i]? = some v → ∃ d, ds[i]? = some d ∧ Dd K H N v d
  | _, _, _, _, .nil, e => by simp at e
  | _, _, 0, _, .cons a _, e => by
    cases Option.some.inj e
    exact ⟨_, rfl, a⟩
  | _, _, i + 1, _, .cons _ b, e => DdAll.at_ (i := i) b e
theorem DdAll.app : ∀ {vs us : List V} {ds es : List PyData}, DdAll K H N vs ds → DdAll K H N us es → DdAll K H N (vs ++ us) (ds ++ es)
  | _, _, _, _, .nil, h => h
  | _, _, _, _, .cons a b, h => .cons a (DdAll.app b h)
theorem DdAll.take : ∀ {vs : List V} {ds : List PyData}, DdAll K H N vs ds → ∀ i : Nat, DdAll K H N (vs.take i) (ds.take i)
  | _, _, .nil, i => by rw [List.take_nil, List.take_nil]; exact .nil
  | _, _, .cons _ _, 0 => .nil
  | _, _, .cons a b, i + 1 => .cons a (DdAll.take b i)
theorem DdAll.drop : ∀ {vs : List V} {ds : List PyData}, DdAll K H N vs ds → ∀ i : Nat, DdAll K H N (vs.drop i) (ds.drop i)
  | _, _, .nil, i => by rw [List.drop_nil, List.drop_nil]; exact .nil
  | _, _, .cons a b, 0 => .cons a b
  | _, _, .cons a b, i + 1 => DdAll.drop b i
theorem DdAll.rev : ∀ {vs : List V} {ds : List PyData}, DdAll K H N vs ds → DdAll K H N vs.reverse ds.reverse
  | _, _, .nil => .nil
  | _, _, .cons a b => by
    rw [List.reverse_cons, List.reverse_cons]
    exact DdAll.app (DdAll.rev b) (.cons a .nil)
mutual
theorem Dd.ofDp : ∀ (d : PyData) {v : V}, tupOnly d = true → Dp K H v d → Dd K H N v d
  | .none, _, _, h => by cases h; exact .non
  | .bool _, _, _, h => by cases h; exact .bl _
  | .int _, _, _, h => by cases h; exact .int _
  | .str _, _, _, h => by cases h; exact .str _
  | .tuple ds, _, o, h => by
    cases h with
    | tup a b =>
      simp only [tupOnly, Bool.and_eq_true] at o
      exact .tup a (DdAll.ofDp ds o.2 b)
  | .list _, _, o, _ => by simp [tupOnly] at o
  | .dict _, _, o, _ => by simp [tupOnly] at o
theorem DdAll.ofDp : ∀ (ds : List PyData) {vs : List V}, tupOnlyAll ds = true → DpAll K H vs ds → DdAll K H N vs ds
  | [], _, _, h => by cases h; exact .nil
  | d :: ds, _, o, h => by
    simp only [tupOnlyAll, Bool.and_eq_true] at o
    cases h with
    | cons a b => exact .cons (Dd.ofDp d o.1 a) (DdAll.ofDp ds o.2 b)
end
theorem Dd.kind {v : V} {d : PyData} (h : Dd K H N v d) : TyX K H v (.type (kindN d)) := by
  cases h with
  | non => exact .base .non
  | bl b => exact .base (.bl b)
  | int i => exact .base (.int i)
  | str x => exact .base (.str x)
  | lst e _ _ _ => exact .base (.lst e)
  | dct0 e _ => exact .base (.dK e)
  | dct1 e _ => exact .base (.dK e)
  | tup a _ =>
    rcases a with (a | ⟨z, a⟩) | ⟨z, its, n, a, c, _⟩
    · exact .base (.tup a)
    · exact .fTuple a
    · exact .kTuple a c
end
section
variable {X : Cx} {pins : List (Addr × Obj)} {σ : L2.St} {H : Hp} {s : Shared} {N : Addr → Prop}
theorem dk_reads (I : Inv X pins σ H s) {a : Addr} {kvs : List (Key × V)} (e : H a = some (.dK kvs)) :
    (a == sysModules) = false ∧ ∃ vs, KV kvs vs ∧ s.heap.DictOf (mixKind X.prog X.w) a vs := (I.hok a _ e).2
mutual
theorem Dd.reads (I : Inv X pins σ H s) : ∀ (d : PyData) (v : V) (u : Value), Dd X.K H N v d → RelV v u → ∃ as, Reads s.heap u d as ∧ sysModules ∉ as
  | .none, _, _, h, r => by
    cases h
    cases r
    exact ⟨[], .none, nofun⟩
  | .bool b, _, _, h, r => by
    cases h
    cases r
    exact ⟨[], .bool b, nofun⟩
  | .int i, _, _, h, r => by
    cases h
    obtain ⟨t, rfl⟩ := r
    exact ⟨[], .int i t, nofun⟩
  | .str x, _, _, h, r => by
    cases h
    obtain ⟨t, rfl⟩ := r
    exact ⟨[], .str x t, nofun⟩
  | .list ds, _, _, h, r => by
    cases h with
    | lst hs _ g ha =>
      cases r
      obtain ⟨its, rv, pl, _⟩ := I.list (SqL.of hs)
      obtain ⟨o, n, ho, hc, _, hd⟩ := pl
      obtain ⟨as, hr, hn⟩ := Dd.readsAll I ds _ its ha rv
      refine ⟨_, .list ho hc hd hr, fun m => ?_⟩
      rcases List.mem_cons.mp m with m | m
      · exact g m.symm
      · exact hn m
  | .tuple ds, _, _, h, r => by
    cases h with
    | tup hs ha =>
      cases r
      obtain ⟨its, rv, pl, _⟩ := I.tuple hs
      obtain ⟨o, ho, hc, n, hd⟩ := pl
      obtain ⟨as, hr, hn⟩ := Dd.readsAll I ds _ its ha rv
      exact ⟨as, .tuple ho hc hd hr, hn⟩
  | .dict ds, _, _, h, r => by
    cases h with
    | dct0 e _ =>
      cases r
      obtain ⟨g, vs, kv, o, es, ep, ho, ex, hd, ks, ps, _⟩ := dk_reads I e
      cases kv
      cases hes : es.toList with
      | nil =>
        refine ⟨_, .dict (as := []) (bs := []) ho ex.1 hd ?_ ?_, fun m => ?_⟩
        · rw [hes]; exact .nil
        · rw [hes]; exact .nil
        · rcases List.mem_cons.mp m with m | m
          · rw [← m] at g
            simp at g
          · cases m
      | cons z zs =>
        rw [hes] at ps
        cases ps
    | @dct1 a x i e _ =>
      cases r
      obtain ⟨g, vs, kv, o, es, ep, ho, ex, hd, ks, ps, _⟩ := dk_reads I e
      cases kv with
      | @cons _ q _ _ r0 rest =>
      cases rest
      obtain ⟨qk, qv⟩ := q
      obtain ⟨rk, t, rv⟩ := r0
      dsimp only at rk rv
      subst rk rv
      cases hes : es.toList with
      | nil =>
        rw [hes] at ps
        cases ps
      | cons z zs =>
        rw [hes] at ps
        cases ps with
        | cons p1 p2 p3 =>
        cases p3
        obtain ⟨tk, ek⟩ : ∃ tk, z.key = .str x tk := by
          have p1 : keyIs (Sum.inr x) z.key = true := p1
          rcases keyIs_shape p1 with ⟨i, t, h1, h2⟩ | ⟨y, t, h1, h2⟩
          · cases h1
          · cases h1
            exact ⟨t, h2⟩
        refine ⟨_, .dict (as := [] ++ []) (bs := [] ++ []) ho ex.1 hd ?_ ?_, fun m => ?_⟩
        · rw [hes]
          show ReadsAll s.heap [z.key] [.str x] _
          rw [ek]
          exact .cons (.str x tk) .nil
        · rw [hes]
          show ReadsAll s.heap [z.val] [.int i] _
          rw [p2]
          exact .cons (.int i t) .nil
        · rcases List.mem_cons.mp m with m | m
          · rw [← m] at g
            simp at g
          · cases m
theorem Dd.readsAll (I : Inv X pins σ H s) : ∀ (ds : List PyData) (vs : List V) (us : List Value), DdAll X.K H N vs ds → Vals vs us → ∃ as, ReadsAll s.heap us ds as ∧ sysModules ∉ as
  | [], _, _, h, r => by
    cases h
    cases r
    exact ⟨[], .nil, nofun⟩
  | d :: ds, _, _, h, r => by
    cases h with
    | cons h1 h2 =>
      cases r with
      | cons r1 r2 =>
        obtain ⟨as, q1, n1⟩ := Dd.reads I d _ _ h1 r1
        obtain ⟨bs, q2, n2⟩ := Dd.readsAll I ds _ _ h2 r2
        exact ⟨as ++ bs, .cons q1 q2, fun m => (List.mem_append.mp m).elim n1 n2⟩
end
/-- repr(x), x such data -/
def rReprD (K : PySem.W.Frag) : List V → Hp → VK → Prop := fun xs H Q =>
  ∃ (x : V) (d : PyData) (N : Addr → Prop), xs = [x] ∧ Dd K H N x d ∧ d.showable = true ∧ d.shown.length ≤ sizeLine ∧ d.depth ≤ 60 ∧ Q (.str d.shown) H
theorem call_reprD (g : Free X.A) (hu : X.A.units + 64 < cLine) : CallR X (.builtin "repr") (rReprD X.K) := by
  intro pins s σ H xs us Q I r h
  obtain ⟨x, d, N, rfl, hd, hs, hz, hdp, q⟩ := h
  obtain ⟨u, rfl, ru⟩ := r.one
  obtain ⟨as, rd, hn⟩ := Dd.reads I d x u hd ru
  have fin : ∀ (h' : Heap) (tk tk' : Nat), (∀ b o, s.heap.get? b = some o → h'.get? b = some o) →
      EP X pins σ Q (.str d.shown tk) { s with heap := h', toks := tk' } :=
    fun h' tk tk' k => ⟨.str d.shown, H, I.kept k, ⟨tk, rfl⟩, q⟩
  have fin0 : ∀ (tk tk' : Nat), EP X pins σ Q (.str d.shown tk) { s with toks := tk' } :=
    fun tk tk' => ⟨.str d.shown, H, I.tok tk', ⟨tk, rfl⟩, q⟩
  cases rd with
  | none => exact P.repr_of_none (fin0 _ _)
  | bool b => exact P.repr_of_bool (fin0 _ _)
  | int i t => exact P.repr_of_int (by simpa [PyData.showable] using hs) (fin0 _ _)
  | str z t => exact P.repr_of_str (fin0 _ _) hz
  | list h1 h2 h3 h4 =>
    exact repr_of_reads' (.list h1 h2 h3 h4) hs (fun _ => hn) g (by omega) (fun _ _ e => e) (fun h' u tk k => fin h' u tk k) hz
  | tuple h1 h2 h3 h4 =>
    exact repr_of_reads' (.tuple h1 h2 h3 h4) hs (fun _ => hn) g (by omega) (fun _ _ e => e) (fun h' u tk k => fin h' u tk k) hz
  | dict h1 h2 h3 h4 h5 =>
    exact repr_of_reads' (.dict h1 h2 h3 h4 h5) hs (fun _ => hn) g (by omega) (fun _ _ e => e) (fun h' u tk k => fin h' u tk k) hz
end
end Gd
end

section
set_option Elab.async false
set_option linter.all false
set_option maxRecDepth 100000
set_option maxHeartbeats 4000000
/-! Lists of ints and slabs in the heap; what they show. -/
namespace Gd
open PySem PySem.Spec PyProof.Rows L2
theorem int_shown {i : Int} (h : i.natAbs ≤ 10 ^ 40) : (PyData.int i).shown.length ≤ 100 ∧ i.natAbs.log2 < 1920 ∧ (PyData.int i).weight ≤ 200 := by
  have h1 : i.natAbs < 10 ^ 41 := Nat.lt_of_le_of_lt h (by decide)
  have hl : i.natAbs.log2 < 190 := by
    by_cases z : i.natAbs = 0
    · rw [z]; decide
    · exact (Nat.log2_lt z).mpr (Nat.lt_of_lt_of_le h1 (by decide +kernel))
  refine ⟨?_, by omega, ?_⟩
  · have e := int_text_length_le10 (k := 41) (by decide) h1
    have e2 : (PyData.int i).shown.length = (toString i).length := by
      show (Str.ofString (toString i)).length = _
      rw [PySem.ofString_length]
    omega
  · simp only [PyData.weight]
    split <;> omega
theorem ints_leaves : ∀ {ns : List Int}, (∀ i ∈ ns, i.natAbs ≤ 10 ^ 40) → PyData.leavesShortAll 100 (ns.map .int) = true ∧ PyData.showableAll (ns.map .int) = true ∧ PyData.weightAll (ns.map .int) ≤ 201 * ns.length ∧ PyData.depthAll (ns.map .int) = 0
  | [], _ => ⟨rfl, rfl, Nat.zero_le _, rfl⟩
  | i :: ns, h => by
    obtain ⟨a, b, c, d⟩ := ints_leaves (ns := ns) fun j hj => h j (by simp [hj])
    obtain ⟨e1, e2, e3⟩ := int_shown (h i (by simp))
    refine ⟨?_, ?_, ?_, ?_⟩
    · simp only [List.map_cons, PyData.leavesShortAll, a, Bool.and_true, PyData.leavesShort, decide_eq_true_eq]
      exact e1
    · simp only [List.map_cons, PyData.showableAll, b, Bool.and_true, PyData.showable, decide_eq_true_eq]
      exact e2
    · simp only [List.map_cons, PyData.weightAll, List.length_cons]
      omega
    · simp only [List.map_cons, PyData.depthAll, d, PyData.depth]
      omega
/-- repr of a list of ints is served -/
theorem ints_shown {ns : List Int} (h : ∀ i ∈ ns, i.natAbs ≤ 10 ^ 40) (hl : ns.length ≤ 700) :
    (PyData.list (ns.map .int)).showable = true ∧ (PyData.list (ns.map .int)).shown.length ≤ sizeLine ∧ (PyData.list (ns.map .int)).depth ≤ 60 := by
  obtain ⟨a, b, c, d⟩ := ints_leaves h
  have hs := PyData.shown_le 100 (by decide) (.list (ns.map .int)) (by simpa only [PyData.leavesShort] using a)
  have hw : (PyData.list (ns.map .int)).weight ≤ 201 * ns.length + 1 := by
    simp only [PyData.weight]
    omega
  have z : sizeLine = 16777216 := rfl
  refine ⟨by simpa only [PyData.showable] using b, by omega, ?_⟩
  simp only [PyData.depth, d]
  omega
theorem one_shown {i : Int} (h : i.natAbs ≤ 10 ^ 40) : (PyData.int i).showable = true ∧ (PyData.int i).shown.length ≤ sizeLine ∧ (PyData.int i).depth ≤ 60 := by
  obtain ⟨e1, e2, e3⟩ := int_shown h
  have z : sizeLine = 16777216 := rfl
  refine ⟨by simpa [PyData.showable] using e2, by omega, by simp only [PyData.depth]; omega⟩
theorem ints_dp {K : PySem.W.Frag} {H : Hp} : ∀ ns : List Int, DpAll K H (ns.map V.int) (ns.map .int)
  | [] => .nil
  | i :: ns => .cons (.int i) (ints_dp ns)
theorem list_dp {K : PySem.W.Frag} {H : Hp} {a : Addr} {ns : List Int} (h : SqL K H a (ns.map V.int)) : Dp K H (.ref a) (.list (ns.map .int)) := .lst h (ints_dp ns)

/-! what stays -/
theorem new_same {H : Hp} {q : Addr} {o : HO} (n : H q = none) : Same H (upd H q o) := fun b u e => by
  rw [upd_ne (ne_of_none e n)]
  exact e
/-- a new object may change -/
theorem own_same {H H' : Hp} {q : Addr} {o : HO} (n : H q = none) (s : Same H H') : Same H (upd H' q o) := fun b u e => by
  rw [upd_ne (ne_of_none e n)]
  exact s b u e
theorem same_tup {K : PySem.W.Frag} {H H' : Hp} (s : Same H H') {a : Addr} {xs : List V} (h : SqT K H a xs) : SqT K H' a xs := by
  rcases h with (h | ⟨o, h⟩) | h
  · exact .inl (.inl (s _ _ h))
  · exact .inl (.inr ⟨o, s _ _ h⟩)
  · exact .inr h
/-- slabs at a: a list of pairs -/
def SlabsAt (K : PySem.W.Frag) (H : Hp) (a : Addr) (ss : List (Nat × Int)) : Prop :=
  ∃ bs : List Addr, SqL K H a (bs.map V.ref) ∧ bs.length = ss.length ∧ ∀ (i : Nat) (b : Addr) (s : Nat × Int), bs[i]? = some b → ss[i]? = some s → SqT K H b [.int (s.1 : Nat), .int s.2]
theorem SlabsAt.same {K : PySem.W.Frag} {H H' : Hp} {a : Addr} {ss : List (Nat × Int)} (h : SlabsAt K H a ss) (s : Same H H') : SlabsAt K H' a ss := by
  obtain ⟨bs, h1, h2, h3⟩ := h
  exact ⟨bs, s.seq h1, h2, fun i b t e1 e2 => same_tup s (h3 i b t e1 e2)⟩
theorem map_at {α : Type} {f : α → V} {xs : List α} {i : Nat} {v : V} (h : (xs.map f)[i]? = some v) : ∃ x, xs[i]? = some x ∧ v = f x := by
  rw [List.getElem?_map] at h
  cases e : xs[i]? with
  | none => rw [e] at h; cases h
  | some x => rw [e] at h; exact ⟨x, rfl, (Option.some.inj h).symm⟩
theorem at_of {α : Type} {xs : List α} {i n : Nat} (hl : xs.length = n) (h : i < n) : ∃ x, xs[i]? = some x := ⟨xs[i]'(by omega), List.getElem?_eq_getElem (by omega)⟩
theorem at_lt {α : Type} {xs : List α} {i : Nat} {x : α} (h : xs[i]? = some x) : i < xs.length := (List.getElem?_eq_some_iff.mp h).1
theorem getD_at {l : List Int} {i : Nat} (h : i < l.length) : l[i]? = some (l.getD i 0) := by
  rw [List.getD_eq_getElem?_getD, List.getElem?_eq_getElem h] <;> rfl
theorem ints_at {l : List Int} {i : Nat} (h : i < l.length) : (l.map V.int)[i]? = some (.int (l.getD i 0)) := by
  rw [List.getElem?_map, getD_at h] <;> rfl
theorem ints_atI {l : List Int} {i : Nat} (h : i < l.length) : atI (l.map V.int) ((i : Nat) : Int) = some (.int (l.getD i 0)) := atI_nat (ints_at h)
theorem take_at {α : Type} {xs : List α} {i : Nat} {x : α} (h : xs[i]? = some x) : xs.take (i + 1) = xs.take i ++ [x] := by
  rw [List.take_add_one, h] <;> rfl
theorem map_set {l : List Int} {i : Nat} {v : Int} : (l.map V.int).set i (.int v) = (l.set i v).map V.int := by
  rw [List.map_set]
section
variable {X : Cx}
/-- l[j], j from nought on, in l[j] op= x -/
def rGetL (K : PySem.W.Frag) : V → V → Hp → VK → Prop := fun o i H Q => ∃ (p : Addr) (xs : List V) (j : Nat) (v : V), o = .ref p ∧ i = .int (j : Nat) ∧ SqL K H p xs ∧ xs[j]? = some v ∧ Q v H
theorem get_list : PGet X (rGetL X.K) := by
  intro pins s σ H o i ov iv Q I r1 r2 h
  obtain ⟨p, xs, j, v, rfl, rfl, hq, he, q⟩ := h
  cases r1
  obtain ⟨t, rfl⟩ := r2
  obtain ⟨its, r, pl, hz⟩ := I.list hq
  obtain ⟨u, eu, ru⟩ := r.get he
  have hl := r.length
  have lt := at_lt he
  have zz : sizeLine = 16777216 := rfl
  have hi := at_lt eu
  refine wpAny_getItem_list pl.isList (by omega) (by omega) ?_ ⟨v, H, I, ru, q⟩
  simpa using eu
end
theorem ixN_nat {n j : Nat} (h : j < n) : ixN n (j : Int) = some j := by
  unfold ixN
  rw [if_pos (by omega), if_pos (by omega)] <;> simp
end Gd
end

section
set_option Elab.async false
set_option linter.all false
set_option maxRecDepth 100000
set_option maxHeartbeats 4000000
namespace Gd
open PySem PySem.Spec PyProof.Rows L2
section
variable {X : Cx}
/-- a list beside [] -/
def rL0 (K : PySem.W.Frag) (neg : Bool) : R2 := fun x y H Q => ∃ a b xs, x = .ref a ∧ y = .ref b ∧ SqL K H a xs ∧ SqL K H b [] ∧ Q (.bl (if neg then !xs.isEmpty else xs.isEmpty)) H
theorem op_eqL0 (hu : X.A.units < cLine) : OpR X (compareOp .Eq) (rL0 X.K false) := by
  intro pins s σ H x y v u Q I rx ry h
  obtain ⟨a, b, xs, rfl, rfl, ha, hb, q⟩ := h
  cases rx
  cases ry
  obtain ⟨its, r, pl, _⟩ := I.list ha
  obtain ⟨its2, r2, pl2, _⟩ := I.list hb
  cases r2
  cases r with
  | nil => exact SeqAt.RcAt.lists (e := fun _ => true) pl.isList pl2.isList rfl hu (fun j h1 _ => absurd h1 (by simp)) _ _ _ _ ⟨.bl _, H, I, rfl, q⟩
  | cons _ _ => exact SeqAt.RcAt.lists_lengths pl.isList pl2.isList (by simp) hu _ _ _ _ ⟨.bl _, H, I, rfl, q⟩
theorem op_neL0 (hu : X.A.units < cLine) : OpR X (compareOp .NotEq) (rL0 X.K true) := by
  intro pins s σ H x y v u Q I rx ry h
  obtain ⟨a, b, xs, rfl, rfl, ha, hb, q⟩ := h
  cases rx
  cases ry
  obtain ⟨its, r, pl, _⟩ := I.list ha
  obtain ⟨its2, r2, pl2, _⟩ := I.list hb
  cases r2
  cases r with
  | nil => exact SeqAt.RcNeAt.lists (e := fun _ => true) pl.isList pl2.isList rfl hu (fun j h1 _ => absurd h1 (by simp)) _ _ _ _ ⟨.bl _, H, I, rfl, q⟩
  | cons _ _ => exact SeqAt.RcNeAt.lists_lengths pl.isList pl2.isList (by simp) hu _ _ _ _ ⟨.bl _, H, I, rfl, q⟩
end
/-! what stays through draws -/
theorem ex1_of_same {p : Addr} {H H' : Hp} (s : Same H H') : Ex1 p H H' := fun b u _ e => s b u e
theorem ex1_own {p q : Addr} {H H' : Hp} {o : HO} (n : H q = none) (x : Ex1 p H H') : Ex1 p H (upd H' q o) := fun b u nb e => by
  rw [upd_ne (ne_of_none e n)]
  exact x b u nb e
theorem Feed.off {H : Hp} {p q : Addr} {S : Int} {o : HO} (F : Feed H p S) (n : q ≠ p) : Feed (upd H q o) p S := by
  obtain ⟨g, x, s, e, a, b⟩ := F
  exact ⟨g, x, s, by rw [upd_ne n.symm]; exact e, a, b⟩
theorem Feed.kept {H H' : Hp} {p : Addr} {S : Int} (F : Feed H p S) (s : Same H H') : Feed H' p S := by
  obtain ⟨g, x, z, ep, a, b⟩ := F
  exact ⟨g, x, z, s _ _ ep, a, b⟩
theorem Feed.not {H : Hp} {p q : Addr} {S : Int} (F : Feed H p S) (n : H q = none) : q ≠ p := F.ne n
theorem ex1_tup {K : PySem.W.Frag} {H H' : Hp} {p a : Addr} {S : Int} {xs : List V} (F : Feed H p S) (x : Ex1 p H H') (h : SqT K H a xs) : SqT K H' a xs := by
  obtain ⟨ys, ep⟩ := F.lst
  rcases h with (h | ⟨o, h⟩) | h
  · exact .inl (.inl (x _ _ (fun z => by rw [z, ep] at h; cases h) h))
  · exact .inl (.inr ⟨o, x _ _ (fun z => by rw [z, ep] at h; cases h) h⟩)
  · exact .inr h
theorem ex1_seq {K : PySem.W.Frag} {H H' : Hp} {p a : Addr} {xs : List V} (n : a ≠ p) (x : Ex1 p H H') (h : SqL K H a xs) : SqL K H' a xs := by
  rcases h with (h | ⟨o, h⟩) | h
  · exact .inl (.inl (x _ _ n h))
  · exact .inl (.inr ⟨o, x _ _ n h⟩)
  · exact .inr h
theorem SlabsAt.drawn {K : PySem.W.Frag} {H H' : Hp} {p a : Addr} {S : Int} {ss : List (Nat × Int)} (h : SlabsAt K H a ss) (F : Feed H p S) (n : a ≠ p) (x : Ex1 p H H') : SlabsAt K H' a ss := by
  obtain ⟨bs, h1, h2, h3⟩ := h
  exact ⟨bs, ex1_seq n x h1, h2, fun i b t e1 e2 => ex1_tup F x (h3 i b t e1 e2)⟩
/-- a new object is not p, and was not there before the draws -/
theorem ex1_free {p q : Addr} {H H' : Hp} (x : Ex1 p H H') (n : q ≠ p) (h : H' q = none) : H q = none := by
  cases e : H q with
  | none => rfl
  | some o => rw [x q o n e] at h; cases h
theorem at_list {α : Type} {f : α → V} {xs : List α} {r : Int} (h0 : 0 ≤ r) (h1 : r < xs.length) : ∃ x, x ∈ xs ∧ atI (xs.map f) r = some (f x) := by
  have h2 : r.toNat < xs.length := by omega
  refine ⟨xs[r.toNat], List.getElem_mem h2, ?_⟩
  have e : ((r.toNat : Nat) : Int) = r := by omega
  have z : atI (xs.map f) ((r.toNat : Nat) : Int) = some (f xs[r.toNat]) := atI_nat (by rw [List.getElem?_map, List.getElem?_eq_getElem h2] <;> rfl)
  rw [e] at z
  exact z
end Gd
end

section
set_option Elab.async false
set_option linter.all false
set_option maxRecDepth 100000
set_option maxHeartbeats 4000000
/-! A pen: a list of the cells' list at c, the place of the next one, what is left of a great one. -/
namespace Gd
open PySem PySem.Spec PyProof.Rows L2
def Pen (H : Hp) (l c : Addr) (S : Int) : Prop := ∃ (ns : List Int) (t ov : Int), H l = some (.lst [.ref c, .int t, .int ov]) ∧ H c = some (.lst (ns.map V.int)) ∧ ns.length ≤ 63 ∧ 0 ≤ t ∧ t ≤ S
section
variable {H H' : Hp} {l c q : Addr} {S T : Int} {o : HO}
theorem Pen.le (h : Pen H l c S) (le : S ≤ T) : Pen H l c T := by
  obtain ⟨ns, t, ov, a, b, d, e, f⟩ := h
  exact ⟨ns, t, ov, a, b, d, e, by omega⟩
theorem Pen.apart (h : Pen H l c S) : l ≠ c := by
  obtain ⟨ns, t, ov, a, b, _⟩ := h
  intro e
  rw [e, b] at a
  cases ns with
  | nil => cases a
  | cons x r => cases a
theorem Pen.not (h : Pen H l c S) (n : H q = none) : q ≠ l ∧ q ≠ c := by
  obtain ⟨ns, t, ov, a, b, _⟩ := h
  exact ⟨fun e => (by rw [e, a] at n; cases n), fun e => (by rw [e, b] at n; cases n)⟩
theorem Pen.same (h : Pen H l c S) (s : Same H H') : Pen H' l c S := by
  obtain ⟨ns, t, ov, a, b, d, e, f⟩ := h
  exact ⟨ns, t, ov, s _ _ a, s _ _ b, d, e, f⟩
theorem Pen.off (h : Pen H l c S) (n1 : q ≠ l) (n2 : q ≠ c) : Pen (upd H q o) l c S := by
  obtain ⟨ns, t, ov, a, b, d, e, f⟩ := h
  exact ⟨ns, t, ov, by rw [upd_ne n1.symm]; exact a, by rw [upd_ne n2.symm]; exact b, d, e, f⟩
end
theorem sq_le {t B : Int} (h0 : 0 ≤ t) (h : t ≤ B) : 0 ≤ t * t ∧ t * t ≤ B * B := ⟨Int.mul_nonneg h0 h0, Int.mul_le_mul h h h0 (by omega)⟩
theorem mul_le {x t A B : Int} (hx : 0 ≤ x) (hA : x ≤ A) (h0 : 0 ≤ t) (h : t ≤ B) : 0 ≤ x * t ∧ x * t ≤ A * B := ⟨Int.mul_nonneg hx h0, Int.mul_le_mul hA h h0 (by omega)⟩
def spDraw : Sp := fun vs H Q _ => ∃ (l c : Addr) (m S : Int), vs = [.ref l, .int m] ∧ Pen H l c S ∧ 0 < m ∧ m < 1073741824 ∧ S ≤ 100000 ∧
  ∀ (r : Int) (H' : Hp), 0 ≤ r → r < m → Pen H' l c (S + 1) → Ex1 l H H' → Q (.int r) H'
end Gd
end

section
set_option Elab.async false
set_option linter.all false
set_option maxRecDepth 100000
set_option maxHeartbeats 4000000
/-! zip(t, l): a tuple beside a list. -/
namespace Gd
open PySem PySem.Spec PyProof.Rows L2

/-- the tuple at a, the list at b, as they stand at each turn -/
def ItTL (K : PySem.W.Frag) (a b : Addr) : It where
  go i H := ∃ (xs ys : List V) (x y : V), SqT K H a xs ∧ SqL K H b ys ∧ xs[i]? = some x ∧ ys[i]? = some y
  yld i H v H' := ∃ T x y, v = .ref T ∧ H T = none ∧ H' = upd H T (.tup [x, y]) ∧ (∀ xs, SqT K H a xs → xs[i]? = some x) ∧ ∀ ys, SqL K H b ys → ys[i]? = some y
  stop i H := ∃ xs ys : List V, SqT K H a xs ∧ SqL K H b ys ∧ ys.length = i ∧ xs.length = i

theorem apN {a b : Nat} (h : ¬ a = b) : (a : Addr) ≠ (b : Addr) := h
theorem apL {x a b : Nat} (h1 : ¬ x = a) (h2 : ¬ x = b) : (x : Addr) ∉ ([a, b] : List Addr) := by
  intro h
  rcases List.mem_cons.mp h with h | h
  · exact h1 h
  · rcases List.mem_cons.mp h with h | h
    · exact h2 h
    · cases h
/-- the five cells of such a zip, the first at n -/
def five (n : Nat) : List Addr := [n + 4, n + 2, n + 3, n, n + 1]
theorem mem5 {n c : Nat} (h : c ∈ five n) : n ≤ c ∧ c < n + 5 := by
  simp only [five, List.mem_cons, List.not_mem_nil, or_false] at h
  omega
theorem in5 {n c : Nat} (h : n ≤ c) (h' : c < n + 5) : c ∈ five n := by
  simp only [five, List.mem_cons, List.not_mem_nil, or_false]
  omega
theorem sep5 {n a b : Nat} (ha : a < n) (hb : b < n) : ZipSep2 (n + 4) (n + 2) (n + 3) n (n + 1) [n, a] [n + 1, b] := by
  constructor
  · exact apN (by omega)
  · exact apN (by omega)
  · exact apN (by omega)
  · exact apN (by omega)
  · simp
  · exact apL (by omega) (by omega)
  · exact apL (by omega) (by omega)
  · exact apN (by omega)
  · simp
  · exact apL (by omega) (by omega)
  · exact apL (by omega) (by omega)
  · exact apL (by omega) (by omega)
  · exact apL (by omega) (by omega)
def St5 (n a b : Nat) (i : Nat) (h : Heap) : Prop :=
  IsZip h (n + 4) (n + 2) (n + 3) .none ∧ IsTupOf2 h (n + 2) (.ref n) (.ref (n + 1)) ∧ (∃ x y, IsTupOf2 h (n + 3) x y) ∧
    h.IsTupleIter n a i ∧ h.IsListIter (n + 1) b i ∧ a < n ∧ b < n ∧ n + 5 ≤ h.objs.size
theorem st5_obj {n a b i : Nat} {h : Heap} (st : St5 n a b i h) {c : Addr} (hc : c ∈ five n) : ∃ o, h.get? c = some o ∧ ∀ v, o.data ≠ .cell v := by
  obtain ⟨hz, hi, ⟨x, y, ho⟩, ⟨o1, e1, _, d1⟩, ⟨o2, e2, _, d2⟩, _⟩ := st
  simp only [five, List.mem_cons, List.not_mem_nil, or_false] at hc
  rcases hc with rfl | rfl | rfl | rfl | rfl
  · exact ⟨_, hz, fun v z => nomatch z⟩
  · exact ⟨_, hi, fun v z => nomatch z⟩
  · exact ⟨_, ho, fun v z => nomatch z⟩
  · exact ⟨o1, e1, fun v z => by rw [d1] at z; cases z⟩
  · exact ⟨o2, e2, fun v z => by rw [d2] at z; cases z⟩
theorem st5_keep {n a b i : Nat} {h h' : Heap} (st : St5 n a b i h) (hs : n + 5 ≤ h'.objs.size) (k : ∀ c ∈ five n, ∀ o, h.get? c = some o → h'.get? c = some o) : St5 n a b i h' := by
  obtain ⟨hz, hi, ⟨x, y, ho⟩, h1, h2, la, lb, _⟩ := st
  have m : ∀ j, j < 5 → n + j ∈ five n := fun j hj => in5 (by omega) (by omega)
  exact ⟨k _ (m 4 (by omega)) _ hz, k _ (m 2 (by omega)) _ hi, ⟨x, y, k _ (m 3 (by omega)) _ ho⟩, h1.at fun o e => k n (m 0 (by omega)) o e, h2.at fun o e => k _ (m 1 (by omega)) o e, la, lb, hs⟩
theorem size_of_get {h : Heap} {n : Nat} {o : Obj} (e : h.get? (n + 4) = some o) : n + 5 ≤ h.objs.size := Heap.lt_size e

theorem turn_TL {P : Program} {w : World} {K : PySem.W.Frag} {elts : List Expr} {kk : Nat} {tpos : Pos} {a b n : Addr} :
    Turn P w K (.Tuple elts kk tpos) (ItTL K a b) (five n) (n + 4) (St5 n a b) where
  mem := in5 (by omega) (by omega)
  obj := fun i h st c hc => st5_obj st hc
  keep := fun i h h' st k => by
    obtain ⟨o, e⟩ : ∃ o, h.get? (n + 4) = some o := ⟨_, st.1⟩
    exact st5_keep st (size_of_get (k _ (in5 (by omega) (by omega)) _ e)) k
  item := by
    intro X hP hw hK hc i pins s σ H E I hf st hg
    subst hP hw hK
    have st0 := st
    obtain ⟨hz, hi, ⟨x0, y0, ho⟩, h1, h2, la, lb, _⟩ := st
    obtain ⟨xs, ys, x, y, qx, qy, hx, hy⟩ := hg
    obtain ⟨as, rv, p, _⟩ := I.tuple qx
    obtain ⟨bs, rv2, p2, _⟩ := I.list qy
    obtain ⟨u, hu, ru⟩ := rv.get hx
    obtain ⟨u2, hu2, ru2⟩ := rv2.get hy
    have hh := I.ok.hd hc
    have hh1 : X.A.in1.handled = none := hh
    have hia : i < as.toArray.size := by
      rw [List.size_toArray]
      exact (List.getElem?_eq_some_iff.mp hu).1
    have hib : i < bs.toArray.size := by
      rw [List.size_toArray]
      exact (List.getElem?_eq_some_iff.mp hu2).1
    refine wpAny_pyNext_zipD2_item (sep5 la lb) (.tuple hh1 n a (Nat.ne_of_lt la) as.toArray) (.list hh1 (n + 1) b (apN (by omega)) bs.toArray) hz hi ho ⟨h1, p⟩ ⟨h2, p2.isList⟩ hia hib ?_
    intro x1 x2 h' tk e1 e2 z' o' g1 g2 hT hsz hk
    have eu : x1 = u := by
      have : as.toArray[i]? = some u := by simpa using hu
      exact Option.some.inj (e1.symm.trans this)
    have eu2 : x2 = u2 := by
      have : bs.toArray[i]? = some u2 := by simpa using hu2
      exact Option.some.inj (e2.symm.trans this)
    subst eu eu2
    have old : ∀ {c o}, s.heap.get? c = some o → c ≠ s.heap.objs.size := fun e => Nat.ne_of_lt (Heap.lt_size e)
    refine ⟨_, rfl, wpAny_letOwnedTupleGo_zip z' fun h3 z3 sb => ?_⟩
    have stay : ∀ c o, c ∉ five n → s.heap.get? c = some o → h3.get? c = some o := fun c o nc e =>
      (sb.2 c (fun q => nc (q ▸ in5 (by omega) (by omega)))).trans (hk c o (fun q => nc (q ▸ in5 (by omega) (by omega))) (fun q => nc (q ▸ in5 (by omega) (by omega)))
        (fun q => nc (q ▸ in5 (by omega) (by omega))) (fun q => nc (q ▸ in5 (by omega) (by omega))) e)
    have t3 : h3.get? s.heap.objs.size = some { cls := .type "tuple", data := .seq #[x1, x2] } := (sb.2 _ (old hz).symm).trans hT
    have fine : ObjOk X.prog X.w (upd H s.heap.objs.size (.tup [x, y])) h3 s.heap.objs.size (.tup [x, y]) :=
      ⟨by show 2 ≤ sizeLine; decide, [x1, x2], .cons ru (.cons ru2 .nil), ⟨_, t3, rfl, _, rfl⟩⟩
    have I3 := I.turnedNew (t' := tk) (ch := five n) stay hf (Nat.le_refl _) fine
    have sz : h3.objs.size = h'.objs.size := sb.1
    have sz2 : n + 5 ≤ s.heap.objs.size := size_of_get hz
    refine ⟨.ref s.heap.objs.size, _, I3, rfl, ⟨_, x, y, rfl, I.hok.fresh (Nat.le_refl _), rfl, fun l hl => ?_, fun l hl => ?_⟩, ⟨z3, ?_, ⟨x1, x2, ?_⟩, ?_, ?_, la, lb, ?_⟩, fun c hcm => ?_⟩
    · rw [I.tuple_inj hl qx]; exact hx
    · rw [I.list_inj hl qy]; exact hy
    · exact (sb.2 _ (apN (by omega))).trans (hk _ _ (apN (by omega)) (apN (by omega)) (apN (by omega)) (apN (by omega)) hi)
    · exact (sb.2 _ (apN (by omega))).trans o'
    · exact g1.1.at fun o q => (sb.2 _ (apN (by omega))).trans q
    · exact g2.1.at fun o q => (sb.2 _ (apN (by omega))).trans q
    · rw [sz, hsz]
      omega
    · have := (mem5 hcm).2
      rw [upd_ne (apN (by omega))]
      exact (hf c hcm).1
  done := by
    intro X hP hw hK hc i pins s σ H E I hf st hg
    subst hP hw hK
    obtain ⟨hz, hi, ⟨x0, y0, ho⟩, h1, h2, la, lb, _⟩ := st
    obtain ⟨xs, ys, qx, qy, ey, ex⟩ := hg
    obtain ⟨as, rv, p, _⟩ := I.tuple qx
    obtain ⟨bs, rv2, p2, _⟩ := I.list qy
    have l1 := rv.length
    have l2 := rv2.length
    have hh := I.ok.hd hc
    have hh1 : X.A.in1.handled = none := hh
    have sa : as.toArray.size = i := by rw [List.size_toArray]; omega
    have sb : bs.toArray.size = i := by rw [List.size_toArray]; omega
    refine wpAny_pyNext_zipD2_end (sep5 la lb) (.tuple hh1 n a (Nat.ne_of_lt la) as.toArray) (.list hh1 (n + 1) b (apN (by omega)) bs.toArray) hz hi ho ⟨h1, p⟩ ⟨h2, p2.isList⟩ (by omega) (by omega) (by omega) ?_
    intro h' tk hk
    refine ⟨rfl, I.turnedL (t' := tk) (ch := five n) (fun c o nc e => ?_) hf⟩
    exact hk c o (fun q => nc (q ▸ in5 (by omega) (by omega))) (fun q => nc (q ▸ in5 (by omega) (by omega))) (fun q => nc (q ▸ in5 (by omega) (by omega))) (fun q => nc (q ▸ in5 (by omega) (by omega))) e
  self := fun A i s Q E st h => wpAny_pyIter_zip st.1 h

def iTL (K : PySem.W.Frag) (ta : TA) : TI := fun σ H R => ta σ H fun vs H1 => ∃ a b xs ys, vs = [.ref a, .ref b] ∧ SqT K H1 a xs ∧ SqL K H1 b ys ∧ xs.length = ys.length ∧ R (ItTL K a b) H1
theorem pi_TL {X : Cx} {e e2 : Expr} {ta : TA} {p pos tpos : Pos} {elts : List Expr} {kk : Nat} (hg : Gl X "zip") (hm : X.mg "zip" = none) (ha : PA X [e, e2] ta)
    (hs : starEach [e, e2] X.env = (false, eval e X.env) :: starEach [e2] X.env := by rfl) (hpl : (backTo pos (starEach [e2] X.env)).any (·.1) = false := by rfl) :
    PI X (.Tuple elts kk tpos) (.Call (.Name "zip" p) [e, e2] [] pos) (iTL X.K ta) := by
  refine ⟨fun pins s σ H R I h => Call_ (ld_blt I hg hm PyProof.Rows.boot_zip (PyProof.Rows.callWith_type1 (thn (ha.run pos pins s σ H _ I h) ?_) hs hpl))⟩
  rintro us s1 ⟨vs, H1, J, r, a, b, xs, ys, rfl, qx, qy, hl, q⟩
  obtain ⟨u1, u2, rfl, r1, r2⟩ := vals2 r
  cases r1
  cases r2
  obtain ⟨as, rv, p1, _⟩ := J.tuple qx
  obtain ⟨bs, rv2, p2, _⟩ := J.list qy
  have la : a < s1.heap.objs.size := by
    obtain ⟨o, e, _⟩ := id p1
    exact Heap.lt_size e
  refine zip_begins2 (begins_tuple a as.toArray) (begins_list b bs.toArray) p1 p2.isList ?_
  intro h' hz hi ho g1 g2 hsz hk
  refine wpAny_pyIter_zip hz ?_
  refine ⟨s1.heap.objs.size + 4, five s1.heap.objs.size, _, _, H1, rfl, J.kept (t' := s1.toks) hk, turn_TL (a := a) (b := b), ?_, fun c hc => ?_, q⟩
  · exact ⟨hz, hi, ⟨_, _, ho⟩, ⟨_, g1, rfl, rfl⟩, ⟨_, g2, rfl, rfl⟩, la, p2.lt, by rw [hsz]; exact Nat.le_refl _⟩
  · have hle := (mem5 hc).1
    exact (J.kept (t' := s1.toks) (fun _ _ z => z)).fpOk hle (J.hok.fresh hle)
end Gd
end

section
set_option Elab.async false
set_option linter.all false
set_option maxRecDepth 100000
set_option maxHeartbeats 4000000
/-! enumerate(t), t a tuple. -/
namespace Gd
open PySem PySem.Spec PyProof.Rows L2
/-- the tuple at a, numbered -/
def ItET (K : PySem.W.Frag) (a : Addr) : It where
  go i H := ∃ (xs : List V) (x : V), SqT K H a xs ∧ xs[i]? = some x
  yld i H v H' := ∃ T x, v = .ref T ∧ H T = none ∧ H' = upd H T (.tup [.int (i : Nat), x]) ∧ ∀ xs, SqT K H a xs → xs[i]? = some x
  stop i H := ∃ xs : List V, SqT K H a xs ∧ xs.length = i
/-- its two cells, the first at n -/
def duo (n : Nat) : List Addr := [n + 1, n]
theorem mem2 {n c : Nat} (h : c ∈ duo n) : n ≤ c ∧ c < n + 2 := by
  simp only [duo, List.mem_cons, List.not_mem_nil, or_false] at h
  omega
theorem in2 {n c : Nat} (h : n ≤ c) (h' : c < n + 2) : c ∈ duo n := by
  simp only [duo, List.mem_cons, List.not_mem_nil, or_false]
  omega
def StE (n a : Nat) (i : Nat) (h : Heap) : Prop := (∃ old, IsEnum h (n + 1) n ((i : Nat) : Int) old) ∧ h.IsTupleIter n a i ∧ a < n ∧ n + 2 ≤ h.objs.size
theorem size2 {h : Heap} {n : Nat} {o : Obj} (e : h.get? (n + 1) = some o) : n + 2 ≤ h.objs.size := Heap.lt_size e
theorem turn_ET {P : Program} {w : World} {K : PySem.W.Frag} {elts : List Expr} {kk : Nat} {tpos : Pos} {a n : Addr} :
    Turn P w K (.Tuple elts kk tpos) (ItET K a) (duo n) (n + 1) (StE n a) where
  mem := in2 (by omega) (by omega)
  obj := fun i h st c hc => by
    obtain ⟨⟨old, e1⟩, ⟨o, e2, _, d2⟩, _⟩ := st
    simp only [duo, List.mem_cons, List.not_mem_nil, or_false] at hc
    rcases hc with rfl | rfl
    · exact ⟨_, e1, fun v z => nomatch z⟩
    · exact ⟨o, e2, fun v z => by rw [d2] at z; cases z⟩
  keep := fun i h h' st k => by
    obtain ⟨⟨old, e1⟩, t1, la, _⟩ := st
    have e3 := k (n + 1) (in2 (by omega) (by omega)) _ e1
    exact ⟨⟨old, e3⟩, t1.at fun o e => k n (in2 (by omega) (by omega)) o e, la, size2 e3⟩
  item := by
    intro X hP hw hK hc i pins s σ H E I hf st hg
    subst hP hw hK
    obtain ⟨⟨old, e1⟩, t1, la, sz0⟩ := st
    obtain ⟨xs, x, qx, hx⟩ := hg
    obtain ⟨as, rv, p, _⟩ := I.tuple qx
    obtain ⟨u, hu, ru⟩ := rv.get hx
    have hh1 : X.A.in1.handled = none := I.ok.hd hc
    have hia : i < as.toArray.size := by
      rw [List.size_toArray]
      exact (List.getElem?_eq_some_iff.mp hu).1
    have nin : (n + 1 : Nat) ∉ ([n, a] : List Addr) := apL (by omega) (by omega)
    refine wpAny_pyNext_enum_itemD (.tuple hh1 n a (Nat.ne_of_lt la) as.toArray) e1 ⟨t1, p⟩ hia (apN (by omega)) nin ?_
    intro y h' tk ey z' g1 hT hsz hk
    have eu : y = u := by
      have : as.toArray[i]? = some u := by simpa using hu
      exact Option.some.inj (ey.symm.trans this)
    subst eu
    refine ⟨_, rfl, wpAny_letOwnedTupleGo_enum z' fun h3 z3 sb => ?_⟩
    have old3 : ∀ {c o}, s.heap.get? c = some o → c ≠ s.heap.objs.size := fun e => Nat.ne_of_lt (Heap.lt_size e)
    have stay : ∀ c o, c ∉ duo n → s.heap.get? c = some o → h3.get? c = some o := fun c o nc e =>
      (sb.2 c (fun q => nc (q ▸ in2 (by omega) (by omega)))).trans (hk c o (fun q => nc (q ▸ in2 (by omega) (by omega))) (fun q => nc (q ▸ in2 (by omega) (by omega))) e)
    have t3 : h3.get? s.heap.objs.size = some { cls := .type "tuple", data := .seq #[.int i tk, y] } := (sb.2 _ (old3 e1).symm).trans hT
    have fine : ObjOk X.prog X.w (upd H s.heap.objs.size (.tup [.int (i : Nat), x])) h3 s.heap.objs.size (.tup [.int (i : Nat), x]) :=
      ⟨by show 2 ≤ sizeLine; decide, [.int i tk, y], .cons ⟨_, rfl⟩ (.cons ru .nil), ⟨_, t3, rfl, _, rfl⟩⟩
    have I3 := I.turnedNew (t' := tk + 1) (ch := duo n) stay hf (Nat.le_refl _) fine
    have sz : h3.objs.size = h'.objs.size := sb.1
    refine ⟨.ref s.heap.objs.size, _, I3, rfl, ⟨_, x, rfl, I.hok.fresh (Nat.le_refl _), rfl, fun l hl => ?_⟩, ⟨⟨y, ?_⟩, ?_, la, ?_⟩, fun c hcm => ?_⟩
    · rw [I.tuple_inj hl qx]; exact hx
    · rw [show ((i + 1 : Nat) : Int) = (i : Int) + 1 by omega]
      exact z3
    · exact g1.1.at fun o q => (sb.2 _ (apN (by omega))).trans q
    · rw [sz, hsz]
      omega
    · have := (mem2 hcm).2
      rw [upd_ne (apN (by omega))]
      exact (hf c hcm).1
  done := by
    intro X hP hw hK hc i pins s σ H E I hf st hg
    subst hP hw hK
    obtain ⟨⟨old, e1⟩, t1, la, sz0⟩ := st
    obtain ⟨xs, qx, ex⟩ := hg
    obtain ⟨as, rv, p, _⟩ := I.tuple qx
    have l1 := rv.length
    have hh1 : X.A.in1.handled = none := I.ok.hd hc
    have sa : as.toArray.size = i := by rw [List.size_toArray]; omega
    subst sa
    refine wpAny_pyNext_enum_endD (.tuple hh1 n a (Nat.ne_of_lt la) as.toArray) e1 ⟨t1, p⟩ ?_
    intro h' hk
    exact ⟨rfl, I.turnedL (t' := s.toks) (ch := duo n) (fun c o nc e => hk c o (fun q => nc (q ▸ in2 (by omega) (by omega))) e) hf⟩
  self := fun A i s Q E st h => by
    obtain ⟨⟨old, e1⟩, _⟩ := st
    exact wpAny_pyIter_enum e1 h

/-! making it -/
abbrev cellE (n : Nat) : Obj := { cls := .type "enumerate", data := .fields #[.none, .bool false, .ref n, rawInt 0, .none, .none] }
theorem make_ET {v : Value} {o : Obj} {Z : Heap → Prop} (B : Begins v o Z) : Meets (Builtin.«enumerate.__new__» ⟨[.type "enumerate", v], []⟩)
    (fun _ R s => Z s.heap ∧ R (.ok (.ret (.ref (s.heap.push o).objs.size))) { s with heap := (s.heap.push o).push (cellE s.heap.objs.size) }) := by
  refine .of_wp fun prog w A R s z => ?_
  obtain ⟨hp, g, d, tk, os⟩ := s
  have sub := sub_enumerate
  have go : ∀ {A' : Around} {F Q : Value → Shared → Prop}, Q (.ref hp.objs.size) ⟨hp.push o, g, d, tk, os⟩ → wpAny (model prog w) A' (pyIter v) Q F ⟨hp, g, d, tk, os⟩ := fun y => B.iter prog w _ _ ⟨hp, g, d, tk, os⟩ _ z.1 y
  wp_walk using go
  refine wpAny_stack_any fun stk => wpAny_pure ?_
  split
  · rename_i c _ _ _ _ _
    cases (c == Value.type "enumerate") <;> (wp_walk using go; exact ⟨_, rfl, z.2⟩)
  · wp_walk using go
    exact ⟨_, rfl, z.2⟩
theorem call_ET {prog : Program} {w : World} {A : Around} {G Q : Value → Shared → Prop} {s : Shared} {v : Value} {o : Obj} {Z : Heap → Prop} (B : Begins v o Z) (z : Z s.heap)
    (q : ∀ h', IsEnum h' (s.heap.objs.size + 1) s.heap.objs.size 0 .none → h'.get? s.heap.objs.size = some o → h'.objs.size = s.heap.objs.size + 2 → (∀ b o', s.heap.get? b = some o' → h'.get? b = some o') →
      Q (.ref (s.heap.objs.size + 1)) { s with heap := h' }) : wpAny (model prog w) A (call (.type "enumerate") [v]) Q G s := by
  have e1 : (s.heap.push o).objs.size = s.heap.objs.size + 1 := Heap.size_push ..
  have e2 : IsEnum ((s.heap.push o).push (cellE s.heap.objs.size)) (s.heap.objs.size + 1) s.heap.objs.size 0 .none := by
    rw [← e1]
    exact Heap.get?_push_size (s.heap.push o) (o := cellE s.heap.objs.size) rfl
  refine callType_new F.called_enumerate (by decide) (F.typeCall_enumerate_1 _) (F.newCall_enumerate_1 _) (fun obj => F.args_object_init_2 obj _) F.entry_enumerate_new (make_ET B) ⟨z, ?_⟩
  show _ ∧ _
  rw [e1]
  exact ⟨⟨_, e2, rfl⟩, q _ e2 (Heap.get?_push_of_some _ (Heap.get?_push_size _ B.free)) (by rw [Heap.size_push, e1]) fun b o' y => Heap.get?_push_of_some _ (Heap.get?_push_of_some _ y)⟩
def iET (K : PySem.W.Frag) (ta : TA) : TI := fun σ H R => ta σ H fun vs H1 => ∃ a xs, vs = [.ref a] ∧ SqT K H1 a xs ∧ R (ItET K a) H1
theorem pi_ET {X : Cx} {e : Expr} {ta : TA} {p pos tpos : Pos} {elts : List Expr} {kk : Nat} (hg : Gl X "enumerate") (hm : X.mg "enumerate" = none) (ha : PA X [e] ta) (hs : starEach [e] X.env = [(false, eval e X.env)] := by rfl) :
    PI X (.Tuple elts kk tpos) (.Call (.Name "enumerate" p) [e] [] pos) (iET X.K ta) := by
  refine ⟨fun pins s σ H R I h => Call_ (ld_blt I hg hm boot_enumerate (PyProof.Rows.callWith_type1 (thn (ha.run pos pins s σ H _ I h) ?_) hs rfl))⟩
  rintro us s1 ⟨vs, H1, J, r, a, xs, rfl, qx, q⟩
  obtain ⟨u1, rfl, r1⟩ := vals1 r
  cases r1
  obtain ⟨as, rv, p1, _⟩ := J.tuple qx
  have la : a < s1.heap.objs.size := by
    obtain ⟨o, e, _⟩ := id p1
    exact Heap.lt_size e
  refine call_ET (begins_tuple a as.toArray) p1 ?_
  intro h' he g1 hsz hk
  refine wpAny_pyIter_enum he ?_
  refine ⟨s1.heap.objs.size + 1, duo s1.heap.objs.size, _, _, H1, rfl, J.kept (t' := s1.toks) hk, turn_ET (a := a), ?_, fun c hc => ?_, q⟩
  · exact ⟨⟨_, he⟩, ⟨_, g1, rfl, rfl⟩, la, by rw [hsz]; exact Nat.le_refl _⟩
  · have hle := (mem2 hc).1
    exact (J.kept (t' := s1.toks) (fun _ _ z => z)).fpOk hle (J.hok.fresh hle)
theorem walk_ET {K : PySem.W.Frag} {a : Addr} {xs : List V} : Walk (ItET K a) xs.length (fun H => SqT K H a xs) (YPair (fun i => some (.int (i : Nat))) (fun i => xs[i]?)) := by
  refine ⟨fun i _ hi q => ⟨xs, xs[i], q, by simp [hi]⟩, fun _ q => ⟨xs, q, rfl⟩, fun i H v H' _ q y => ?_⟩
  obtain ⟨T, x, h1, h2, h3, h4⟩ := y
  exact ⟨T, .int (i : Nat), x, h1, h2, h3, rfl, h4 xs q⟩
/-! is a truth, of a truth or None -/
theorem op_is_fl {X : Cx} : OpR X (compareOp .Is) (fun x y H Q => ∃ b, y = .bl b ∧ ((∃ a, x = .bl a ∧ Q (.bl (decide (a = b))) H) ∨ (x = .non ∧ Q (.bl false) H))) := by
  intro pins s σ H x y v u Q I rx ry h
  obtain ⟨b, rfl, ⟨a, rfl, q⟩ | ⟨rfl, q⟩⟩ := h
  · exact op_is_bl pins s σ H _ _ v u Q I rx ry ⟨a, b, rfl, rfl, q⟩
  · cases rx
    cases (show u = Value.bool b from ry)
    exact wpAny_is_other rfl (fun z => nomatch z) ⟨.bl false, H, I, rfl, q⟩
theorem op_isnot_fl {X : Cx} : OpR X (compareOp .IsNot) (fun x y H Q => ∃ b, y = .bl b ∧ ((∃ a, x = .bl a ∧ Q (.bl (!decide (a = b))) H) ∨ (x = .non ∧ Q (.bl true) H))) := by
  intro pins s σ H x y v u Q I rx ry h
  obtain ⟨b, rfl, ⟨a, rfl, q⟩ | ⟨rfl, q⟩⟩ := h
  · exact op_isnot_bl pins s σ H _ _ v u Q I rx ry ⟨a, b, rfl, rfl, q⟩
  · cases rx
    cases (show u = Value.bool b from ry)
    exact wpAny_isNot_other rfl (fun z => nomatch z) ⟨.bl true, H, I, rfl, q⟩
end Gd
end

section
set_option Elab.async false
set_option linter.all false
set_option maxRecDepth 100000
/-! Methods within a comprehension: what is done may not name the comprehension's own frame. -/
namespace Gd
open PySem PySem.Spec PyProof.Rows L2
section
variable {X : Cx} {o e : Expr} {es : List Expr} {to : TE} {t : TA} {name : Str} {apos cpos : Pos} {T id : String} {r : V → List V → Hp → VK → Prop} {K : PySem.W.Frag}
theorem pe_bmK (K : PySem.W.Frag) (r : V → List V → Hp → VK → Prop) (pa : PlainAttrs T) (slot : Slot T name id) (hty : typeOf (.builtin id) = pure (.type "method_descriptor")) (hm : MtR X id r) (ho : PE X o to) (ha : PA X (e :: es) t) (hK : X.K = K := by rfl)
    (hbase : attributeBase o name X.env (eval o X.env) = eval o X.env := by rfl)
    (hfew : ((backTo cpos (starEach (e :: es) X.env)).all (fun x => !x.1) && (backToKw cpos (keywordEach [] X.env)).all (fun x => x.1.isSome)
      && decide ((e :: es).length + ([] : List Keyword).length + (if ([] : List Keyword).isEmpty then 0 else 1) < 30)) = true := by rfl)
    (hline : (apos.endLine == cpos.line) = true := by rfl) (hs : starEach (e :: es) X.env = (false, eval e X.env) :: starEach es X.env := by rfl) (hplain : (backTo cpos (starEach es X.env)).any (·.1) = false := by rfl) :
    PE X (.Call (.Attribute o name apos) (e :: es) [] cpos) (tBM K T r to t) := by
  subst hK
  exact pe_bm pa slot hty hm ho ha hbase hfew hline hs hplain
theorem pe_tupleOfK (K : PySem.W.Frag) {a : Expr} {ta : TE} {p pos : Pos} (hg : Gl X "tuple") (hm : X.mg "tuple" = none) (ha : PE X a ta) (hK : X.K = K := by rfl) (na : starEach [a] X.env = (false, eval a X.env) :: starEach [] X.env := by rfl) :
    PE X (.Call (.Name "tuple" p) [a] [] pos) (tThen ta (kTup K)) := by
  subst hK
  exact pe_tupleOf hg hm ha na
theorem call_lenK (K : PySem.W.Frag) (hK : X.K = K := by rfl) : CallR X (.builtin "len") (fun xs H Q => ∃ p ys, xs = [V.ref p] ∧ (SqL K H p ys ∨ SqT K H p ys) ∧ Q (.int ys.length) H) := by
  subst hK
  exact call_len_seq
end
end Gd
end

section
set_option Elab.async false
set_option linter.all false
set_option maxRecDepth 100000
set_option maxHeartbeats 4000000
/-! f(k=e, ..): by its names alone, in any order. -/
namespace Gd
open PySem PySem.Spec PyProof.Rows L2
section
variable {X : Cx} {cx : CXT} {n : Nat} {f : Addr} {fd : FuncData} {ps ks : List Str} {sp : Sp} {E : XK} {x : Str} {p pos : Pos} {kws : List Keyword} {tk : TA}
  {g : List Value → List Value → List Value} {gV : List V → List V → List V}
def tKw2 (sp : Sp) (gV : List V → List V → List V) (E : XK) (tk : TA) : TE := fun σ H Q => tk σ H fun zs H2 => sp (gV [] zs) H2 Q E
/-- f(k=e): by its names alone -/
theorem pe_kw2 (F : FnOk X.prog X.w X.K X.mg X.base cx n f fd ps sp) (hr : Room n X.A) (hg : Gl X x) (hm : X.mg x = some (.ref f)) (hk : PySem.W.keepIn X.K (.ref f) = true)
    (hb : KBinds X.K fd ps ks g gV) (hx : Passes cx X E) (hkw : PK X kws tk)
    (hall : (backToKw pos (keywordEach kws X.env)).all (·.1.isSome) = true := by rfl) (hks : (backToKw pos (keywordEach kws X.env)).filterMap (·.1) = ks := by rfl)
    (hdb : (x == ("__debug__" : Str)) = false := by decide)
    (hpl : ((backTo pos (starEach [] X.env)).any (·.1) || (backToKw pos (keywordEach kws X.env)).any (·.1.isNone)) = false := by rfl) :
    PE X (.Call (.Name x p) [] kws pos) (tKw2 sp gV E tk) := by
  constructor
  intro pins s σ H Q I h
  refine wpAny_Call_Name_kw (ld_glob I hg hm ?_ hdb)
  refine PySem.W.callWith_KW0 (h₀ := X.base) I.ok.mod.kin hk hall (thn (hkw.run pos pins s σ H _ I h) ?_) hpl
  rintro ws s2 ⟨zs, H2, J, rz, q⟩
  refine ⟨J.kIn, ?_⟩
  rw [hks]
  exact run_fnk (us := []) (vs := []) F hr hb hx J .nil rz q
end
/-- two by their names, told in the other order -/
def back2 {α : Type} : List α → List α → List α
  | [], [a, b] => [b, a]
  | _, _ => []
theorem back2_rel {vs : List V} {us : List Value} {zs : List V} {ws : List Value} (a : Vals vs us) (b : Vals zs ws) : Vals (back2 vs zs) (back2 us ws) := by
  cases a with
  | cons _ _ => cases b <;> exact .nil
  | nil =>
    cases b with
    | nil => exact .nil
    | cons b1 b => cases b with
      | nil => exact .nil
      | cons b2 b => cases b with
        | nil => exact .cons b2 (.cons b1 .nil)
        | cons _ _ => exact .nil
theorem back2_of {K : PySem.W.Frag} {x qual p0 p1 : Str} {st : Stmt} {f : Addr} {fd : FuncData} (F : Fun K x qual st f fd)
    (h : ∀ (kV doc pm : Value) (an : Option Addr) (cdv ct a b : Value), bindArgs (PySem.W.fnOf x qual (defArgs st) (defBody st) (defScope st) .none kV doc pm an cdv ct) ⟨[], [(p1, a), (p0, b)]⟩ = pure [(p0, b), (p1, a)]) :
    KBinds K fd [p0, p1] [p1, p0] back2 back2 := by
  obtain ⟨oc, od, kV, doc, pm, an, cdv, ct, osl, rfl, lk, hcd⟩ := F.ex
  refine ⟨fun s us ws _ hl => ?_, fun a b => back2_rel a b⟩
  match us, ws, hl with
  | [], [a, b], _ => exact .of_eq (h kV doc pm an cdv ct a b)
end Gd
end

section
set_option Elab.async false
set_option linter.all false
set_option maxRecDepth 100000
set_option maxHeartbeats 4000000
namespace K28
open PySem PySem.Spec PyProof.Rows L2 Gd
def topS (i : Nat) : Stmt := PySem.Challenge.pw_plansamid_k28_dropped_early.main.body.getD i (.Pass ⟨0, 0, 0, 0⟩)
/-! parts and sieves, as far as divisions go -/
inductive Pa where
  | num (i : Int)
  | cel (a b : Str)
  | bin (k : Nat) (l r : Pa)
def signs : List Str := ["plus", "less", "times", "over"]
def sgn (k : Nat) : Str := signs.getD k "over"
def pd : Pa → PyData
  | .num i => .tuple [.str "number", .int i]
  | .cel a b => .tuple [.str "cell", .str a, .str b]
  | .bin k l r => .tuple [.str (sgn k), pd l, pd r]
def ovr : Pa → Bool
  | .num _ => false
  | .cel _ _ => false
  | .bin k l r => decide (3 ≤ k) || ovr l || ovr r
def dep : Pa → Nat
  | .num _ => 1
  | .cel _ _ => 1
  | .bin _ l r => 1 + max (dep l) (dep r)
theorem dep_pos (p : Pa) : 1 ≤ dep p := by
  cases p <;> simp only [dep] <;> omega
theorem cut_drop (xs : List V) (k : Nat) : cutV xs (some ((k : Nat) : Int)) none = xs.drop k := by
  unfold cutV
  rw [HT.sIx_none, HT.sIx_nat]
  by_cases h : k ≤ xs.length
  · rw [Nat.min_eq_left h, List.take_of_length_le (by rw [List.length_drop]; omega)]
  · rw [Nat.min_eq_right (by omega), List.drop_of_length_le (Nat.le_refl _), List.drop_of_length_le (by omega), List.take_nil]
theorem sgn_in (k : Nat) : inV (.str (sgn k)) (signs.map V.str) = true := by
  match k with
  | 0 => decide
  | 1 => decide
  | 2 => decide
  | k + 3 =>
    have e : sgn (k + 3) = "over" := by
      unfold sgn signs
      match k with
      | 0 => rfl
      | k + 1 => rfl
    rw [e]
    decide
theorem sgn_over (k : Nat) : decide (V.str (sgn k) = V.str "over") = decide (3 ≤ k) := by
  match k with
  | 0 => decide
  | 1 => decide
  | 2 => decide
  | k + 3 =>
    have e : sgn (k + 3) = "over" := by
      unfold sgn signs
      match k with
      | 0 => rfl
      | k + 1 => rfl
    rw [e, decide_eq_true rfl, decide_eq_true (by omega)]
theorem flat_strs : ∀ l : List Str, (l.map V.str).all flatV = true
  | [] => rfl
  | x :: l => flat_strs l
abbrev sMay : Stmt := topS 2
theorem scMay : FnScope ["part"] ["part"] (defScope sMay) := ⟨rfl, rfl, rfl, by decide +kernel, rfl, by decide +kernel, by decide +kernel⟩
def spMay (K : PySem.W.Frag) (n : Nat) : Sp := fun vs H Q _ => ∃ (v : V) (p : Pa), vs = [v] ∧ Dp K H v (pd p) ∧ dep p ≤ n ∧ 1 ≤ n ∧ ∀ H', Same H H' → Q (.bl (ovr p)) H'
structure Sg (K : PySem.W.Frag) (mg : Str → Option Value) (pS : Addr) : Prop where
  sgn : mg "_SIGNS" = some (.ref pS)
  sq : ∀ H, SqT K H pS (signs.map V.str)
section
variable {P : Program} {w : World} {K : PySem.W.Frag} {mg : Str → Option Value} {base : Heap} {f : Addr} {fd : FuncData} {pS : Addr}
theorem may_none : FnOk P w K mg base CX0 1 f fd ["part"] (spMay K 0) := by
  have bad : ∀ vs H Q E, ¬ spMay K 0 vs H Q E := by
    rintro vs H Q E ⟨v, p, _, _, _, h, _⟩
    omega
  exact ⟨fun vs H Q E h => absurd h (bad vs H Q E), fun A outer s H args us vs Q E _ _ _ _ h => absurd h (bad vs H Q E)⟩
theorem may_step (F : Fun K "may_fault" "may_fault" sMay f fd) (C : Sg K mg pS) {n : Nat} (G : FnOk P w K mg base CX0 (n + 1) f fd ["part"] (spMay K n)) (b : Binds K fd ["part"] []) (gF : mg "may_fault" = some (.ref f)) :
    FnOk P w K mg base CX0 (n + 2) f fd ["part"] (spMay K (n + 1)) := by
  refine F.ok scMay (fun vs H Q E h => ?_) (fun cdv A outer s H vs Q E hr h => ?_)
  · obtain ⟨v, p, rfl, _⟩ := h
    rfl
  obtain ⟨v, p, rfl, hd, hn, _, q⟩ := h
  have nd := scMay.nd
  refine ⟨_, pss_cons (ps_if (pt_cmpR op_notIn_seq (pe_ix ix_tup (pv 0) pe_int (fun _ _ => rfl)) (pe_glob (v := .ref pS) (by rfl) C.sgn rfl) (by with_unfolding_all rfl)) (pss_one (ps_ret pe_bl)) pss_nil)
    (pss_one (ps_ret (pe_or (pe_cmpR op_eq (pe_ix ix_tup (pv 0) pe_int (fun _ _ => rfl)) pe_str (nomark _))
      (pe_or (pe_call G hr (by rfl) gF F.kp b .nil pass0 (pa_cons (pe_ix ix_tup (pv 0) pe_int (fun _ _ => rfl)) pa_nil))
      (pe_one (pe_call G hr (by rfl) gF F.kp b .nil pass0 (pa_cons (pe_ix ix_tup (pv 0) pe_int (fun _ _ => rfl)) pa_nil))))))), ?_⟩
  cases p with
  | num i =>
    simp only [pd] at hd
    cases hd with
    | @tup a xs _ hS hA =>
    cases hA with
    | cons h1 hA =>
    cases h1
    refine ⟨_, rfl, a, _, 0, .str "number", rfl, rfl, hS, atI_nat (j := 0) rfl, pS, _, rfl, .inr (C.sq _), rfl, flat_strs _, _, rfl, ?_⟩
    have e : inV (.str "number") (signs.map V.str) = false := by decide
    rw [e]
    refine iteT ?_
    exact q _ (fun _ _ e => e)
  | cel x y =>
    simp only [pd] at hd
    cases hd with
    | @tup a xs _ hS hA =>
    cases hA with
    | cons h1 hA =>
    cases h1
    refine ⟨_, rfl, a, _, 0, .str "cell", rfl, rfl, hS, atI_nat (j := 0) rfl, pS, _, rfl, .inr (C.sq _), rfl, flat_strs _, _, rfl, ?_⟩
    have e : inV (.str "cell") (signs.map V.str) = false := by decide
    rw [e]
    refine iteT ?_
    exact q _ (fun _ _ e => e)
  | bin k l r =>
    simp only [pd] at hd
    simp only [dep] at hn
    cases hd with
    | @tup a xs _ hS hA =>
    cases hA with
    | cons h1 hA =>
    cases h1
    cases hA with
    | @cons v1 _ _ _ h2 hA =>
    cases hA with
    | @cons v2 _ _ _ h3 hA =>
    cases hA
    refine ⟨_, rfl, a, _, 0, .str (sgn k), rfl, rfl, hS, atI_nat (j := 0) rfl, pS, _, rfl, .inr (C.sq _), rfl, flat_strs _, _, rfl, ?_⟩
    rw [sgn_in]
    refine iteF ?_
    refine ⟨_, rfl, a, _, 0, .str (sgn k), rfl, rfl, hS, atI_nat (j := 0) rfl, rfl, _, rfl, ?_⟩
    rw [sgn_over]
    by_cases e : 3 ≤ k
    · rw [decide_eq_true e]
      refine iteT ?_
      have z := q _ (fun _ _ e => e)
      rw [ovr, decide_eq_true e] at z
      exact z
    rw [decide_eq_false e]
    refine iteF ?_
    refine ⟨_, rfl, a, _, 1, v1, rfl, rfl, hS, atI_nat (j := 1) rfl, v1, l, rfl, h2, by omega, by have := dep_pos l; omega, fun H1 s1 => ?_⟩
    refine ⟨_, rfl, ?_⟩
    cases ol : ovr l with
    | true =>
      refine iteT ?_
      have z := q _ s1
      rw [ovr, ol, Bool.or_true, Bool.true_or] at z
      exact z
    | false =>
      refine iteF ?_
      refine ⟨_, rfl, a, _, 2, v2, rfl, rfl, same_tup s1 hS, atI_nat (j := 2) rfl, v2, r, rfl, Dp.same s1 _ h3, by omega, by have := dep_pos r; omega, fun H2 s2 => ?_⟩
      have z := q _ (s1.trans s2)
      rw [ovr, decide_eq_false e, ol, Bool.false_or, Bool.false_or] at z
      exact z
theorem ok_may (F : Fun K "may_fault" "may_fault" sMay f fd) (C : Sg K mg pS) (b : Binds K fd ["part"] []) (gF : mg "may_fault" = some (.ref f)) : ∀ n : Nat, FnOk P w K mg base CX0 (n + 1) f fd ["part"] (spMay K n)
  | 0 => may_none
  | n + 1 => may_step F C (ok_may F C b gF n) b gF
end
/-! sieves -/
inductive Sv where
  | one (p : Pa)
  | two (w : Str) (p q : Pa)
def sd : Sv → PyData
  | .one p => .tuple [.str "lacking", pd p]
  | .two w p q => .tuple [.str w, pd p, pd q]
def sov : Sv → Bool
  | .one p => ovr p
  | .two _ p q => ovr p || ovr q
def sdep : Sv → Nat
  | .one p => dep p
  | .two _ p q => max (dep p) (dep q)
abbrev sSM : Stmt := topS 4
abbrev nSM : List Str := ["sieve", "part"]
theorem scSM : FnScope nSM ["sieve"] (defScope sSM) := ⟨rfl, rfl, rfl, by decide +kernel, rfl, by decide +kernel, by decide +kernel⟩
def spSM (K : PySem.W.Frag) : Sp := fun vs H Q _ => ∃ (v : V) (p : Sv), vs = [v] ∧ Dp K H v (sd p) ∧ sdep p ≤ 5 ∧ ∀ H', Same H H' → Q (.bl (sov p)) H'
section
variable {P : Program} {w : World} {K : PySem.W.Frag} {mg : Str → Option Value} {base : Heap} {f fM : Addr} {fd dM : FuncData} {pS : Addr}
theorem ok_sm (F : Fun K "sieve_may_fault" "sieve_may_fault" sSM f fd) (my : mg "any" = none) (FM : Fun K "may_fault" "may_fault" sMay fM dM) (GM : FnOk P w K mg base CX0 6 fM dM ["part"] (spMay K 5)) (bM : Binds K dM ["part"] []) (gM : mg "may_fault" = some (.ref fM)) :
    FnOk P w K mg base CX0 7 f fd ["sieve"] (spSM K) := by
  refine F.ok scSM (fun vs H Q E h => ?_) (fun cdv A outer s H vs Q E hr h => ?_)
  · obtain ⟨v, p, rfl, _⟩ := h
    rfl
  obtain ⟨v, p, rfl, hd, hn, q⟩ := h
  have nd := scSM.nd
  have zl : sizeLine = 16777216 := rfl
  refine ⟨_, pss_one (ps_ret (pe_callB (cr_any rfl) (by rfl) my (by decide +kernel) (pa_cons (pe_lc (own := [("part", 1)]) (g := gName 1) (tt := tYes) rfl nd (pi_tup (pe_slice sl_tup (pv 0) (po_some pe_int) po_none)) (blkOk_by (N := nSM) (sc := defScope sSM) (by decide +kernel))
      (fun _ _ _ _ _ => pg_name (i := 1) nd rfl (Or.inl rfl)) (fun _ _ _ _ _ => pts_nil) (fun _ _ _ _ _ => pe_call GM hr (by rfl) gM FM.kp bM .nil pass0 (pa_cons (pv 1) pa_nil))) pa_nil))), ?_⟩
  obtain ⟨a, w', vs, ps, rfl, hS, hA, hp5, ho, l1⟩ : ∃ (a : Addr) (w' : V) (vs : List V) (ps : List Pa), v = .ref a ∧ SqT K H a (w' :: vs) ∧ DpAll K H vs (ps.map pd) ∧ (∀ p ∈ ps, dep p ≤ 5) ∧ sov p = ps.any ovr ∧ vs.length ≤ 2 := by
    cases p with
    | one p =>
      simp only [sd] at hd
      simp only [sdep] at hn
      cases hd with
      | @tup a xs _ hS hA =>
      cases hA with
      | @cons v0 _ _ _ h1 hA =>
      cases hA with
      | @cons v1 _ _ _ h2 hA =>
      cases hA
      refine ⟨a, v0, [v1], [p], rfl, hS, .cons h2 .nil, fun q hq => ?_, by simp [sov], by simp⟩
      rw [List.mem_singleton.mp hq]
      exact hn
    | two x p r =>
      simp only [sd] at hd
      simp only [sdep] at hn
      cases hd with
      | @tup a xs _ hS hA =>
      cases hA with
      | @cons v0 _ _ _ h1 hA =>
      cases hA with
      | @cons v1 _ _ _ h2 hA =>
      cases hA with
      | @cons v2 _ _ _ h3 hA =>
      cases hA
      refine ⟨a, v0, [v1, v2], [p, r], rfl, hS, .cons h2 (.cons h3 .nil), fun q hq => ?_, by simp [sov], by simp⟩
      simp only [List.mem_cons, List.not_mem_nil, or_false] at hq
      rcases hq with rfl | rfl <;> omega
  rw [ho] at q
  have lp : vs.length = ps.length := by
    have := Gd.DpAll.len hA
    rwa [List.length_map] at this
  refine ⟨_, rfl, _, rfl, a, _, rfl, hS, by rintro ⟨h1, _⟩; exact absurd h1 (by show ¬ HT.sIx (w' :: vs).length 0 (some ((1 : Nat) : Int)) = 0; rw [HT.sIx_nat, List.length_cons]; omega), fun b nb => ?_⟩
  have ec : cutV (w' :: vs) (some 1) none = vs := cut_drop (w' :: vs) 1
  rw [ec]
  have j1 := new_same (o := .tup vs) nb
  refine ⟨b, rfl, ⟨_, SqT.of upd_same⟩, fun D nD => ?_⟩
  have j2 := j1.trans (new_same (o := .lst []) nD)
  have nD0 : H D = none := j1.free nD
  have tb := fun {H' : Hp} (s : Same (upd H b (.tup vs)) H') => same_tup s (SqT.of (K := K) (upd_same (H := H) (a := b) (o := .tup vs)))
  refine lc_it walk_tup (fun i H1 => Same (upd H b (.tup vs)) H1 ∧ H1 D = some (.lst (((ps.map ovr).take i).map V.bl))) ⟨new_same nD, by rw [List.take_zero]; exact upd_same⟩ (fun i H1 _ h => tb h.1) ?_ ?_
  · rintro i x H1 H2 hi ⟨s1, eD⟩ ⟨rfl, ex⟩
    obtain ⟨d, ed, hdp⟩ := Gd.DpAll.at_ hA ex
    obtain ⟨pp, epp, rfl⟩ : ∃ pp, ps[i]? = some pp ∧ d = pd pp := by
      rw [List.getElem?_map] at ed
      cases e : ps[i]? with
      | none => rw [e] at ed; cases ed
      | some y => rw [e] at ed; exact ⟨y, rfl, (Option.some.inj ed).symm⟩
    refine ⟨rfl, ?_⟩
    refine ⟨_, rfl, x, pp, rfl, Dp.same (j1.trans s1) _ hdp, hp5 pp (List.mem_of_getElem? epp), by omega, fun H3 s3 => ?_⟩
    refine ⟨_, s3 _ _ eD, by rw [List.length_map, List.length_take, List.length_map]; have := at_lt epp; omega, own_same nD (s1.trans s3), ?_⟩
    rw [upd_same, take_at (x := ovr pp) (by rw [List.getElem?_map, epp] <;> rfl), List.map_append]
    rfl
  rintro H1 ⟨s1, eD⟩
  rw [lp, List.take_of_length_le (by rw [List.length_map]; exact Nat.le_refl _)] at eD
  refine ⟨D, _, rfl, SqL.of eD, ?_⟩
  rw [List.any_map]
  exact q _ (j1.trans s1)
end
end K28
end

section
set_option Elab.async false
set_option linter.all false
set_option maxRecDepth 100000
set_option maxHeartbeats 4000000
namespace K28
open PySem PySem.Spec PyProof.Rows L2 Gd
def fl : Option Bool → V
  | none => .non
  | some b => .bl b
/-- what is dropped, sieve by sieve -/
def drops : List Sv → (Nat → Option (Option Bool)) → Nat → Bool
  | [], _, _ => false
  | s :: ss, g, n => match g n with
    | some (some true) => drops ss g (n + 1)
    | some (some false) => true
    | some none => false
    | none => if sov s then false else drops ss g (n + 1)
/-- sieves in a tuple -/
def Svs (K : PySem.W.Frag) (H : Hp) (vs : List V) (ss : List Sv) : Prop := DpAll K H vs (ss.map sd) ∧ ∀ s ∈ ss, sdep s ≤ 5
abbrev sDrop : Stmt := topS 6
abbrev nDrop : List Str := ["sieves", "seen", "number", "sieve"]
theorem scDrop : FnScope nDrop ["sieves", "seen"] (defScope sDrop) := ⟨rfl, rfl, rfl, by decide +kernel, rfl, by decide +kernel, by decide +kernel⟩
def spDrop (K : PySem.W.Frag) : Sp := fun vs H Q _ => ∃ (a t : Addr) (us : List V) (ss : List Sv) (kvs : List (Key × V)) (g : Nat → Option (Option Bool)), vs = [.ref a, .ref t] ∧ SqT K H a us ∧ Svs K H us ss ∧ H t = some (.dK kvs) ∧
  (∀ n, n < ss.length → valV kvs (Sum.inl ((n : Nat) : Int)) = (g n).map fl) ∧ ∀ H', Same H H' → Q (.bl (drops ss g 0)) H'
theorem sv_at {K : PySem.W.Frag} {H : Hp} {us : List V} {ss : List Sv} {i : Nat} {v : V} (h : Svs K H us ss) (e : us[i]? = some v) : ∃ s, ss[i]? = some s ∧ Dp K H v (sd s) ∧ sdep s ≤ 5 := by
  obtain ⟨d, ed, hd⟩ := Gd.DpAll.at_ h.1 e
  rw [List.getElem?_map] at ed
  cases es : ss[i]? with
  | none => rw [es] at ed; cases ed
  | some s =>
    rw [es] at ed
    cases ed
    exact ⟨s, rfl, hd, h.2 s (List.mem_of_getElem? es)⟩
theorem drops_at {ss : List Sv} {i : Nat} {s : Sv} {g : Nat → Option (Option Bool)} (h : ss[i]? = some s) : drops (ss.drop i) g i = (match g i with
    | some (some true) => drops (ss.drop (i + 1)) g (i + 1)
    | some (some false) => true
    | some none => false
    | none => if sov s then false else drops (ss.drop (i + 1)) g (i + 1)) := by
  obtain ⟨l, e⟩ := List.getElem?_eq_some_iff.mp h
  rw [List.drop_eq_getElem_cons l, e, drops]
section
variable {P : Program} {w : World} {K : PySem.W.Frag} {mg : Str → Option Value} {base : Heap} {f fM : Addr} {fd dM : FuncData}
theorem ok_drop (F : Fun K "dropped" "dropped" sDrop f fd) (me : mg "enumerate" = none) (FM : Fun K "sieve_may_fault" "sieve_may_fault" sSM fM dM) (GM : FnOk P w K mg base CX0 7 fM dM ["sieve"] (spSM K)) (bM : Binds K dM ["sieve"] []) (gM : mg "sieve_may_fault" = some (.ref fM)) :
    FnOk P w K mg base CX0 8 f fd ["sieves", "seen"] (spDrop K) := by
  refine F.ok scDrop (fun vs H Q E h => ?_) (fun cdv A outer s H vs Q E hr h => ?_)
  · obtain ⟨a, t, us, ss, kvs, g, rfl, _⟩ := h
    rfl
  obtain ⟨a, t, us, ss, kvs, g, rfl, ha, hs, ht, hg, q⟩ := h
  have nd := scDrop.nd
  have hu := hu_of hr
  have ls : us.length = ss.length := by
    have := Gd.DpAll.len hs.1
    rwa [List.length_map] at this
  refine ⟨_, pss_cons (ps_for PassesOwn.never rfl (pi_ET (by rfl) me (pa_cons (pv 0) pa_nil)) (pg_tup rfl (pgs_cons (pg_name (i := 2) nd rfl (.inl rfl)) (pgs_cons (pg_name (i := 3) nd rfl (.inl rfl)) pgs_nil)))
      (pss_one (ps_if (pt_cmp (pc_din hu (pv 2) (pv 1)))
        (pss_one (ps_if (pt_cmpR op_isnot_fl (pe_dget hu (pv 1) (pv 2) (fun _ _ => rfl)) pe_bl (nomark _)) (pss_one (ps_ret (pe_cmpR op_is_fl (pe_dget hu (pv 1) (pv 2) (fun _ _ => rfl)) pe_bl (nomark _)))) pss_nil))
        (pss_one (ps_if (pt_val (pe_call GM hr (by rfl) gM FM.kp bM .nil pass0 (pa_cons (pv 3) pa_nil))) (pss_one (ps_ret pe_bl)) pss_nil)))))
    (pss_one (ps_ret pe_bl)), ?_⟩
  refine ⟨_, rfl, a, us, rfl, ha, ?_⟩
  refine for_it walk_ET (fun i σ H1 => Same H H1 ∧ drops ss g 0 = drops (ss.drop i) g i ∧ ∃ y2 y3, σ = [some (.ref a), some (.ref t), y2, y3]) ⟨fun _ _ e => e, rfl, none, none, rfl⟩ (fun i σ H1 _ h => same_tup h.1 ha) ?_ ?_
  · rintro i x σ H1 H2 hi ⟨s1, hd, y2, y3, rfl⟩ ⟨T, x1, x2, rfl, nT, rfl, ei, ex⟩
    cases ei
    obtain ⟨sv, esv, dsv, sv5⟩ := sv_at hs ex
    have jT := new_same (o := .tup [.int ((i : Nat) : Int), x2]) nT
    have s2 := s1.trans jT
    have ht2 := s2 _ _ ht
    have il := at_lt esv
    refine ⟨T, _, rfl, SqT.of upd_same, rfl, _, _, rfl, _, _, rfl, rfl, ?_⟩
    rw [drops_at esv] at hd
    have hgi := hg i il
    have key : DGet (upd H1 T (.tup [.int ((i : Nat) : Int), x2])) t (.int ((i : Nat) : Int)) ((g i).map fl) := by
      rw [← hgi]
      exact DGet.k (k := Sum.inl ((i : Nat) : Int)) ht2
    refine ⟨_, rfl, _, rfl, t, _, rfl, key, _, rfl, ?_⟩
    cases eg : g i with
    | none =>
      rw [eg] at hd
      refine iteF ?_
      refine ⟨_, rfl, x2, sv, rfl, Dp.same s2 _ dsv, sv5, fun H3 s3 => ?_⟩
      refine ⟨_, rfl, ?_⟩
      have s23 := s2.trans s3
      cases eo : sov sv with
      | true =>
        rw [eo] at hd
        refine iteT ?_
        have z := q _ s23
        rw [hd] at z
        exact z
      | false =>
        rw [eo] at hd
        refine iteF ?_
        exact ⟨s23, hd, _, _, rfl⟩
    | some b =>
      rw [eg] at hd key
      refine iteT ?_
      refine ⟨_, rfl, _, rfl, t, fl b, rfl, key, true, rfl, ?_⟩
      cases b with
      | none =>
        refine .inr ⟨rfl, _, rfl, iteT ?_⟩
        refine ⟨_, rfl, _, rfl, t, .non, rfl, key, false, rfl, .inr ⟨rfl, ?_⟩⟩
        have z := q _ s2
        rw [hd] at z
        exact z
      | some c =>
        cases c with
        | true =>
          refine .inl ⟨true, rfl, _, rfl, iteF ?_⟩
          exact ⟨s2, hd, _, _, rfl⟩
        | false =>
          refine .inl ⟨false, rfl, _, rfl, iteT ?_⟩
          refine ⟨_, rfl, _, rfl, t, .bl false, rfl, key, false, rfl, .inl ⟨false, rfl, ?_⟩⟩
          have z := q _ s2
          rw [hd] at z
          exact z
  · rintro σ H1 ⟨s1, hd, y2, y3, rfl⟩
    rw [ls, List.drop_length] at hd
    have z := q _ s1
    rw [hd] at z
    exact z
end
end K28
end

section
set_option Elab.async false
set_option linter.all false
set_option maxRecDepth 100000
set_option maxHeartbeats 8000000
namespace K28
open PySem PySem.Spec PyProof.Rows L2 Gd
/-! the pen: a dict of three words -/
def kvP (c : Addr) (t ov : Int) : List (Key × V) := [(Sum.inr "cells", .ref c), (Sum.inr "at", .int t), (Sum.inr "over", .int ov)]
theorem val_cells (c : Addr) (t ov : Int) : valV (kvP c t ov) (Sum.inr "cells") = some (.ref c) := rfl
theorem val_at (c : Addr) (t ov : Int) : valV (kvP c t ov) (Sum.inr "at") = some (.int t) := rfl
theorem val_over (c : Addr) (t ov : Int) : valV (kvP c t ov) (Sum.inr "over") = some (.int ov) := rfl
theorem put_at (c : Addr) (t ov t' : Int) : putK (kvP c t ov) (Sum.inr "at") (.int t') = kvP c t' ov := rfl
theorem put_over (c : Addr) (t ov o' : Int) : putK (kvP c t ov) (Sum.inr "over") (.int o') = kvP c t o' := rfl
def PenD (H : Hp) (l c : Addr) (S : Int) : Prop := ∃ (ns : List Int) (t ov : Int), H l = some (.dK (kvP c t ov)) ∧ H c = some (.lst (ns.map V.int)) ∧ ns.length ≤ 63 ∧ 0 ≤ t ∧ t ≤ S
section
variable {H H' : Hp} {l c q : Addr} {S T : Int} {o : HO}
theorem PenD.le (h : PenD H l c S) (le : S ≤ T) : PenD H l c T := by
  obtain ⟨ns, t, ov, a, b, d, e, f⟩ := h
  exact ⟨ns, t, ov, a, b, d, e, by omega⟩
theorem PenD.apart (h : PenD H l c S) : l ≠ c := by
  obtain ⟨ns, t, ov, a, b, _⟩ := h
  intro e
  rw [e, b] at a
  cases a
theorem PenD.not (h : PenD H l c S) (n : H q = none) : q ≠ l ∧ q ≠ c := by
  obtain ⟨ns, t, ov, a, b, _⟩ := h
  exact ⟨fun e => (by rw [e, a] at n; cases n), fun e => (by rw [e, b] at n; cases n)⟩
theorem PenD.same (h : PenD H l c S) (s : Same H H') : PenD H' l c S := by
  obtain ⟨ns, t, ov, a, b, d, e, f⟩ := h
  exact ⟨ns, t, ov, s _ _ a, s _ _ b, d, e, f⟩
theorem PenD.off (h : PenD H l c S) (n1 : q ≠ l) (n2 : q ≠ c) : PenD (upd H q o) l c S := by
  obtain ⟨ns, t, ov, a, b, d, e, f⟩ := h
  exact ⟨ns, t, ov, by rw [upd_ne n1.symm]; exact a, by rw [upd_ne n2.symm]; exact b, d, e, f⟩
theorem get_cells {t ov : Int} (e : H l = some (.dK (kvP c t ov))) : DGet H l (.str "cells") (some (.ref c)) := DGet.k (k := Sum.inr "cells") e
theorem get_at {t ov : Int} (e : H l = some (.dK (kvP c t ov))) : DGet H l (.str "at") (some (.int t)) := DGet.k (k := Sum.inr "at") e
theorem get_over {t ov : Int} (e : H l = some (.dK (kvP c t ov))) : DGet H l (.str "over") (some (.int ov)) := DGet.k (k := Sum.inr "over") e
theorem set_at {t ov t' : Int} (e : H l = some (.dK (kvP c t ov))) : DPut H l (.str "at") (.int t') (upd H l (.dK (kvP c t' ov))) := DPut.k (k := Sum.inr "at") (v := .int t') e (by show 3 < sizeLine; decide)
theorem set_over {t ov o' : Int} (e : H l = some (.dK (kvP c t ov))) : DPut H l (.str "over") (.int o') (upd H l (.dK (kvP c t o'))) := DPut.k (k := Sum.inr "over") (v := .int o') e (by show 3 < sizeLine; decide)
end
abbrev sTake : Stmt := topS 9
abbrev nTake : List Str := ["_law_pen_here", "_law_many", "_law_digit", "_law_at", "_law_cell", "_law_mixed"]
theorem scTake : FnScope nTake ["_law_pen_here", "_law_many"] (defScope sTake) := ⟨rfl, rfl, rfl, by decide +kernel, rfl, by decide +kernel, by decide +kernel⟩
def spTake : Sp := fun vs H Q _ => ∃ (l c : Addr) (m S : Int), vs = [.ref l, .int m] ∧ PenD H l c S ∧ 0 < m ∧ m < 1073741824 ∧ S ≤ 100000 ∧
  ∀ (r : Int) (H' : Hp), 0 ≤ r → r < m → PenD H' l c (S + 1) → Ex1 l H H' → Q (.int r) H'
section
variable {P : Program} {w : World} {K : PySem.W.Frag} {mg : Str → Option Value} {base : Heap} {f : Addr} {fd : FuncData}
theorem ok_take (F : Fun K "_law_take" "_law_take" sTake f fd) (mn : mg "len" = none) (ma : mg "abs" = none) : FnOk P w K mg base CX0 1 f fd ["_law_pen_here", "_law_many"] spTake := by
  refine F.ok scTake (fun vs H Q E h => ?_) (fun cdv A outer s H vs Q E hr h => ?_)
  · obtain ⟨l, c, m, S, rfl, _⟩ := h
    rfl
  obtain ⟨l, c, m, S, rfl, hP, m0, m1, hS, q⟩ := h
  have nlc := hP.apart
  obtain ⟨ns, t, ov, el, ec, hn, t0, t1⟩ := hP
  have nd := scTake.nd
  have hu := hu_of hr
  have zl : sizeLine = 16777216 := rfl
  refine ⟨_, pss_cons (ps_if (pt_cmpR op_gt (pe_dget hu (pv 0) pe_str (fun _ _ => rfl)) pe_int (nomark _))
      (pss_cons (ps_set (i := 2) nd rfl (.inl rfl) (pe_op op_modN (pe_dget hu (pv 0) pe_str (fun _ _ => rfl)) (pv 1)))
      (pss_cons (ps_dput hu (pv 0) pe_str (pe_op op_fdivN (pe_dget hu (pv 0) pe_str (fun _ _ => rfl)) (pv 1)) rfl)
      (pss_one (ps_ret (pv 2))))) pss_nil)
    (pss_cons (ps_set (i := 3) nd rfl (.inl rfl) (pe_dget hu (pv 0) pe_str (fun _ _ => rfl)))
    (C8.pss_cut (ps_dput hu (pv 0) pe_str (pe_op op_add (pv 3) pe_int) rfl)
    (pss_cons (ps_set (i := 4) nd rfl (.inl rfl) (pe_op op_add (pe_op op_mul pe_int (pv 3)) pe_int))
    (C8.pss_cut (ps_if (pt_cmpR (op_neL0 hr.units0) (pe_dget hu (pv 0) pe_str (fun _ _ => rfl)) (pe_lst pa_nil) (nomark _))
      (pss_one (ps_set (i := 4) nd rfl (.inl rfl) (pe_ix ix_list (pe_dget hu (pv 0) pe_str (fun _ _ => rfl)) (pe_op op_modN (pv 3) (pe_callB call_len_seq (by rfl) mn PySem.boot_len (pa_cons (pe_dget hu (pv 0) pe_str (fun _ _ => rfl)) pa_nil))) (fun _ _ => rfl)))) pss_nil)
    (C8.pss_cut (ps_if (PW.pt (pw_and (pt_cmpR op_lt (pv 3) (pe_callB call_len_seq (by rfl) mn PySem.boot_len (pa_cons (pe_dget hu (pv 0) pe_str (fun _ _ => rfl)) pa_nil)) (nomark _))
        (pw_and1 (pt_cmpR op_ge (pe_callB call_abs (by rfl) ma (by decide +kernel) (pa_cons (pv 4) pa_nil)) (pe_op op_pow pe_int pe_int) (nomark _)))))
      (pss_cons (ps_dput hu (pv 0) pe_str (pe_op op_fdivN (pe_callB call_abs (by rfl) ma (by decide +kernel) (pa_cons (pv 4) pa_nil)) (pv 1)) rfl)
      (pss_one (ps_ret (pe_op op_modN (pe_callB call_abs (by rfl) ma (by decide +kernel) (pa_cons (pv 4) pa_nil)) (pv 1))))) pss_nil)
    (C8.pss_cut (ps_set (i := 5) nd rfl (.inl rfl) (pe_op op_modN (pe_op op_pow (pe_op op_add (pe_op op_add (pe_op op_add (pe_op op_modN (pv 4) pe_int) (pe_op op_mul (pe_op op_mul pe_int (pv 3)) (pv 3))) (pe_op op_mul pe_int (pv 3))) pe_int) pe_int) pe_int))
    (C8.pss_cut (ps_set (i := 5) nd rfl (.inl rfl) (pe_op op_modN (pe_op op_pow (pe_op op_add (pe_op op_mul (pv 5) (pe_op op_add (pe_op op_add (pe_op op_modN (pv 5) pe_int) (pe_op op_mul pe_int (pv 3))) pe_int)) (pe_op op_mul pe_int (pv 3))) pe_int) pe_int))
    (pss_one (ps_ret (pe_op op_modN (pe_op op_fdivN (pv 5) pe_int) (pv 1))))))))))), ?_⟩
  refine ⟨_, rfl, l, _, rfl, get_over el, _, _, rfl, rfl, _, rfl, ite2 (fun e => ?_) (fun e => ?_)⟩
  · refine ⟨_, rfl, l, _, rfl, get_over el, _, rfl, _, _, rfl, rfl, by omega, ?_⟩
    refine ⟨_, rfl, l, _, rfl, get_over el, _, rfl, _, _, rfl, rfl, ⟨by omega, by omega⟩, ?_⟩
    refine ⟨_, rfl, l, _, rfl, set_over el, ?_⟩
    refine ⟨_, rfl, ?_⟩
    obtain ⟨r0, r1⟩ := fmod_in ov m0
    exact q _ _ r0 r1 ⟨ns, t, _, upd_same, by rw [upd_ne nlc.symm]; exact ec, hn, t0, by omega⟩ .at
  refine ⟨_, rfl, l, _, rfl, get_at el, ?_⟩
  refine ⟨fun σ' H' => H' l = some (.dK (kvP c (t + 1) ov)) ∧ H' c = some (.lst (ns.map V.int)) ∧ Ex1 l H H' ∧ σ' = [some (.ref l), some (.int m), none, some (.int t), none, none], ?_, ?_⟩
  · refine ⟨_, rfl, _, _, rfl, rfl, _, rfl, l, _, rfl, set_at el, ?_⟩
    exact ⟨upd_same, by rw [upd_ne nlc.symm]; exact ec, .at, rfl⟩
  rintro σ2 H2 ⟨el2, ec2, x2, rfl⟩
  refine ⟨_, rfl, _, _, rfl, rfl, .inl ⟨by decide, by decide⟩, _, _, rfl, rfl, ?_⟩
  refine ⟨fun σ' H' => Same H2 H' ∧ ∃ v : Int, σ' = [some (.ref l), some (.int m), none, some (.int t), some (.int v), none], ?_, ?_⟩
  · refine ⟨_, rfl, l, _, rfl, get_cells el2, (by show 0 ≤ sizeLine; decide), fun b nb => ?_⟩
    have s3 := new_same (o := .lst []) nb
    refine ⟨c, b, _, rfl, rfl, SqL.of (s3 _ _ ec2), SqL.of upd_same, _, rfl, ite2 (fun e => ?_) (fun e => ?_)⟩
    · have e : (!(ns.map V.int).isEmpty) = true := e
      have pos : 0 < ns.length := by
        cases ns with
        | nil => cases e
        | cons x r => simp
      obtain ⟨i0, i1⟩ := fmod_in t (b := ((ns.length : Nat) : Int)) (by omega)
      obtain ⟨v, hv, ev⟩ := at_list (f := V.int) (xs := ns) i0 i1
      refine ⟨_, rfl, l, _, rfl, get_cells (s3 _ _ el2), _, rfl, _, rfl, l, _, rfl, get_cells (s3 _ _ el2), c, _, rfl, .inl (SqL.of (s3 _ _ ec2)), _, _, rfl, rfl, by rw [List.length_map]; omega, ?_⟩
      refine ⟨c, _, _, .int v, rfl, rfl, SqL.of (s3 _ _ ec2), by rw [List.length_map]; exact ev, ?_⟩
      exact ⟨s3, v, rfl⟩
    · exact ⟨s3, _, rfl⟩
  rintro σ3 H3 ⟨s3, v, rfl⟩
  have el3 := s3 _ _ el2
  have ec3 := s3 _ _ ec2
  have x3 : Ex1 l H H3 := x2.trans (ex1_of_same s3)
  refine ⟨fun σ' H' => H' = H3 ∧ σ' = [some (.ref l), some (.int m), none, some (.int t), some (.int v), none], ?_, ?_⟩
  · refine ⟨_, rfl, _, rfl, l, _, rfl, get_cells el3, c, _, rfl, .inl (SqL.of ec3), _, _, rfl, rfl, _, rfl, ite2 (fun e => ?_) (fun e => ?_)⟩
    · refine ⟨_, rfl, _, rfl, 10, 18, rfl, rfl, ⟨by decide, by decide, by decide⟩, _, _, rfl, rfl, _, rfl, ite2 (fun e => ?_) (fun e => ?_)⟩
      · refine ⟨_, rfl, _, rfl, _, rfl, _, _, rfl, rfl, ⟨by omega, by omega⟩, _, rfl, l, _, rfl, set_over el3, ?_⟩
        refine ⟨_, rfl, _, rfl, _, rfl, _, _, rfl, rfl, by omega, ?_⟩
        exact q _ _ (fmod_in _ m0).1 (fmod_in _ m0).2 ⟨ns, t + 1, _, upd_same, by rw [upd_ne nlc.symm]; exact ec3, hn, by omega, by omega⟩ (x3.trans .at)
      · exact ⟨rfl, rfl⟩
    · exact ⟨rfl, rfl⟩
  rintro σ4 H4 ⟨rfl, rfl⟩
  obtain ⟨a0, a1⟩ := fmod_in v (b := 2147483579) (by omega)
  obtain ⟨q0, q1⟩ := sq_le t0 (show t ≤ 100000 by omega)
  have e40 : 30707 * t * t = 30707 * (t * t) := Int.mul_assoc ..
  generalize hx0 : v.fmod 2147483579 = x0 at a0 a1
  refine ⟨fun σ' H' => H' = H4 ∧ ∃ x : Int, 0 ≤ x ∧ x < 2147483629 ∧ σ' = [some (.ref l), some (.int m), none, some (.int t), some (.int v), some (.int x)], ?_, ?_⟩
  · refine ⟨_, rfl, _, _, rfl, rfl, by omega, _, rfl, _, _, rfl, rfl, .inl ⟨by decide, by decide⟩, _, rfl, _, _, rfl, rfl, .inr ⟨by omega, by omega⟩, _, _, rfl, rfl, _, rfl, _, _, rfl, rfl, .inl ⟨by decide, by decide⟩, _, _, rfl, rfl, _, _, rfl, rfl,
      _, _, rfl, rfl, ⟨by decide, by decide, by rw [hx0, e40]; omega⟩, _, _, rfl, rfl, by omega, ?_⟩
    exact ⟨rfl, _, (fmod_in _ (by omega)).1, (fmod_in _ (by omega)).2, rfl⟩
  rintro σ5 H5 ⟨rfl, x1, b0, b1, rfl⟩
  obtain ⟨f0, f1⟩ := fmod_in x1 (b := 60013) (by omega)
  generalize hx1 : x1.fmod 60013 = y1 at f0 f1
  obtain ⟨c0, c1⟩ := mul_le b0 (show x1 ≤ 2147483647 by omega) (show 0 ≤ y1 + 2 * t + 3 by omega) (show y1 + 2 * t + 3 ≤ 260016 by omega)
  refine ⟨fun σ' H' => H' = H5 ∧ ∃ x : Int, 0 ≤ x ∧ x < 2147483549 ∧ σ' = [some (.ref l), some (.int m), none, some (.int t), some (.int v), some (.int x)], ?_, ?_⟩
  · refine ⟨_, rfl, _, rfl, _, _, rfl, rfl, by omega, _, rfl, _, _, rfl, rfl, .inl ⟨by decide, by decide⟩, _, _, rfl, rfl, _, _, rfl, rfl, _, _, rfl, rfl, .inl ⟨by omega, by omega⟩, _, rfl, _, _, rfl, rfl, .inl ⟨by decide, by decide⟩, _, _, rfl, rfl,
      _, _, rfl, rfl, ⟨by decide, by decide, by rw [hx1]; omega⟩, _, _, rfl, rfl, by omega, ?_⟩
    exact ⟨rfl, _, (fmod_in _ (by omega)).1, (fmod_in _ (by omega)).2, rfl⟩
  rintro σ6 H6 ⟨rfl, x2', d0, d1, rfl⟩
  refine ⟨_, rfl, _, _, rfl, rfl, ⟨by omega, by omega⟩, _, rfl, _, _, rfl, rfl, by omega, ?_⟩
  exact q _ _ (fmod_in _ m0).1 (fmod_in _ m0).2 ⟨ns, t + 1, ov, el3, ec3, hn, by omega, by omega⟩ x3
end
end K28
end

section
set_option Elab.async false
set_option linter.all false
set_option maxRecDepth 100000
set_option maxHeartbeats 8000000
namespace K28
open PySem PySem.Spec PyProof.Rows L2 Gd
/-- the names that are drawn -/
def nm (x : Str) : Prop := x = "a" ∨ x = "b" ∨ x = "c" ∨ x = "d"
/-- numbers and names are small -/
def fit : Pa → Prop
  | .num i => i.natAbs ≤ 10 ^ 30
  | .cel a b => nm a ∧ nm b
  | .bin _ l r => fit l ∧ fit r
def cntP : Pa → Nat
  | .num _ => 1
  | .cel _ _ => 1
  | .bin _ l r => 1 + cntP l + cntP r
theorem only_pd : ∀ p : Pa, tupOnly (pd p) = true
  | .num i => rfl
  | .cel a b => rfl
  | .bin k l r => by
    simp only [pd, tupOnly, tupOnlyAll, only_pd l, only_pd r, Bool.and_true, Bool.and_eq_true, decide_eq_true_eq]
    show 3 ≤ 1000
    decide
theorem dict_tups {K : PySem.W.Frag} {H H' : Hp} {l : Addr} {kvs : List (Key × V)} (x : Ex1 l H H') (e : H l = some (.dK kvs)) : Tups K H H' := by
  intro a zs h
  rcases h with (h | ⟨o, h⟩) | h
  · exact .inl (.inl (x _ _ (fun z => by rw [z, e] at h; cases h) h))
  · exact .inl (.inr ⟨o, x _ _ (fun z => by rw [z, e] at h; cases h) h⟩)
  · exact .inr h
theorem PenD.tups {K : PySem.W.Frag} {H H' : Hp} {l c : Addr} {S : Int} (P : PenD H l c S) (x : Ex1 l H H') : Tups K H H' := by
  obtain ⟨ns, t, ov, e, _⟩ := P
  exact dict_tups x e
/-- cells in a list -/
def Cels (K : PySem.W.Frag) (H : Hp) (ca : Addr) (n : Nat) : Prop := ∃ bs : List Addr, H ca = some (.lst (bs.map V.ref)) ∧ bs.length = n ∧ n ≤ 3 ∧ ∀ b ∈ bs, ∃ x y : Str, SqT K H b [.str x, .str y] ∧ nm x ∧ nm y
theorem Cels.drawn {K : PySem.W.Frag} {H H' : Hp} {l c ca : Addr} {S : Int} {n : Nat} (h : Cels K H ca n) (P : PenD H l c S) (x : Ex1 l H H') (ne : ca ≠ l) : Cels K H' ca n := by
  obtain ⟨bs, h1, h2, h3, h4⟩ := h
  refine ⟨bs, x _ _ ne h1, h2, h3, fun b hb => ?_⟩
  obtain ⟨u, v, q, r⟩ := h4 b hb
  exact ⟨u, v, P.tups x _ _ q, r⟩
theorem Cels.same {K : PySem.W.Frag} {H H' : Hp} {ca : Addr} {n : Nat} (h : Cels K H ca n) (s : Same H H') : Cels K H' ca n := by
  obtain ⟨bs, h1, h2, h3, h4⟩ := h
  refine ⟨bs, s _ _ h1, h2, h3, fun b hb => ?_⟩
  obtain ⟨u, v, q, r⟩ := h4 b hb
  exact ⟨u, v, same_tup s q, r⟩
abbrev sPart : Stmt := topS 10
abbrev nPart : List Str := ["_law_pen_here", "_law_cells", "_law_deep", "_law_room", "_law_way", "_law_number", "_law_first", "_law_one", "_law_word"]
abbrev aPart : List Str := ["_law_pen_here", "_law_cells", "_law_deep", "_law_room"]
theorem scPart : FnScope nPart aPart (defScope sPart) := ⟨rfl, rfl, rfl, by decide +kernel, rfl, by decide +kernel, by decide +kernel⟩
def spPart (K : PySem.W.Frag) (n : Nat) : Sp := fun vs H Q _ => ∃ (l c ca : Addr) (S rm : Int) (m : Nat), vs = [.ref l, .ref ca, .int ((n : Nat) : Int), .int rm] ∧ PenD H l c S ∧ S + 5 * rm ≤ 50000 ∧ Cels K H ca m ∧ ca ≠ l ∧ 1 ≤ n ∧ n ≤ 5 ∧ 1 ≤ rm ∧ rm ≤ 15 ∧
  ∀ (v : V) (p : Pa) (H' : Hp), Ex1 l H H' → PenD H' l c (S + 5 * rm) → Dp K H' v (pd p) → dep p ≤ n → fit p → (cntP p : Int) ≤ rm → Q v H'
section
variable {P : Program} {w : World} {K : PySem.W.Frag} {mg : Str → Option Value} {base : Heap} {f fT : Addr} {fd dT : FuncData}
theorem part_none : FnOk P w K mg base CX0 1 f fd aPart (spPart K 0) := by
  have bad : ∀ vs H Q E, ¬ spPart K 0 vs H Q E := by
    rintro vs H Q E ⟨l, c, ca, S, rm, m, _, _, _, _, _, h, _⟩
    omega
  exact ⟨fun vs H Q E h => absurd h (bad vs H Q E), fun A outer s H args us vs Q E _ _ _ _ h => absurd h (bad vs H Q E)⟩
theorem part_step (F : Fun K "_law_part" "_law_part" sPart f fd) (mn : mg "len" = none) {n : Nat} (GP : FnOk P w K mg base CX0 (n + 1) f fd aPart (spPart K n)) (bP : Binds K fd aPart []) (gP : mg "_law_part" = some (.ref f))
    (FT : Fun K "_law_take" "_law_take" sTake fT dT) (G : FnOk P w K mg base CX0 1 fT dT ["_law_pen_here", "_law_many"] spTake) (bT : Binds K dT ["_law_pen_here", "_law_many"] []) (gT : mg "_law_take" = some (.ref fT)) :
    FnOk P w K mg base CX0 (n + 2) f fd aPart (spPart K (n + 1)) := by
  refine F.ok scPart (fun vs H Q E h => ?_) (fun cdv A outer s H vs Q E hr h => ?_)
  · obtain ⟨l, c, ca, S, rm, m, rfl, _⟩ := h
    rfl
  obtain ⟨l, c, ca, S, rm, m, rfl, hP, hS, hC, nca, _, n5, r1, r15, q⟩ := h
  have nd := scPart.nd
  have zl : sizeLine = 16777216 := rfl
  have hr1 := hr.mono (show 1 ≤ n + 1 by omega)
  refine ⟨_, pss_cons (ps_set (i := 4) nd rfl (.inl rfl) (pe_call G hr1 (by rfl) gT FT.kp bT .nil pass0 (pa_cons (pv 0) (pa_cons pe_int pa_nil))))
    (pss_cons (ps_if (PW.pt (pw_or (pt_cmpR op_lt (pv 2) pe_int (nomark _)) (pw_or (pt_cmpR op_lt (pv 3) pe_int (nomark _)) (pw_or1 (pt_cmpR op_lt (pv 4) pe_int (nomark _))))))
      (pss_cons (ps_set (i := 5) nd rfl (.inl rfl) (pe_ix ix_list (pe_lst (pa_cons pe_int (pa_cons pe_int (pa_cons pe_int (pa_cons (pe_un un_neg pe_int) (pa_cons pe_int
            (pa_cons (pe_op op_sub (pe_call G hr1 (by rfl) gT FT.kp bT .nil pass0 (pa_cons (pv 0) (pa_cons pe_int pa_nil))) pe_int) (pa_cons (pe_op op_sub (pe_op op_pow pe_int pe_int) pe_int) pa_nil))))))))
          (pe_call G hr1 (by rfl) gT FT.kp bT .nil pass0 (pa_cons (pv 0) (pa_cons pe_int pa_nil))) (fun _ _ => rfl)))
      (pss_cons (ps_if (PW.pt (pw_or (pt_cmpR (op_eqL0 hr.units0) (pv 1) (pe_lst pa_nil) (nomark _)) (pw_or1 (pt_cmpR op_eq (pe_call G hr1 (by rfl) gT FT.kp bT .nil pass0 (pa_cons (pv 0) (pa_cons pe_int pa_nil))) pe_int (nomark _)))))
          (pss_one (ps_ret (pe_tup (pa_cons pe_str (pa_cons (pv 5) pa_nil))))) pss_nil)
      (pss_one (ps_ret (pe_op op_catA (pe_tup (pa_cons pe_str pa_nil)) (pe_ix ix_list (pv 1) (pe_call G hr1 (by rfl) gT FT.kp bT .nil pass0 (pa_cons (pv 0) (pa_cons (pe_callB call_len_seq (by rfl) mn PySem.boot_len (pa_cons (pv 1) pa_nil)) pa_nil))) (fun _ _ => rfl))))))) pss_nil)
    (pss_cons (ps_set (i := 6) nd rfl (.inl rfl) (pe_op op_add pe_int (pe_call G hr1 (by rfl) gT FT.kp bT .nil pass0 (pa_cons (pv 0) (pa_cons (pe_op op_sub (pv 3) pe_int) pa_nil)))))
    (pss_cons (ps_set (i := 7) nd rfl (.inl rfl) (pe_call GP hr (by rfl) gP F.kp bP .nil pass0 (pa_cons (pv 0) (pa_cons (pv 1) (pa_cons (pe_op op_sub (pv 2) pe_int) (pa_cons (pv 6) pa_nil))))))
    (pss_cons (ps_set (i := 8) nd rfl (.inl rfl) (pe_ix ix_list (pe_lst (pa_cons pe_str (pa_cons pe_str (pa_cons pe_str (pa_cons pe_str (pa_cons pe_str pa_nil)))))) (pe_op op_sub (pv 4) pe_int) (fun _ _ => rfl)))
    (pss_one (ps_ret (pe_tup (pa_cons (pv 8) (pa_cons (pv 7) (pa_cons (pe_call GP hr (by rfl) gP F.kp bP .nil pass0 (pa_cons (pv 0) (pa_cons (pv 1) (pa_cons (pe_op op_sub (pv 2) pe_int) (pa_cons (pe_op op_sub (pe_op op_sub (pv 3) pe_int) (pv 6)) pa_nil)))))
        pa_nil)))))))))), ?_⟩
  refine ⟨_, rfl, l, c, 7, S, rfl, hP, by decide, by decide, by omega, fun way H1 w0 w7 P1 x1 => ?_⟩
  have C1 := hC.drawn hP x1 nca
  refine ⟨_, rfl, _, _, rfl, rfl, _, rfl, ite2 (fun e1 => ?leaf1) (fun e1 => ⟨_, rfl, _, _, rfl, rfl, _, rfl, ite2 (fun e2 => ?leaf2) (fun e2 => ⟨_, rfl, _, _, rfl, rfl, _, rfl, ite2 (fun e3 => ?leaf3) (fun e3 => ?inner)⟩)⟩)⟩
  case inner =>
    have c1 : ¬ (((n + 1 : Nat) : Int) < 2) := fun z => e1 (decide_eq_true z)
    have c2 : ¬ (rm < 3) := fun z => e2 (decide_eq_true z)
    have c3 : ¬ (way < 2) := fun z => e3 (decide_eq_true z)
    refine ⟨_, rfl, _, rfl, _, _, rfl, rfl, l, c, _, _, rfl, P1, by omega, by omega, by omega, fun r2 H2 r20 r21 P2 x2 => ?_⟩
    refine ⟨_, _, rfl, rfl, ?_⟩
    have C2 := C1.drawn P1 x2 nca
    have en : ((n + 1 : Nat) : Int) - 1 = ((n : Nat) : Int) := by omega
    refine ⟨_, rfl, _, rfl, _, rfl, _, _, rfl, rfl, _, rfl, l, c, ca, _, 1 + r2, m, by dsimp only; rw [en]; rfl, P2, by omega, C2, nca, by omega, by omega, by omega, by omega, fun v1 p1 H3 x3 P3 d1 dp1 f1 k1 => ?_⟩
    have C3 := C2.drawn P2 x3 nca
    refine ⟨(by show 5 ≤ sizeLine; decide), fun b nb => ?_⟩
    have j4 := new_same (o := .lst [.str "plus", .str "less", .str "times", .str "over", .str "over"]) nb
    obtain ⟨k, ek⟩ : ∃ k : Nat, atI [V.str "plus", V.str "less", V.str "times", V.str "over", V.str "over"] (way - 2) = some (.str (sgn k)) := by
      have : way - 2 = ((0 : Nat) : Int) ∨ way - 2 = ((1 : Nat) : Int) ∨ way - 2 = ((2 : Nat) : Int) ∨ way - 2 = ((3 : Nat) : Int) ∨ way - 2 = ((4 : Nat) : Int) := by omega
      rcases this with e | e | e | e | e
      · rw [e]; exact ⟨0, atI_nat rfl⟩
      · rw [e]; exact ⟨1, atI_nat rfl⟩
      · rw [e]; exact ⟨2, atI_nat rfl⟩
      · rw [e]; exact ⟨3, atI_nat rfl⟩
      · rw [e]; exact ⟨3, atI_nat rfl⟩
    refine ⟨_, rfl, _, _, rfl, rfl, b, _, _, .str (sgn k), rfl, rfl, SqL.of upd_same, ek, ?_⟩
    have P4 := P3.same j4
    refine ⟨_, rfl, _, rfl, _, rfl, _, rfl, _, rfl, _, _, rfl, rfl, _, rfl, _, _, rfl, rfl, _, rfl, _, _, rfl, rfl, l, c, ca, _, rm - 1 - (1 + r2), m, by dsimp only; rw [en]; rfl, P4, by omega, C3.same j4, nca, by omega, by omega, by omega, by omega, fun v2 p2 H5 x5 P5 d2 dp2 f2 k2 => ?_⟩
    refine ⟨(by show 3 ≤ sizeLine; decide), fun t nt => ?_⟩
    have jt := new_same (o := .tup [.str (sgn k), v1, v2]) nt
    have d1' : Dp K (upd H5 t (.tup [.str (sgn k), v1, v2])) v1 (pd p1) := Dp.same jt _ (Dp.tups (P4.tups x5) _ (only_pd p1) (Dp.same j4 _ d1))
    have x05 : Ex1 l H H5 := (((x1.trans x2).trans x3).trans (ex1_of_same j4)).trans x5
    refine q (.ref t) (.bin k p1 p2) _ (x05.trans (ex1_of_same jt)) ((P5.same jt).le (by omega)) (.tup (SqT.of upd_same) (.cons (.str _) (.cons d1' (.cons (Dp.same jt _ d2) .nil)))) ?_ ⟨f1, f2⟩ ?_
    · simp only [dep]
      omega
    · simp only [cntP]
      omega
  all_goals
    refine ⟨_, rfl, _, rfl, l, c, 200, _, rfl, P1, by decide, by decide, by omega, fun r2 H2 r20 r21 P2 x2 => ?_⟩
    refine ⟨_, _, rfl, rfl, 10, 30, rfl, rfl, ⟨by decide, by decide, by decide⟩, _, _, rfl, rfl, (by show 7 ≤ sizeLine; decide), fun b nb => ?_⟩
    have j2 := new_same (o := .lst [.int 0, .int 1, .int 2, .int (-1), .int 3, .int (r2 - 100), .int (10 ^ 30 - 1)]) nb
    have nbl := (P2.not nb).1
    refine ⟨_, rfl, l, c, 7, _, rfl, P2.same j2, by decide, by decide, by omega, fun r3 H3 r30 r31 P3 x3 => ?_⟩
    have eb := x3 _ _ nbl (upd_same (H := H2) (a := b) (o := .lst [.int 0, .int 1, .int 2, .int (-1), .int 3, .int (r2 - 100), .int (10 ^ 30 - 1)]))
    have big : (200 : Nat) ≤ 10 ^ 30 := by decide
    obtain ⟨i, ei, bi⟩ : ∃ i : Int, atI [V.int 0, V.int 1, V.int 2, V.int (-1), V.int 3, V.int (r2 - 100), V.int (10 ^ 30 - 1)] r3 = some (.int i) ∧ i.natAbs ≤ 10 ^ 30 := by
      have : r3 = ((0 : Nat) : Int) ∨ r3 = ((1 : Nat) : Int) ∨ r3 = ((2 : Nat) : Int) ∨ r3 = ((3 : Nat) : Int) ∨ r3 = ((4 : Nat) : Int) ∨ r3 = ((5 : Nat) : Int) ∨ r3 = ((6 : Nat) : Int) := by omega
      rcases this with e | e | e | e | e | e | e
      · rw [e]; exact ⟨0, atI_nat rfl, by decide⟩
      · rw [e]; exact ⟨1, atI_nat rfl, by decide⟩
      · rw [e]; exact ⟨2, atI_nat rfl, by decide⟩
      · rw [e]; exact ⟨-1, atI_nat rfl, by decide⟩
      · rw [e]; exact ⟨3, atI_nat rfl, by decide⟩
      · rw [e]; exact ⟨r2 - 100, atI_nat rfl, Nat.le_trans (show (r2 - 100).natAbs ≤ 200 by omega) big⟩
      · rw [e]; exact ⟨10 ^ 30 - 1, atI_nat rfl, by decide⟩
    refine ⟨b, _, _, .int i, rfl, rfl, SqL.of eb, ei, ?_⟩
    have x13 : Ex1 l H H3 := ((x1.trans x2).trans (ex1_of_same j2)).trans x3
    have C3 := ((C1.drawn P1 x2 nca).same j2).drawn (P2.same j2) x3 nca
    obtain ⟨bs, hbs, lbs, m3, obs⟩ := C3
    refine ⟨_, rfl, by decide, fun b2 nb2 => ?_⟩
    have j4 := new_same (o := .lst []) nb2
    have P4 := P3.same j4
    have x14 := x13.trans (ex1_of_same j4)
    have num : ∀ H5, Ex1 l H H5 → PenD H5 l c (S + 5 * rm) → ∀ t, H5 t = none → Q (.ref t) (upd H5 t (.tup [.str "number", .int i])) := fun H5 x5 P5 t nt => by
      have jt := new_same (o := .tup [.str "number", .int i]) nt
      exact q (.ref t) (.num i) _ (x5.trans (ex1_of_same jt)) (P5.same jt) (.tup (SqT.of upd_same) (.cons (.str _) (.cons (.int _) .nil))) (by simp only [dep]; omega) bi (by simp only [cntP]; omega)
    refine ⟨ca, b2, _, rfl, rfl, SqL.of (j4 _ _ hbs), SqL.of upd_same, _, rfl, ite2 (fun e => ?_) (fun e => ?_)⟩
    · exact ⟨_, rfl, (by show 2 ≤ sizeLine; decide), fun t nt => num _ x14 (P4.le (by omega)) t nt⟩
    refine ⟨_, rfl, l, c, 3, _, rfl, P4, by decide, by decide, by omega, fun r4 H4 r40 r41 P5 x5 => ?_⟩
    have x15 := x14.trans x5
    refine ⟨rfl, _, rfl, ite2 (fun e6 => ?_) (fun e6 => ?_)⟩
    · exact ⟨_, rfl, (by show 2 ≤ sizeLine; decide), fun t nt => num _ x15 (P5.le (by omega)) t nt⟩
    have pos : 0 < bs.length := by
      cases bs with
      | nil => exact absurd rfl e
      | cons _ _ => simp
    refine ⟨(by show 1 ≤ sizeLine; decide), fun t1 nt1 => ?_⟩
    have j6 := new_same (o := .tup [.str "cell"]) nt1
    have hbs4 := x5 _ _ nca (j4 _ _ hbs)
    have P6 := P5.same j6
    refine ⟨_, rfl, _, rfl, _, rfl, ca, _, rfl, .inl (SqL.of (j6 _ _ hbs4)), l, c, _, _, rfl, P6, by rw [List.length_map]; omega, by rw [List.length_map]; omega, by omega, fun r5 H6 r50 r51 P7 x7 => ?_⟩
    rw [List.length_map] at r51
    obtain ⟨cb, hcb, ecb⟩ := at_list (f := V.ref) (xs := bs) r50 r51
    obtain ⟨u, v, hT, fu, fv⟩ := obs cb hcb
    have T1 := P6.tups (K := K) x7
    have hT7 : SqT K H6 cb [.str u, .str v] := T1 _ _ (same_tup j6 (P4.tups x5 _ _ (same_tup j4 hT)))
    refine ⟨ca, _, _, .ref cb, rfl, rfl, SqL.of (x7 _ _ nca (j6 _ _ hbs4)), ecb, ?_⟩
    refine ⟨t1, cb, _, _, rfl, rfl, T1 _ _ (SqT.of upd_same), hT7, by show 1 + 2 ≤ sizeLine; decide, fun z => (nomatch z), fun _ z => (nomatch z), fun _ _ t nt => ?_⟩
    have jt := new_same (o := .tup ([V.str "cell"] ++ [V.str u, V.str v])) nt
    exact q (.ref t) (.cel u v) _ ((x15.trans (ex1_of_same j6)).trans (x7.trans (ex1_of_same jt))) ((P7.same jt).le (by omega)) (.tup (SqT.of upd_same) (.cons (.str _) (.cons (.str _) (.cons (.str _) .nil)))) (by simp only [dep]; omega) ⟨fu, fv⟩ (by simp only [cntP]; omega)
end
end K28
end

section
set_option Elab.async false
set_option linter.all false
set_option maxRecDepth 100000
set_option maxHeartbeats 8000000
namespace K28
open PySem PySem.Spec PyProof.Rows L2 Gd
section
variable {P : Program} {w : World} {K : PySem.W.Frag} {mg : Str → Option Value} {base : Heap} {f fT fP : Addr} {fd dT dP : FuncData}
theorem ok_part (F : Fun K "_law_part" "_law_part" sPart f fd) (mn : mg "len" = none) (bP : Binds K fd aPart []) (gP : mg "_law_part" = some (.ref f))
    (FT : Fun K "_law_take" "_law_take" sTake fT dT) (G : FnOk P w K mg base CX0 1 fT dT ["_law_pen_here", "_law_many"] spTake) (bT : Binds K dT ["_law_pen_here", "_law_many"] []) (gT : mg "_law_take" = some (.ref fT)) :
    ∀ n : Nat, FnOk P w K mg base CX0 (n + 1) f fd aPart (spPart K n)
  | 0 => part_none
  | n + 1 => part_step F mn (ok_part F mn bP gP FT G bT gT n) bP gP FT G bT gT
end
def fitS : Sv → Prop
  | .one p => fit p
  | .two w p q => w.length ≤ 8 ∧ fit p ∧ fit q
def cntS : Sv → Nat
  | .one p => cntP p
  | .two _ p q => cntP p + cntP q
/-- its word is none of a part's that ends -/
def wordS : Sv → Prop
  | .one _ => True
  | .two w _ _ => w = "unlike" ∨ w = "below" ∨ w = "alike"
abbrev sSieve : Stmt := topS 11
abbrev nSieve : List Str := ["_law_pen_here", "_law_cells", "_law_room", "_law_word", "_law_one"]
theorem scSieve : FnScope nSieve ["_law_pen_here", "_law_cells", "_law_room"] (defScope sSieve) := ⟨rfl, rfl, rfl, by decide +kernel, rfl, by decide +kernel, by decide +kernel⟩
def spSieve (K : PySem.W.Frag) : Sp := fun vs H Q _ => ∃ (l c ca : Addr) (S : Int) (m : Nat), vs = [.ref l, .ref ca, .int 15] ∧ PenD H l c S ∧ S + 151 ≤ 50000 ∧ Cels K H ca m ∧ ca ≠ l ∧
  ∀ (v : V) (s : Sv) (H' : Hp), Ex1 l H H' → PenD H' l c (S + 151) → Dp K H' v (sd s) → sdep s ≤ 5 → fitS s → cntS s ≤ 30 → wordS s → Q v H'
section
variable {P : Program} {w : World} {K : PySem.W.Frag} {mg : Str → Option Value} {base : Heap} {f fT fP : Addr} {fd dT dP : FuncData}
theorem ok_sieve (F : Fun K "_law_sieve" "_law_sieve" sSieve f fd)
    (FP : Fun K "_law_part" "_law_part" sPart fP dP) (GP : FnOk P w K mg base CX0 6 fP dP aPart (spPart K 5)) (bP : Binds K dP aPart []) (gP : mg "_law_part" = some (.ref fP))
    (FT : Fun K "_law_take" "_law_take" sTake fT dT) (G : FnOk P w K mg base CX0 1 fT dT ["_law_pen_here", "_law_many"] spTake) (bT : Binds K dT ["_law_pen_here", "_law_many"] []) (gT : mg "_law_take" = some (.ref fT)) :
    FnOk P w K mg base CX0 7 f fd ["_law_pen_here", "_law_cells", "_law_room"] (spSieve K) := by
  refine F.ok scSieve (fun vs H Q E h => ?_) (fun cdv A outer s H vs Q E hr h => ?_)
  · obtain ⟨l, c, ca, S, m, rfl, _⟩ := h
    rfl
  obtain ⟨l, c, ca, S, m, rfl, hP, hS, hC, nca, q⟩ := h
  have nd := scSieve.nd
  have zl : sizeLine = 16777216 := rfl
  have hr1 := hr.mono (show 1 ≤ 6 by decide)
  refine ⟨_, pss_cons (ps_set (i := 3) nd rfl (.inl rfl) (pe_ix ix_list (pe_lst (pa_cons pe_str (pa_cons pe_str (pa_cons pe_str (pa_cons pe_str (pa_cons pe_str (pa_cons pe_str (pa_cons pe_str (pa_cons pe_str pa_nil)))))))))
        (pe_call G hr1 (by rfl) gT FT.kp bT .nil pass0 (pa_cons (pv 0) (pa_cons pe_int pa_nil))) (fun _ _ => rfl)))
    (pss_cons (ps_set (i := 4) nd rfl (.inl rfl) (pe_call GP hr (by rfl) gP FP.kp bP .nil pass0 (pa_cons (pv 0) (pa_cons (pv 1) (pa_cons pe_int (pa_cons (pv 2) pa_nil))))))
    (pss_cons (ps_if (pt_cmpR op_eq (pv 3) pe_str (nomark _)) (pss_one (ps_ret (pe_tup (pa_cons (pv 3) (pa_cons (pv 4) pa_nil))))) pss_nil)
    (pss_one (ps_ret (pe_tup (pa_cons (pv 3) (pa_cons (pv 4) (pa_cons (pe_call GP hr (by rfl) gP FP.kp bP .nil pass0 (pa_cons (pv 0) (pa_cons (pv 1) (pa_cons pe_int (pa_cons (pv 2) pa_nil))))) pa_nil)))))))), ?_⟩
  refine ⟨(by show 8 ≤ sizeLine; decide), fun b nb => ?_⟩
  have j1 := new_same (o := .lst [.str "unlike", .str "below", .str "alike", .str "unlike", .str "lacking", .str "unlike", .str "below", .str "unlike"]) nb
  have nbl := (hP.not nb).1
  refine ⟨_, rfl, l, c, 8, S, rfl, hP.same j1, by decide, by decide, by omega, fun r H2 r0 r8 P2 x2 => ?_⟩
  have eb := x2 _ _ nbl (upd_same (H := H) (a := b) (o := .lst [.str "unlike", .str "below", .str "alike", .str "unlike", .str "lacking", .str "unlike", .str "below", .str "unlike"]))
  obtain ⟨wd, ew, ow⟩ : ∃ wd : Str, atI [V.str "unlike", V.str "below", V.str "alike", V.str "unlike", V.str "lacking", V.str "unlike", V.str "below", V.str "unlike"] r = some (.str wd) ∧ (wd = "lacking" ∨ wd = "unlike" ∨ wd = "below" ∨ wd = "alike") := by
    have : r = ((0 : Nat) : Int) ∨ r = ((1 : Nat) : Int) ∨ r = ((2 : Nat) : Int) ∨ r = ((3 : Nat) : Int) ∨ r = ((4 : Nat) : Int) ∨ r = ((5 : Nat) : Int) ∨ r = ((6 : Nat) : Int) ∨ r = ((7 : Nat) : Int) := by omega
    rcases this with e | e | e | e | e | e | e | e
    · rw [e]; exact ⟨_, atI_nat rfl, .inr (.inl rfl)⟩
    · rw [e]; exact ⟨_, atI_nat rfl, .inr (.inr (.inl rfl))⟩
    · rw [e]; exact ⟨_, atI_nat rfl, .inr (.inr (.inr rfl))⟩
    · rw [e]; exact ⟨_, atI_nat rfl, .inr (.inl rfl)⟩
    · rw [e]; exact ⟨_, atI_nat rfl, .inl rfl⟩
    · rw [e]; exact ⟨_, atI_nat rfl, .inr (.inl rfl)⟩
    · rw [e]; exact ⟨_, atI_nat rfl, .inr (.inr (.inl rfl))⟩
    · rw [e]; exact ⟨_, atI_nat rfl, .inr (.inl rfl)⟩
  refine ⟨b, _, _, .str wd, rfl, rfl, SqL.of eb, ew, ?_⟩
  have C2 := (hC.same j1).drawn (hP.same j1) x2 nca
  have x02 : Ex1 l H H2 := (ex1_of_same j1).trans x2
  refine ⟨_, rfl, _, rfl, _, rfl, l, c, ca, _, 15, m, rfl, P2, by omega, C2, nca, by decide, by decide, by decide, by decide, fun v1 p1 H3 x3 P3 d1 dp1 f1 k1 => ?_⟩
  have C3 := C2.drawn P2 x3 nca
  refine ⟨_, rfl, rfl, _, rfl, ite2 (fun e => ?_) (fun e => ?_)⟩
  · have e : wd = "lacking" := by
      have := of_decide_eq_true e
      exact V.str.inj this
    subst e
    refine ⟨_, rfl, _, rfl, (by show 2 ≤ sizeLine; decide), fun t nt => ?_⟩
    have jt := new_same (o := .tup [.str "lacking", v1]) nt
    exact q (.ref t) (.one p1) _ ((x02.trans x3).trans (ex1_of_same jt)) ((P3.same jt).le (by omega)) (.tup (SqT.of upd_same) (.cons (.str _) (.cons (Dp.same jt _ d1) .nil))) dp1 f1 (by simp only [cntS]; omega) trivial
  · have ow : wd = "unlike" ∨ wd = "below" ∨ wd = "alike" := by
      rcases ow with z | z
      · exact absurd (decide_eq_true (by rw [z])) e
      · exact z
    have lw : wd.length ≤ 8 := by
      rcases ow with z | z | z <;> rw [z] <;> decide
    refine ⟨_, rfl, _, rfl, _, rfl, _, rfl, _, rfl, l, c, ca, _, 15, m, rfl, P3, by omega, C3, nca, by decide, by decide, by decide, by decide, fun v2 p2 H4 x4 P4 d2 dp2 f2 k2 => ?_⟩
    refine ⟨(by show 3 ≤ sizeLine; decide), fun t nt => ?_⟩
    have jt := new_same (o := .tup [.str wd, v1, v2]) nt
    have d1' : Dp K (upd H4 t (.tup [.str wd, v1, v2])) v1 (pd p1) := Dp.same jt _ (Dp.tups (P3.tups x4) _ (only_pd p1) d1)
    exact q (.ref t) (.two wd p1 p2) _ (((x02.trans x3).trans x4).trans (ex1_of_same jt)) ((P4.same jt).le (by omega)) (.tup (SqT.of upd_same) (.cons (.str _) (.cons d1' (.cons (Dp.same jt _ d2) .nil)))) (by simp only [sdep]; omega) ⟨lw, f1, f2⟩ (by simp only [cntS]; omega) ow
end
end K28
end

section
set_option Elab.async false
set_option linter.all false
set_option maxRecDepth 100000
set_option maxHeartbeats 8000000
namespace K28
open PySem PySem.Spec PyProof.Rows L2 Gd
/-- what divides: a leaf, or a word ahead of parts -/
inductive DivD : Nat → PyData → Bool → Prop
  | leaf (n : Nat) (w : Str) (ds : List PyData) : (w = "cell" ∨ w = "number") → DivD (n + 1) (.tuple (.str w :: ds)) false
  | node (n : Nat) (w : Str) (ps : List Pa) : ¬ w = "cell" → ¬ w = "number" → (∀ p ∈ ps, dep p ≤ n) → 1 ≤ ps.length → ps.length ≤ 2 → DivD (n + 1) (.tuple (.str w :: ps.map pd)) (decide (w = "over") || ps.any ovr)
theorem sgn_not (k : Nat) : ¬ sgn k = "cell" ∧ ¬ sgn k = "number" ∧ decide (sgn k = "over") = decide (3 ≤ k) := by
  match k with
  | 0 => decide
  | 1 => decide
  | 2 => decide
  | k + 3 =>
    have e : sgn (k + 3) = "over" := by
      unfold sgn signs
      match k with
      | 0 => rfl
      | k + 1 => rfl
    rw [e]
    exact ⟨by decide, by decide, by rw [decide_eq_true rfl, decide_eq_true (by omega)]⟩
theorem div_pa {n : Nat} {p : Pa} (h : dep p ≤ n + 1) : DivD (n + 1) (pd p) (ovr p) := by
  cases p with
  | num i => exact .leaf n "number" [.int i] (.inr rfl)
  | cel a b => exact .leaf n "cell" [.str a, .str b] (.inl rfl)
  | bin k l r =>
    simp only [dep] at h
    obtain ⟨a, b, c⟩ := sgn_not k
    have := DivD.node n (sgn k) [l, r] a b (fun p hp => by
      simp only [List.mem_cons, List.not_mem_nil, or_false] at hp
      rcases hp with rfl | rfl <;> omega) (by simp) (by simp)
    rw [c] at this
    have e : (decide (3 ≤ k) || [l, r].any ovr) = ovr (.bin k l r) := by
      rw [ovr]
      simp [Bool.or_assoc]
    rw [e] at this
    exact this
theorem div_sv {n : Nat} {s : Sv} (h : sdep s ≤ n) (hw : wordS s) : DivD (n + 1) (sd s) (sov s) := by
  cases s with
  | one p =>
    simp only [sdep] at h
    have := DivD.node n "lacking" [p] (by decide) (by decide) (fun q hq => by rw [List.mem_singleton.mp hq]; exact h) (by simp) (by simp)
    have e : (decide (("lacking" : Str) = "over") || [p].any ovr) = sov (.one p) := by
      rw [sov, show decide (("lacking" : Str) = "over") = false by decide]
      simp
    rw [e] at this
    exact this
  | two w p q =>
    simp only [sdep] at h
    have e0 : ¬ w = "cell" ∧ ¬ w = "number" ∧ decide (w = "over") = false := by
      rcases hw with z | z | z <;> rw [z] <;> decide
    have := DivD.node n w [p, q] e0.1 e0.2.1 (fun x hx => by
      simp only [List.mem_cons, List.not_mem_nil, or_false] at hx
      rcases hx with rfl | rfl <;> omega) (by simp) (by simp)
    have e : (decide (w = "over") || [p, q].any ovr) = sov (.two w p q) := by
      rw [sov, e0.2.2]
      simp
    rw [e] at this
    exact this
theorem in_leaf (w : Str) : inV (.str w) [.str "cell", .str "number"] = (decide (w = "cell") || decide (w = "number")) := by
  show ((("cell" : Str) == w) || ((("number" : Str) == w) || false)) = _
  rw [Bool.or_false]
  have h : ∀ a : Str, (a == w) = decide (w = a) := fun a => by
    by_cases e : w = a
    · rw [e]
      simp
    · rw [decide_eq_false e]
      exact beq_eq_false_iff_ne.mpr (Ne.symm e)
  rw [h, h]
theorem in_flags (bs : List Bool) : inV (.bl true) (bs.map V.bl) = bs.any id := by
  induction bs with
  | nil => rfl
  | cons b bs ih =>
    show ((b == true) || inV (.bl true) (bs.map V.bl)) = _
    rw [ih]
    cases b <;> rfl
theorem flat_bls : ∀ l : List Bool, (l.map V.bl).all flatV = true
  | [] => rfl
  | x :: l => flat_bls l
abbrev sDiv : Stmt := topS 12
abbrev nDiv : List Str := ["_law_thing", "_law_one"]
theorem scDiv : FnScope nDiv ["_law_thing"] (defScope sDiv) := ⟨rfl, rfl, rfl, by decide +kernel, rfl, by decide +kernel, by decide +kernel⟩
def spDiv (K : PySem.W.Frag) (n : Nat) : Sp := fun vs H Q _ => ∃ (v : V) (d : PyData) (r : Bool), vs = [v] ∧ Dp K H v d ∧ DivD n d r ∧ ∀ H', Same H H' → Q (.bl r) H'
section
variable {P : Program} {w : World} {K : PySem.W.Frag} {mg : Str → Option Value} {base : Heap} {f : Addr} {fd : FuncData}
theorem div_none : FnOk P w K mg base CX0 1 f fd ["_law_thing"] (spDiv K 0) := by
  have bad : ∀ vs H Q E, ¬ spDiv K 0 vs H Q E := by
    rintro vs H Q E ⟨v, d, r, _, _, h, _⟩
    cases h
  exact ⟨fun vs H Q E h => absurd h (bad vs H Q E), fun A outer s H args us vs Q E _ _ _ _ h => absurd h (bad vs H Q E)⟩
theorem div_step (F : Fun K "_law_divides" "_law_divides" sDiv f fd) {n : Nat} (G : FnOk P w K mg base CX0 (n + 1) f fd ["_law_thing"] (spDiv K n)) (b : Binds K fd ["_law_thing"] []) (gF : mg "_law_divides" = some (.ref f)) :
    FnOk P w K mg base CX0 (n + 2) f fd ["_law_thing"] (spDiv K (n + 1)) := by
  refine F.ok scDiv (fun vs H Q E h => ?_) (fun cdv A outer s H vs Q E hr h => ?_)
  · obtain ⟨v, d, r, rfl, _⟩ := h
    rfl
  obtain ⟨v, d, r, rfl, hd, hD, q⟩ := h
  have nd := scDiv.nd
  have zl : sizeLine = 16777216 := rfl
  refine ⟨_, pss_cons (ps_if (pt_cmpR op_in_seq (pe_ix ix_tup (pv 0) pe_int (fun _ _ => rfl)) (pe_tup (pa_cons pe_str (pa_cons pe_str pa_nil))) (by with_unfolding_all rfl)) (pss_one (ps_ret pe_bl)) pss_nil)
    (pss_one (ps_ret (pe_or (pe_cmpR op_eq (pe_ix ix_tup (pv 0) pe_int (fun _ _ => rfl)) pe_str (nomark _))
      (pe_one (pe_cmpR op_in_seq pe_bl (pe_lc (own := [("_law_one", 1)]) (g := gName 1) (tt := tYes) rfl nd (pi_tup (pe_slice sl_tup (pv 0) (po_some pe_int) po_none)) (blkOk_by (N := nDiv) (sc := defScope sDiv) (by decide +kernel))
        (fun _ _ _ _ _ => pg_name (i := 1) nd rfl (Or.inl rfl)) (fun _ _ _ _ _ => pts_nil) (fun _ _ _ _ _ => pe_call G hr (by rfl) gF F.kp b .nil pass0 (pa_cons (pv 1) pa_nil))) (by with_unfolding_all rfl)))))), ?_⟩
  cases hD with
  | leaf _ wd ds ow =>
    cases hd with
    | @tup a xs _ hS hA =>
    cases hA with
    | cons h1 hA =>
    cases h1
    refine ⟨_, rfl, a, _, 0, .str wd, rfl, rfl, hS, atI_nat (j := 0) rfl, (by show 2 ≤ sizeLine; decide), fun t nt => ⟨t, _, rfl, .inr (SqT.of upd_same), rfl, rfl, _, rfl, ?_⟩⟩
    rw [in_leaf]
    have e : (decide (wd = "cell") || decide (wd = "number")) = true := by
      rcases ow with z | z <;> rw [z] <;> decide
    rw [e]
    refine iteT ?_
    exact q _ (new_same nt)
  | node _ wd ps n1 n2 hp l1 l2 =>
    cases hd with
    | @tup a xs _ hS hA =>
    cases hA with
    | @cons _ vs _ _ h1 hA =>
    cases h1
    refine ⟨_, rfl, a, _, 0, .str wd, rfl, rfl, hS, atI_nat (j := 0) rfl, (by show 2 ≤ sizeLine; decide), fun t nt => ⟨t, _, rfl, .inr (SqT.of upd_same), rfl, rfl, _, rfl, ?_⟩⟩
    rw [in_leaf, decide_eq_false n1, decide_eq_false n2]
    refine iteF ?_
    have j0 := new_same (o := .tup [.str "cell", .str "number"]) nt
    have hS0 := same_tup j0 hS
    refine ⟨_, rfl, a, _, 0, .str wd, rfl, rfl, hS0, atI_nat (j := 0) rfl, rfl, _, rfl, ?_⟩
    have ew : decide (V.str wd = V.str "over") = decide (wd = "over") := by
      by_cases z : wd = "over"
      · rw [z, decide_eq_true rfl, decide_eq_true rfl]
      · rw [decide_eq_false z, decide_eq_false (fun y => z (V.str.inj y))]
    rw [ew]
    by_cases eo : wd = "over"
    · rw [decide_eq_true eo]
      refine iteT ?_
      have z := q _ j0
      rw [decide_eq_true eo] at z
      exact z
    rw [decide_eq_false eo]
    refine iteF ?_
    rw [decide_eq_false eo, Bool.false_or] at q
    have lp : vs.length = ps.length := by
      have := Gd.DpAll.len hA
      rwa [List.length_map] at this
    refine ⟨_, rfl, _, rfl, a, _, rfl, hS0, by rintro ⟨h1, _⟩; exact absurd h1 (by show ¬ HT.sIx (V.str wd :: vs).length 0 (some ((1 : Nat) : Int)) = 0; rw [HT.sIx_nat, List.length_cons]; omega), fun b nb => ?_⟩
    have ec : cutV (V.str wd :: vs) (some 1) none = vs := cut_drop (V.str wd :: vs) 1
    rw [ec]
    generalize upd H t (.tup [.str "cell", .str "number"]) = H0 at *
    have j1 := new_same (o := .tup vs) nb
    refine ⟨b, rfl, ⟨_, SqT.of upd_same⟩, fun D nD => ?_⟩
    have nD0 : H0 D = none := j1.free nD
    have tb := fun {H' : Hp} (s : Same (upd H0 b (.tup vs)) H') => same_tup s (SqT.of (K := K) (upd_same (H := H0) (a := b) (o := .tup vs)))
    refine lc_it walk_tup (fun i H1 => Same (upd H0 b (.tup vs)) H1 ∧ H1 D = some (.lst (((ps.map ovr).take i).map V.bl))) ⟨new_same nD, by rw [List.take_zero]; exact upd_same⟩ (fun i H1 _ h => tb h.1) ?_ ?_
    · rintro i x H1 H2 hi ⟨s1, eD⟩ ⟨rfl, ex⟩
      obtain ⟨d, ed, hdp⟩ := Gd.DpAll.at_ hA ex
      obtain ⟨pp, epp, rfl⟩ : ∃ pp, ps[i]? = some pp ∧ d = pd pp := by
        rw [List.getElem?_map] at ed
        cases e : ps[i]? with
        | none => rw [e] at ed; cases ed
        | some y => rw [e] at ed; exact ⟨y, rfl, (Option.some.inj ed).symm⟩
      have dpp := hp pp (List.mem_of_getElem? epp)
      have pos := dep_pos pp
      obtain ⟨k, rfl⟩ : ∃ k, n = k + 1 := ⟨n - 1, by omega⟩
      refine ⟨rfl, ?_⟩
      refine ⟨_, rfl, x, pd pp, ovr pp, rfl, Dp.same ((j0.trans j1).trans s1) _ hdp, div_pa dpp, fun H3 s3 => ?_⟩
      refine ⟨_, s3 _ _ eD, by rw [List.length_map, List.length_take, List.length_map]; have := at_lt epp; omega, own_same nD (s1.trans s3), ?_⟩
      rw [upd_same, take_at (x := ovr pp) (by rw [List.getElem?_map, epp] <;> rfl), List.map_append]
      rfl
    rintro H1 ⟨s1, eD⟩
    rw [lp, List.take_of_length_le (by rw [List.length_map]; exact Nat.le_refl _)] at eD
    refine ⟨D, _, rfl, .inl (SqL.of eD), rfl, flat_bls _, ?_⟩
    rw [in_flags, List.any_map]
    exact q _ ((j0.trans j1).trans s1)
theorem ok_div (F : Fun K "_law_divides" "_law_divides" sDiv f fd) (b : Binds K fd ["_law_thing"] []) (gF : mg "_law_divides" = some (.ref f)) : ∀ n : Nat, FnOk P w K mg base CX0 (n + 1) f fd ["_law_thing"] (spDiv K n)
  | 0 => div_none
  | n + 1 => div_step F (ok_div F b gF n) b gF
end
end K28
end

section
set_option Elab.async false
set_option linter.all false
set_option maxRecDepth 100000
set_option maxHeartbeats 8000000
namespace K28
open PySem PySem.Spec PyProof.Rows L2 Gd
/-! rows of words -/
def words : List Str := ["held", "not held", "faulted", "not seen"]
def wd (k : Nat) : Str := words.getD k "not seen"
def wv (k : Nat) : V := .str (wd k)
def ext (r : List Nat) : List (List Nat) := (List.range 4).map fun i => r ++ [i]
def allR : Nat → List (List Nat)
  | 0 => [[]]
  | n + 1 => (allR n).flatMap ext
theorem ext_len (r : List Nat) : (ext r).length = 4 := by simp [ext]
theorem flat_len (rs : List (List Nat)) : (rs.flatMap ext).length = 4 * rs.length := by
  induction rs with
  | nil => rfl
  | cons r rs ih =>
    rw [List.flatMap_cons, List.length_append, ext_len, ih, List.length_cons]
    omega
theorem all_len : ∀ n, (allR n).length = 4 ^ n
  | 0 => rfl
  | n + 1 => by
    rw [allR, flat_len, all_len, Nat.pow_succ, Nat.mul_comm]
theorem all_row : ∀ {n : Nat} {r : List Nat}, r ∈ allR n → r.length = n ∧ ∀ k ∈ r, k < 4
  | 0, r, h => by
    rw [List.mem_singleton.mp h]
    exact ⟨rfl, fun k hk => nomatch hk⟩
  | n + 1, r, h => by
    obtain ⟨s, hs, hr⟩ := List.mem_flatMap.mp h
    obtain ⟨i, hi, rfl⟩ := List.mem_map.mp hr
    obtain ⟨a, b⟩ := all_row hs
    refine ⟨by simp [a], fun k hk => ?_⟩
    rcases List.mem_append.mp hk with hk | hk
    · exact b k hk
    · rw [List.mem_singleton.mp hk]
      exact List.mem_range.mp hi
def RowsT (H : Hp) (a : Addr) (rs : List (List Nat)) : Prop :=
  ∃ bs : List Addr, H a = some (.lst (bs.map V.ref)) ∧ bs.length = rs.length ∧ ∀ (i : Nat) (b : Addr) (r : List Nat), bs[i]? = some b → rs[i]? = some r → H b = some (.tup (r.map wv))
theorem RowsT.same {H H' : Hp} {a : Addr} {rs : List (List Nat)} (h : RowsT H a rs) (s : Same H H') : RowsT H' a rs := by
  obtain ⟨bs, h1, h2, h3⟩ := h
  exact ⟨bs, s _ _ h1, h2, fun i b c e1 e2 => s _ _ (h3 i b c e1 e2)⟩
theorem RowsT.grown {H : Hp} {a : Addr} {xs ys : List V} {cs ds : List (List Nat)} {b2 : List Addr} (h : RowsT H a cs) (ex : H a = some (.lst xs)) (ey : ys = b2.map V.ref) (l2 : b2.length = ds.length)
    (h2 : ∀ (i : Nat) (b : Addr) (c : List Nat), b2[i]? = some b → ds[i]? = some c → H b = some (.tup (c.map wv))) : RowsT (upd H a (.lst (xs ++ ys))) a (cs ++ ds) := by
  obtain ⟨b1, p1, q1, r1⟩ := h
  rw [p1] at ex
  cases ex
  subst ey
  have at1 : ∀ {b : Addr} {c : List Nat}, H b = some (.tup (c.map wv)) → upd H a (.lst (b1.map V.ref ++ b2.map V.ref)) b = some (.tup (c.map wv)) := fun {b c} e => by
    rw [upd_ne (ne_of e p1 (fun z => nomatch z))]
    exact e
  refine ⟨b1 ++ b2, by rw [upd_same, List.map_append], by rw [List.length_append, List.length_append, q1, l2], fun i b c eb ec => ?_⟩
  rw [List.getElem?_append] at eb ec
  rw [q1] at eb
  by_cases cc : i < cs.length
  · rw [if_pos cc] at eb ec
    exact at1 (r1 i b c eb ec)
  · rw [if_neg cc] at eb ec
    exact at1 (h2 _ b c eb ec)
theorem walk_upto {n : Nat} : Walk (Itr 0 n) n (fun _ => True) (YFn fun i => .int ((i : Nat) : Int)) :=
  walk_range.mono (fun _ _ => trivial) (fun i H x H' _ _ y => ⟨y.1, y.2.trans (by show V.int (0 + ((i : Nat) : Int)) = V.int ((i : Nat) : Int); rw [Int.zero_add])⟩)
theorem words_at {i : Nat} {v : V} (h : (words.map V.str)[i]? = some v) : i < 4 ∧ v = wv i := by
  match i, h with
  | 0, h => cases h; exact ⟨by omega, rfl⟩
  | 1, h => cases h; exact ⟨by omega, rfl⟩
  | 2, h => cases h; exact ⟨by omega, rfl⟩
  | 3, h => cases h; exact ⟨by omega, rfl⟩
  | i + 4, h => simp [words] at h
abbrev sAll : Stmt := topS 13
abbrev nAll : List Str := ["_law_many", "_law_found", "_law_k", "_law_longer", "_law_row", "_law_word"]
theorem scAll : FnScope nAll ["_law_many"] (defScope sAll) := ⟨rfl, rfl, rfl, by decide +kernel, rfl, by decide +kernel, by decide +kernel⟩
def spAll : Sp := fun vs H Q _ => ∃ (n : Nat), vs = [.int ((n : Nat) : Int)] ∧ n ≤ 4 ∧ ∀ (l : Addr) (H' : Hp), Same H H' → H l = none → RowsT H' l (allR n) → Q (.ref l) H'
section
variable {P : Program} {w : World} {K : PySem.W.Frag} {mg : Str → Option Value} {base : Heap} {f : Addr} {fd : FuncData}
theorem ok_all (F : Fun K "_law_all" "_law_all" sAll f fd) (mr : mg "range" = none) : FnOk P w K mg base CX0 1 f fd ["_law_many"] spAll := by
  refine F.ok scAll (fun vs H Q E h => ?_) (fun cdv A outer s H vs Q E hr h => ?_)
  · obtain ⟨n, rfl, _⟩ := h
    rfl
  obtain ⟨n, rfl, n4, q⟩ := h
  have nd := scAll.nd
  have zl : sizeLine = 16777216 := rfl
  refine ⟨_, pss_cons (ps_set (i := 1) nd rfl (.inl rfl) (pe_lst (pa_cons (pe_tup pa_nil) pa_nil)))
    (pss_cons (ps_for PassesOwn.never rfl (pi_range1 (by rfl) mr (pa_cons (pv 0) pa_nil)) (pg_name (i := 2) nd rfl (.inl rfl))
      (pss_cons (ps_set (i := 3) nd rfl (.inl rfl) (pe_lst pa_nil))
      (pss_cons (ps_for PassesOwn.never rfl (pi_list (pv 1)) (pg_name (i := 4) nd rfl (.inr rfl))
        (pss_one (ps_expr (pe_bm PySem.F.plainAttrs_list PySem.F.slot_list_extend PySem.F.type_list_extend mt_extend (pv 3)
          (pa_cons (pe_lc (own := [("_law_word", 5)]) (g := gName 5) (tt := tYes) rfl nd (pi_tup (pe_tup (pa_cons pe_str (pa_cons pe_str (pa_cons pe_str (pa_cons pe_str pa_nil)))))) (blkOk_by (N := nAll) (sc := defScope sAll) (by decide +kernel))
            (fun _ _ _ _ _ => pg_name (i := 5) nd rfl (Or.inl rfl)) (fun _ _ _ _ _ => pts_nil) (fun _ _ _ _ _ => pe_op (r := rCatA K) op_catA (pv 4) (pe_tup (pa_cons (pv 5) pa_nil)))) pa_nil)))))
      (pss_one (ps_set (i := 1) nd rfl (.inl rfl) (pv 3))))))
    (pss_one (ps_ret (pv 1)))), ?_⟩
  refine ⟨(by show 0 ≤ sizeLine; decide), fun t0 nt0 => ?_⟩
  have s1 := new_same (o := .tup []) nt0
  refine ⟨(by show 1 ≤ sizeLine; decide), fun f0 nf0 => ?_⟩
  have s2 := s1.trans (new_same (o := .lst [.ref t0]) nf0)
  have nf00 : H f0 = none := s1.free nf0
  refine ⟨_, rfl, _, rfl, by omega, by omega, ?_⟩
  refine for_it walk_upto (fun i σ H1 => Same H H1 ∧ ∃ fo : Addr, H fo = none ∧ RowsT H1 fo (allR i) ∧ ∃ y2 y3 y4, σ = [some (.int ((n : Nat) : Int)), some (.ref fo), y2, y3, y4, none])
    ⟨s2, f0, nf00, ⟨[t0], upd_same, rfl, fun i b c eb ec => ?_⟩, none, none, none, rfl⟩ (fun _ _ _ _ _ => trivial) ?_ ?_
  · cases i with
    | zero =>
      cases eb
      cases ec
      rw [upd_ne (ne_of_none upd_same nf0)]
      exact upd_same
    | succ i => simp at eb
  · rintro i x σ H1 H2 hi ⟨s3, fo, nfo, hc, y2, y3, y4, rfl⟩ ⟨rfl, rfl⟩
    rw [Int.toNat_natCast] at hi
    have li := all_len i
    have p4 : 4 ^ i ≤ 64 := by
      have : i = 0 ∨ i = 1 ∨ i = 2 ∨ i = 3 := by omega
      rcases this with e | e | e | e <;> rw [e] <;> decide
    obtain ⟨bs, ebs, lbs, tbs⟩ := hc
    refine ⟨(by show 0 ≤ sizeLine; decide), fun lo nlo => ?_⟩
    have s4 := new_same (o := .lst []) nlo
    have nlo0 : H lo = none := s3.free nlo
    refine ⟨_, rfl, fo, rfl, ⟨_, SqL.of (s4 _ _ ebs)⟩, ?_⟩
    refine for_it walk_list (fun j σ H3 => Same H2 H3 ∧ RowsT H3 lo (((allR i).take j).flatMap ext) ∧ ∃ y4, σ = [some (.int ((n : Nat) : Int)), some (.ref fo), some (.int ((i : Nat) : Int)), some (.ref lo), y4, none])
      ⟨s4, ⟨[], upd_same, rfl, fun i b c e => nomatch e⟩, _, rfl⟩ (fun j σ H3 _ h => SqL.of (h.1 _ _ ebs)) ?_ ?_
    · rintro j x σ H3 H4 hj ⟨s5, hlo, y4, rfl⟩ ⟨rfl, ex⟩
      obtain ⟨b1, e1, rfl⟩ := map_at ex
      rw [List.length_map, lbs] at hj
      obtain ⟨c, ec⟩ := at_of (xs := allR i) rfl hj
      have tc := s5 _ _ (tbs j b1 c e1 ec)
      obtain ⟨lc, _⟩ := all_row (List.mem_of_getElem? ec)
      obtain ⟨xs0, exs0, lxs0, _⟩ := id hlo
      refine ⟨_, rfl, .inl ⟨rfl, _, SqL.of exs0⟩, (by show 4 ≤ sizeLine; decide), fun tw ntw => ?_⟩
      have sw := new_same (o := .tup (words.map V.str)) ntw
      refine ⟨tw, rfl, ⟨_, SqT.of (upd_same (o := .tup (words.map V.str)))⟩, fun D nD => ?_⟩
      have tc0 := sw _ _ tc
      have hlo0 := hlo.same sw
      have etw : ∀ {Hx : Hp}, Same (upd H4 tw (.tup (words.map V.str))) Hx → SqT K Hx tw (words.map V.str) := fun s => SqT.of (s _ _ upd_same)
      refine lc_it (walk_tup (xs := words.map V.str)) (fun k H5 => Same (upd H4 tw (.tup (words.map V.str))) H5 ∧ RowsT H5 D ((List.range k).map fun i => c ++ [i])) ⟨new_same nD, [], upd_same, rfl, fun i b c e => nomatch e⟩ (fun k H5 _ h => etw h.1) ?_ ?_
      · rintro k x H5 H6 hk ⟨s6, hD⟩ ⟨rfl, ex⟩
        obtain ⟨k4, rfl⟩ := words_at ex
        refine ⟨rfl, ?_⟩
        refine ⟨_, rfl, _, rfl, (by show 1 ≤ sizeLine; decide), fun t nt => ?_⟩
        have s7 := new_same (o := .tup [wv k]) nt
        have tc7 := s7 _ _ (s6 _ _ tc0)
        have fin : ∀ (u : Addr) (H7 : Hp), Same H6 H7 → H7 u = some (.tup ((c ++ [k]).map wv)) → ∃ acc, H7 D = some (.lst acc) ∧ acc.length < sizeLine ∧ (Same (upd H4 tw (.tup (words.map V.str))) (upd H7 D (.lst (acc ++ [.ref u]))) ∧ RowsT (upd H7 D (.lst (acc ++ [.ref u]))) D ((List.range (k + 1)).map fun i => c ++ [i])) := fun u H7 s67 eu => by
          have hD7 := hD.same s67
          obtain ⟨ys, eys, lys, _⟩ := id hD7
          refine ⟨_, eys, ?_, own_same nD (s6.trans s67), ?_⟩
          · rw [List.length_map, lys, List.length_map, List.length_range]
            omega
          · rw [List.range_succ, List.map_append]
            exact hD7.grown (b2 := [u]) eys rfl rfl fun i b d eb ed => by
              cases i with
              | zero =>
                cases eb
                cases ed
                exact eu
              | succ i => simp at eb
        refine ⟨b1, t, _, _, rfl, rfl, SqT.of tc7, SqT.of upd_same, ?_, fun e => ?_, (fun _ e => nomatch e), fun _ _ u nu => ?_⟩
        · rw [List.length_map]
          show c.length + 1 ≤ sizeLine
          omega
        · have : c = [] := by simpa using e
          subst this
          exact fin t _ s7 upd_same
        · refine fin u _ (s7.trans (new_same nu)) ?_
          rw [upd_same, List.map_append]
          rfl
      rintro H5 ⟨s6, hD⟩
      have hlo5 := hlo0.same s6
      have e4w : (words.map V.str).length = 4 := rfl
      rw [e4w] at hD
      obtain ⟨xs, exs, lxs, _⟩ := id hlo5
      obtain ⟨ds, eds, lds, tds⟩ := hD
      refine ⟨lo, D, _, _, rfl, rfl, exs, eds, ?_, ?_⟩
      · rw [List.length_map, List.length_map, lxs, lds, flat_len, List.length_take, List.length_map, List.length_range]
        omega
      refine ⟨own_same nlo ((s5.trans sw).trans s6), ?_, _, rfl⟩
      rw [take_at ec, List.flatMap_append]
      have e4 : [c].flatMap ext = ext c := by simp
      rw [e4]
      exact hlo5.grown exs rfl lds tds
    · rintro σ H3 ⟨s5, hlo, y4, rfl⟩
      rw [List.length_map, lbs, List.take_length] at hlo
      exact ⟨_, rfl, s3.trans s5, lo, nlo0, hlo, _, _, _, rfl⟩
  · rintro σ H1 ⟨s3, fo, nfo, hc, y2, y3, y4, rfl⟩
    rw [Int.toNat_natCast] at hc
    exact ⟨_, rfl, q fo H1 s3 nfo hc⟩
end
end K28
end

section
set_option Elab.async false
set_option linter.all false
set_option maxRecDepth 100000
set_option maxHeartbeats 8000000
namespace K28
open PySem PySem.Spec PyProof.Rows L2 Gd
/-! whether it is dropped, by each sieve and those ahead of it -/
def code : Nat → Option (Option Bool)
  | 0 => some (some true)
  | 1 => some (some false)
  | 2 => some none
  | _ => none
def okk (x : Nat × Sv) : Bool := decide (x.1 = 0) || (decide (x.1 = 3) && !sov x.2)
def dueR : List (Nat × Sv) → Bool
  | [] => false
  | x :: r => decide (x.1 = 1) || (okk x && dueR r)
def dflt : Nat × Sv := (9, .one (.num 0))
def dueL (l : List (Nat × Sv)) : Bool := (List.range l.length).any fun k => decide ((l.getD k dflt).1 = 1) && (List.range k).all fun j => okk (l.getD j dflt)
theorem due_eq : ∀ l, dueL l = dueR l
  | [] => rfl
  | x :: l => by
    have ih := due_eq l
    unfold dueL at ih ⊢
    rw [List.length_cons, List.range_succ_eq_map, List.any_cons, List.any_map, dueR, ← ih]
    have h0 : (decide (((x :: l).getD 0 dflt).1 = 1) && (List.range 0).all fun j => okk ((x :: l).getD j dflt)) = decide (x.1 = 1) := by simp
    rw [h0]
    congr 1
    cases ok : okk x with
    | false =>
      rw [Bool.false_and, List.any_eq_false]
      intro k hk
      simp only [Function.comp]
      rw [List.range_succ_eq_map, List.all_cons]
      simp [ok]
    | true =>
      rw [Bool.true_and]
      congr 1
      funext k
      simp only [Function.comp]
      rw [List.range_succ_eq_map, List.all_cons, List.all_map]
      have e1 : (x :: l).getD 0 dflt = x := rfl
      have e2 : ∀ j, (x :: l).getD (j + 1) dflt = l.getD j dflt := fun j => by simp
      rw [e1, ok, Bool.true_and, Nat.succ_eq_add_one, e2]
      congr 1
theorem drops_eq : ∀ (ss : List Sv) (row : List Nat) (g : Nat → Option (Option Bool)) (n : Nat), row.length = ss.length → (∀ k ∈ row, k < 4) → (∀ i, i < ss.length → g (n + i) = code (row.getD i 9)) → drops ss g n = dueR (row.zip ss)
  | [], row, g, n, _, _, _ => by
    cases row <;> rfl
  | s :: ss, [], g, n, h, _, _ => by simp at h
  | s :: ss, k :: row, g, n, h, h4, hg => by
    have ih := drops_eq ss row g (n + 1) (by simpa using h) (fun j hj => h4 j (by simp [hj])) (fun i hi => by
      have := hg (i + 1) (by simpa using hi)
      rw [show n + 1 + i = n + (i + 1) by omega, this]
      simp)
    have g0 : g n = code k := by
      have := hg 0 (by simp)
      simpa using this
    have k4 := h4 k (by simp)
    rw [drops, List.zip_cons_cons, dueR, g0, ih]
    have : k = 0 ∨ k = 1 ∨ k = 2 ∨ k = 3 := by omega
    rcases this with e | e | e | e <;> subst e
    · simp [code, okk]
    · simp [code, okk]
    · simp [code, okk]
    · cases h : sov s <;> simp [code, okk, h]
end K28
end

section
set_option Elab.async false
set_option linter.all false
set_option maxRecDepth 100000
set_option maxHeartbeats 8000000
namespace K28
open PySem PySem.Spec PyProof.Rows L2 Gd
theorem wd_eq {k : Nat} (h : k < 4) : decide (wv k = V.str "held") = decide (k = 0) ∧ decide (wv k = V.str "not held") = decide (k = 1) ∧ decide (wv k = V.str "not seen") = decide (k = 3) := by
  have : k = 0 ∨ k = 1 ∨ k = 2 ∨ k = 3 := by omega
  rcases this with e | e | e | e <;> subst e <;> decide
theorem in_false (bs : List Bool) : inV (.bl false) (bs.map V.bl) = !bs.all id := by
  induction bs with
  | nil => rfl
  | cons b bs ih =>
    show ((b == false) || inV (.bl false) (bs.map V.bl)) = _
    rw [ih]
    cases b <;> rfl
abbrev sDue : Stmt := topS 14
abbrev nDue : List Str := ["_law_some", "_law_row", "_law_k", "_law_ahead", "_law_j"]
theorem scDue : FnScope nDue ["_law_some", "_law_row"] (defScope sDue) := ⟨rfl, rfl, rfl, by decide +kernel, rfl, by decide +kernel, by decide +kernel⟩
def spDue (K : PySem.W.Frag) : Sp := fun vs H Q _ => ∃ (a b : Addr) (us : List V) (ss : List Sv) (row : List Nat), vs = [.ref a, .ref b] ∧ SqT K H a us ∧ Svs K H us ss ∧ SqT K H b (row.map wv) ∧ row.length = ss.length ∧ ss.length ≤ 4 ∧ (∀ k ∈ row, k < 4) ∧ (∀ s ∈ ss, wordS s) ∧
  ∀ H', Same H H' → Q (.bl (dueR (row.zip ss))) H'
theorem zip_get {row : List Nat} {ss : List Sv} {j k : Nat} {s : Sv} (h1 : row[j]? = some k) (h2 : ss[j]? = some s) : (row.zip ss).getD j dflt = (k, s) := by
  have : (row.zip ss)[j]? = some (k, s) := List.getElem?_zip_eq_some.mpr ⟨h1, h2⟩
  rw [List.getD_eq_getElem?_getD, this]
  rfl
theorem wv_at {row : List Nat} {j k : Nat} (h : row[j]? = some k) : atI (row.map wv) ((j : Nat) : Int) = some (wv k) := atI_nat (by rw [List.getElem?_map, h] <;> rfl)
section
variable {P : Program} {w : World} {K : PySem.W.Frag} {mg : Str → Option Value} {base : Heap} {f fD : Addr} {fd dD : FuncData}
theorem ok_due (F : Fun K "_law_due" "_law_due" sDue f fd) (mr : mg "range" = none) (mn : mg "len" = none)
    (FD : Fun K "_law_divides" "_law_divides" sDiv fD dD) (GD : FnOk P w K mg base CX0 7 fD dD ["_law_thing"] (spDiv K 6)) (bD : Binds K dD ["_law_thing"] []) (gD : mg "_law_divides" = some (.ref fD)) :
    FnOk P w K mg base CX0 8 f fd ["_law_some", "_law_row"] (spDue K) := by
  refine F.ok scDue (fun vs H Q E h => ?_) (fun cdv A outer s H vs Q E hr h => ?_)
  · obtain ⟨a, b, us, ss, row, rfl, _⟩ := h
    rfl
  obtain ⟨a, b, us, ss, row, rfl, ha, hs, hb, hl, l4, h4, hw, q⟩ := h
  have nd := scDue.nd
  have zl : sizeLine = 16777216 := rfl
  refine ⟨_, pss_cons (ps_for PassesOwn.never rfl (pi_range1 (by rfl) mr (pa_cons (pe_callB call_len_seq (by rfl) mn PySem.boot_len (pa_cons (pv 1) pa_nil)) pa_nil)) (pg_name (i := 2) nd rfl (.inl rfl))
      (pss_cons (ps_setLc (i := 3) (own := [("_law_j", 4)]) (g := gName 4) (tt := tYes) rfl nd rfl rfl (by rfl) (pi_range1 (by rfl) mr (pa_cons (pv 2) pa_nil)) (blkOk_by (N := nDue) (sc := defScope sDue) (by decide +kernel))
          (fun _ _ _ _ _ => pg_name (i := 4) nd rfl (Or.inl rfl)) (fun _ _ _ _ _ => pts_nil)
          (fun _ _ _ _ _ => pe_or (pe_cmpR op_eq (pe_ix (r := rIxT K) ix_tup (pv 1) (pv 4) (fun _ _ => rfl)) pe_str (nomark _))
            (pe_one (pe_and (pe_cmpR op_eq (pe_ix (r := rIxT K) ix_tup (pv 1) (pv 4) (fun _ _ => rfl)) pe_str (nomark _))
              (pe_one (pe_not (pe_call GD hr (by rfl) gD FD.kp bD .nil pass0 (pa_cons (pe_ix (r := rIxT K) ix_tup (pv 0) (pv 4) (fun _ _ => rfl)) pa_nil))))))))
      (pss_one (ps_if (PW.pt (pw_and (pt_cmpR op_eq (pe_ix ix_tup (pv 1) (pv 2) (fun _ _ => rfl)) pe_str (nomark _)) (pw_and1 (pt_cmpR op_notIn_seq pe_bl (pv 3) (by with_unfolding_all rfl)))))
        (pss_one (ps_ret pe_bl)) pss_nil))))
    (pss_one (ps_ret pe_bl)), ?_⟩
  have lu : us.length = ss.length := by
    have := Gd.DpAll.len hs.1
    rwa [List.length_map] at this
  have lz : (row.zip ss).length = ss.length := by rw [List.length_zip, hl, Nat.min_self]
  rw [← due_eq] at q
  refine ⟨_, rfl, b, _, rfl, .inr hb, _, rfl, by omega, by rw [List.length_map]; omega, ?_⟩
  refine for_it walk_upto (fun i σ H1 => Same H H1 ∧ ((List.range i).any fun k => decide (((row.zip ss).getD k dflt).1 = 1) && (List.range k).all fun j => okk ((row.zip ss).getD j dflt)) = false ∧ ∃ y2 y3, σ = [some (.ref a), some (.ref b), y2, y3, none])
    ⟨fun _ _ e => e, rfl, none, none, rfl⟩ (fun _ _ _ _ _ => trivial) ?_ ?_
  · rintro i x σ H1 H2 hi ⟨s1, hf, y2, y3, rfl⟩ ⟨rfl, rfl⟩
    rw [List.length_map, Int.toNat_natCast, hl] at hi
    obtain ⟨k, ek⟩ := at_of (xs := row) (i := i) rfl (by omega)
    obtain ⟨sv, esv⟩ := at_of (xs := ss) (i := i) rfl hi
    have k4 := h4 k (List.mem_of_getElem? ek)
    refine ⟨_, rfl, _, rfl, by omega, by omega, fun D nD => ?_⟩
    refine lc_it walk_upto (fun j H3 => Same H2 H3 ∧ H3 D = some (.lst (((List.range j).map fun j => okk ((row.zip ss).getD j dflt)).map V.bl))) ⟨new_same nD, upd_same⟩ (fun _ _ _ _ => trivial) ?_ ?_
    · rintro j x H3 H4 hj ⟨s3, eD⟩ ⟨rfl, rfl⟩
      rw [Int.toNat_natCast] at hj
      obtain ⟨kj, ekj⟩ := at_of (xs := row) (i := j) rfl (by omega)
      obtain ⟨uj, euj⟩ := at_of (xs := us) (i := j) rfl (by omega)
      obtain ⟨sj, esj, dsj, sj5⟩ := sv_at hs euj
      have kj4 := h4 kj (List.mem_of_getElem? ekj)
      obtain ⟨w0, w1, w3⟩ := wd_eq kj4
      have s13 := s1.trans s3
      have hb3 := same_tup s13 hb
      have fin : ∀ H5, Same H4 H5 → ∃ acc, H5 D = some (.lst acc) ∧ acc.length < sizeLine ∧ (Same H2 (upd H5 D (.lst (acc ++ [.bl (okk (kj, sj))]))) ∧ upd H5 D (.lst (acc ++ [.bl (okk (kj, sj))])) D = some (.lst (((List.range (j + 1)).map fun j => okk ((row.zip ss).getD j dflt)).map V.bl))) := fun H5 s5 => by
        refine ⟨_, s5 _ _ eD, by rw [List.length_map, List.length_map, List.length_range]; omega, own_same nD (s3.trans s5), ?_⟩
        rw [upd_same, List.range_succ, List.map_append, List.map_append]
        show some (HO.lst (_ ++ [V.bl (okk (kj, sj))])) = some (HO.lst (_ ++ [V.bl (okk ((row.zip ss).getD j dflt))]))
        rw [zip_get ekj esj]
      refine ⟨rfl, ?_⟩
      refine ⟨_, rfl, _, rfl, b, _, _, wv kj, rfl, rfl, hb3, wv_at ekj, rfl, _, rfl, ?_⟩
      rw [w0]
      by_cases z0 : kj = 0
      · rw [decide_eq_true z0]
        refine iteT ?_
        have z := fin _ (fun _ _ e => e)
        rw [show okk (kj, sj) = true by simp [okk, z0]] at z
        exact z
      rw [decide_eq_false z0]
      refine iteF ?_
      refine ⟨_, rfl, _, rfl, b, _, _, wv kj, rfl, rfl, hb3, wv_at ekj, rfl, _, rfl, ?_⟩
      rw [w3]
      by_cases z3 : kj = 3
      · rw [decide_eq_true z3]
        refine iteT ?_
        refine ⟨_, rfl, _, rfl, a, _, _, uj, rfl, rfl, same_tup s13 ha, atI_nat euj, uj, sd sj, sov sj, rfl, Dp.same s13 _ dsj, div_sv sj5 (hw sj (List.mem_of_getElem? esj)), fun H5 s5 => ⟨_, rfl, ?_⟩⟩
        have z := fin _ s5
        rw [show okk (kj, sj) = !sov sj by simp [okk, z3]] at z
        exact z
      · rw [decide_eq_false z3]
        refine iteF ?_
        have z := fin _ (fun _ _ e => e)
        rw [show okk (kj, sj) = false by simp [okk, z0, z3]] at z
        exact z
    rintro H3 ⟨s3, eD⟩
    rw [Int.toNat_natCast] at eD
    obtain ⟨w0, w1, w3⟩ := wd_eq k4
    have s13 := s1.trans s3
    refine ⟨_, rfl, _, rfl, b, _, _, wv k, rfl, rfl, same_tup s13 hb, wv_at ek, rfl, _, rfl, ?_⟩
    rw [w1]
    have s03 := s13
    have gi : (row.zip ss).getD i dflt = (k, sv) := zip_get ek esv
    have next : (decide (k = 1) && (List.range i).all fun j => okk ((row.zip ss).getD j dflt)) = false → ((List.range (i + 1)).any fun k => decide (((row.zip ss).getD k dflt).1 = 1) && (List.range k).all fun j => okk ((row.zip ss).getD j dflt)) = false := fun e => by
      rw [List.range_succ, List.any_append, hf, Bool.false_or, List.any_cons, List.any_nil, Bool.or_false, gi]
      exact e
    by_cases z1 : k = 1
    · rw [decide_eq_true z1]
      refine iteT ?_
      refine ⟨_, rfl, D, _, rfl, .inl (SqL.of eD), rfl, flat_bls _, _, rfl, ?_⟩
      rw [in_false, List.all_map]
      cases ea : (List.range i).all (id ∘ fun j => okk ((row.zip ss).getD j dflt)) with
      | true =>
        refine iteT ?_
        have z := q _ s03
        have : dueL (row.zip ss) = true := by
          unfold dueL
          rw [List.any_eq_true]
          refine ⟨i, List.mem_range.mpr (by omega), ?_⟩
          rw [gi, Bool.and_eq_true]
          exact ⟨decide_eq_true z1, ea⟩
        rw [this] at z
        exact z
      | false =>
        refine iteF ?_
        exact ⟨s03, next (by rw [show ((List.range i).all fun j => okk ((row.zip ss).getD j dflt)) = false from ea, Bool.and_false]), _, _, rfl⟩
    · rw [decide_eq_false z1]
      refine iteF ?_
      exact ⟨s03, next (by rw [decide_eq_false z1, Bool.false_and]), _, _, rfl⟩
  · rintro σ H1 ⟨s1, hf, y2, y3, rfl⟩
    rw [List.length_map, Int.toNat_natCast, hl] at hf
    have z := q _ s1
    unfold dueL at z
    rw [lz, hf] at z
    exact z
end
end K28
end

section
set_option Elab.async false
set_option linter.all false
set_option maxRecDepth 100000
set_option maxHeartbeats 8000000
namespace K28
open PySem PySem.Spec PyProof.Rows L2 Gd
def flD : Option Bool → PyData
  | none => .none
  | some b => .bool b
def kvF (fs : List (Int × Option Bool)) : List (Key × V) := fs.map fun p => (Sum.inl p.1, fl p.2)
def dF (fs : List (Int × Option Bool)) : PyData := .dict (fs.map fun p => (.int p.1, flD p.2))
section
variable {X : Cx} {pins : List (Addr × Obj)} {σ : L2.St} {H : Hp} {s : Shared}
theorem flags_read {h : Heap} : ∀ (fs : List (Int × Option Bool)) (vs : List (Key × Value)) (zs : List DictEntry), KV (kvF fs) vs → Pairs (mixKind X.prog X.w) zs vs →
    ReadsAll h (zs.map fun x => x.key) (fs.map fun p => .int p.1) [] ∧ ReadsAll h (zs.map fun x => x.val) (fs.map fun p => flD p.2) []
  | [], vs, zs, kv, ps => by
    cases kv
    cases ps
    exact ⟨.nil, .nil⟩
  | p :: fs, vs, zs, kv, ps => by
    cases kv with
    | @cons _ q _ _ r0 rest =>
    obtain ⟨qk, qv⟩ := q
    obtain ⟨rk, rv⟩ := r0
    dsimp only at rk rv
    subst rk
    cases zs with
    | nil => cases ps
    | cons z zs =>
    cases ps with
    | cons p1 p2 p3 =>
    obtain ⟨a, b⟩ := flags_read (h := h) fs _ zs rest p3
    obtain ⟨tk, ek⟩ : ∃ tk, z.key = .int p.1 tk := by
      have p1 : keyIs (Sum.inl p.1) z.key = true := p1
      rcases keyIs_shape p1 with ⟨i, t, h1, h2⟩ | ⟨y, t, h1, h2⟩
      · cases h1
        exact ⟨t, h2⟩
      · cases h1
    have rd : Reads h z.val (flD p.2) [] := by
      rw [p2]
      cases e : p.2 with
      | none =>
        rw [e] at rv
        cases rv
        exact .none
      | some b =>
        rw [e] at rv
        cases rv
        exact .bool b
    refine ⟨?_, ?_⟩
    · show ReadsAll h (z.key :: zs.map fun x => x.key) (.int p.1 :: fs.map fun p => .int p.1) ([] ++ [])
      rw [ek]
      exact .cons (.int p.1 tk) a
    · show ReadsAll h (z.val :: zs.map fun x => x.val) (flD p.2 :: fs.map fun p => flD p.2) ([] ++ [])
      exact .cons rd b
/-- repr of (t, d), t a tuple of tuples, d a dict of flags -/
def rReprF (K : PySem.W.Frag) : List V → Hp → VK → Prop := fun xs H Q => ∃ (t a d : Addr) (da : PyData) (fs : List (Int × Option Bool)), xs = [.ref t] ∧ SqT K H t [.ref a, .ref d] ∧ Dp K H (.ref a) da ∧ tupOnly da = true ∧ H d = some (.dK (kvF fs)) ∧
  (PyData.tuple [da, dF fs]).showable = true ∧ (PyData.tuple [da, dF fs]).shown.length ≤ sizeLine ∧ (PyData.tuple [da, dF fs]).depth ≤ 60 ∧ Q (.str (PyData.tuple [da, dF fs]).shown) H
theorem call_reprF (g : Free X.A) (hu : X.A.units + 64 < cLine) : CallR X (.builtin "repr") (rReprF X.K) := by
  intro pins s σ H xs us Q I r h
  obtain ⟨t, a, d, da, fs, rfl, ht, hda, ho, ed, hs, hz, hdp, q⟩ := h
  obtain ⟨u, rfl, ru⟩ := r.one
  cases ru
  obtain ⟨its, rv, pl, _⟩ := I.tuple ht
  obtain ⟨u1, u2, rfl, r1, r2⟩ := vals2 rv
  cases r2
  obtain ⟨as, rd, hn⟩ := Dd.reads I da (.ref a) u1 (Dd.ofDp (N := fun _ => False) da ho hda) r1
  obtain ⟨gm, vs, kv, o, es, ep, hob, ex, hdt, ks, ps, _⟩ := dk_reads I ed
  obtain ⟨k1, k2⟩ := flags_read (X := X) (h := s.heap) fs vs es.toList kv ps
  have rdd : Reads s.heap (.ref d) (dF fs) (d :: [] ++ []) := .dict hob ex.1 hdt (by rw [List.map_map]; exact k1) (by rw [List.map_map]; exact k2)
  obtain ⟨o2, ho2, hc2, n2, hd2⟩ := pl
  have R : Reads s.heap (.ref t) (.tuple [da, dF fs]) (as ++ ((d :: [] ++ []) ++ [])) := .tuple ho2 hc2 hd2 (.cons rd (.cons rdd .nil))
  refine repr_of_reads' R hs (fun _ m => ?_) g (by omega) (fun _ _ e => e) (fun h' u tk k => ⟨.str _, H, I.kept k, ⟨u, rfl⟩, q⟩) hz
  rcases List.mem_append.mp m with m | m
  · exact hn m
  · simp only [List.cons_append, List.nil_append, List.append_nil, List.mem_singleton] at m
    rw [← m] at gm
    simp at gm
end
end K28
end

section
set_option Elab.async false
set_option linter.all false
set_option maxRecDepth 100000
set_option maxHeartbeats 8000000
namespace K28
open PySem PySem.Spec PyProof.Rows L2 Gd
def flag : Nat → Option Bool
  | 0 => some true
  | 1 => some false
  | _ => none
theorem code_flag {k : Nat} (h : k < 4) : code k = if k = 3 then none else some (flag k) := by
  have : k = 0 ∨ k = 1 ∨ k = 2 ∨ k = 3 := by omega
  rcases this with e | e | e | e <;> subst e <;> rfl
def fsOf (row ns : List Nat) : List (Int × Option Bool) := ns.map fun k => (((k : Nat) : Int), flag (row.getD k 9))
theorem val_fs (row : List Nat) (n : Nat) : ∀ ns : List Nat, valV (kvF (fsOf row ns)) (Sum.inl ((n : Nat) : Int)) = if n ∈ ns then some (fl (flag (row.getD n 9))) else none
  | [] => rfl
  | k :: ns => by
    have ih := val_fs row n ns
    show valV ((Sum.inl ((k : Nat) : Int), fl (flag (row.getD k 9))) :: kvF (fsOf row ns)) _ = _
    by_cases e : k = n
    · rw [valV_pos (by rw [e]), if_pos (by rw [e]; exact List.mem_cons_self ..), e]
    · rw [valV_neg (fun q => e (by
        have := Sum.inl.inj q
        omega)), ih]
      by_cases m : n ∈ ns
      · rw [if_pos m, if_pos (List.mem_cons_of_mem _ m)]
      · rw [if_neg m, if_neg (fun q => by
          rcases List.mem_cons.mp q with q | q
          · exact e q.symm
          · exact m q)]
theorem merge_new : ∀ (ns acc : List Nat) (row : List Nat), (acc ++ ns).Nodup → mergeK (kvF (fsOf row acc)) (kvF (fsOf row ns)) = kvF (fsOf row (acc ++ ns))
  | [], acc, row, _ => by rw [List.append_nil]; rfl
  | k :: ns, acc, row, h => by
    have nk : k ∉ acc := fun m => by
      have := List.nodup_append.mp h
      exact this.2.2 k m k (List.mem_cons_self ..) rfl
    have e : putK (kvF (fsOf row acc)) (Sum.inl ((k : Nat) : Int)) (fl (flag (row.getD k 9))) = kvF (fsOf row (acc ++ [k])) := by
      rw [putK_new _ (by rw [val_fs, if_neg nk])]
      unfold fsOf kvF
      rw [List.map_append, List.map_append]
      rfl
    show mergeK (putK (kvF (fsOf row acc)) (Sum.inl ((k : Nat) : Int)) (fl (flag (row.getD k 9)))) (kvF (fsOf row ns)) = _
    rw [e, merge_new ns (acc ++ [k]) row (by rw [List.append_assoc]; exact h), List.append_assoc]
    rfl
theorem paired_snoc {α β : Type} {R : α → β → Prop} : ∀ {xs : List α} {ys : List β} {x : α} {y : β}, Paired R xs ys → R x y → Paired R (xs ++ [x]) (ys ++ [y])
  | _, _, _, _, .nil, h => .cons h .nil
  | _, _, _, _, .cons a b, h => .cons a (paired_snoc b h)
theorem paired_mono {α β : Type} {R S : α → β → Prop} : ∀ {xs : List α} {ys : List β}, Paired R xs ys → (∀ x y, R x y → S x y) → Paired S xs ys
  | _, _, .nil, _ => .nil
  | _, _, .cons a b, h => .cons (h _ _ a) (paired_mono b h)
abbrev sPen : Stmt := topS 8
theorem scPen : FnScope ["_law_script"] ["_law_script"] (defScope sPen) := ⟨rfl, rfl, rfl, by decide +kernel, rfl, by decide +kernel, by decide +kernel⟩
def spPen (K : PySem.W.Frag) : Sp := fun vs H Q _ => ∃ (a : Addr) (ns : List Int), vs = [.ref a] ∧ SqL K H a (ns.map V.int) ∧ ns.length ≤ 63 ∧ ∀ (l c : Addr) (H' : Hp), Same H H' → H l = none → H c = none → PenD H' l c 0 → Q (.ref l) H'
abbrev sTold : Stmt := topS 15
abbrev nTold : List Str := ["_law_row", "_law_back", "_law_numbers", "_law_words", "_law_k"]
theorem scTold : FnScope nTold ["_law_row", "_law_back"] (defScope sTold) := ⟨rfl, rfl, rfl, by decide +kernel, rfl, by decide +kernel, by decide +kernel⟩
def nums (row : List Nat) : List Nat := (List.range row.length).filter fun k => decide (row.getD k 9 ≠ 3)
def spTold (K : PySem.W.Frag) : Sp := fun vs H Q _ => ∃ (b : Addr) (row : List Nat) (bk : Nat), vs = [.ref b, .int ((bk : Nat) : Int)] ∧ SqT K H b (row.map wv) ∧ row.length ≤ 4 ∧ (∀ k ∈ row, k < 4) ∧ bk < 2 ∧
  ∀ (d : Addr) (H' : Hp) (ns : List Nat), Same H H' → H d = none → H' d = some (.dK (kvF (fsOf row ns))) → (ns = nums row ∨ ns = (nums row).reverse) → Q (.ref d) H'
section
variable {P : Program} {w : World} {K : PySem.W.Frag} {mg : Str → Option Value} {base : Heap} {f : Addr} {fd : FuncData}
theorem ok_pen (F : Fun K "_law_pen" "_law_pen" sPen f fd) (ml : mg "list" = none) : FnOk P w K mg base CX0 1 f fd ["_law_script"] (spPen K) := by
  refine F.ok scPen (fun vs H Q E h => ?_) (fun cdv A outer s H vs Q E hr h => ?_)
  · obtain ⟨a, ns, rfl, _⟩ := h
    rfl
  obtain ⟨a, ns, rfl, ha, hn, q⟩ := h
  have nd := scPen.nd
  refine ⟨_, pss_one (ps_ret (pe_disp (pps_cons pe_str (pe_callTy call_list_of (by rfl) ml (by decide +kernel) (pa_cons (pe_slice sl_list (pv 0) po_none (po_some pe_int)) pa_nil)) (pps_cons pe_str pe_int (pps_cons pe_str pe_int pps_nil))) (by rfl) (by rfl) (fun z => by cases z) (by decide))), ?_⟩
  refine fun l nl => ?_
  have s1 := new_same (o := .dK []) nl
  refine ⟨_, rfl, _, rfl, a, _, rfl, s1.seq ha, fun b nb => ?_⟩
  have ec : cutV (ns.map V.int) none (some (63 : Int)) = ns.map V.int := by
    unfold cutV
    rw [HT.sIx_none, show (63 : Int) = ((63 : Nat) : Int) from rfl, HT.sIx_nat, List.drop_zero, Nat.sub_zero, Nat.min_eq_right (by rw [List.length_map]; exact hn), List.take_length]
  rw [ec]
  have s2 := s1.trans (new_same (o := .lst (ns.map V.int)) nb)
  refine ⟨b, _, rfl, .inl (SqL.of upd_same), fun c nc => ?_⟩
  have j3 := new_same (o := .lst (ns.map V.int)) nc
  have s3 := s2.trans j3
  have el := ((new_same (o := .lst (ns.map V.int)) nb).trans j3) _ _ (upd_same (H := H) (a := l) (o := .dK []))
  have el0 := (new_same (o := .lst (ns.map V.int)) nb) _ _ (upd_same (H := H) (a := l) (o := .dK []))
  have nlc : c ≠ l := fun e => by
    rw [e, el0] at nc
    cases nc
  refine ⟨el, kvP c 0 0, rfl, by show 3 ≤ 15; decide, ?_⟩
  refine q l c _ (own_same nl s3) nl (s2.free nc) ⟨ns, 0, 0, ?_, ?_, hn, by omega, by omega⟩
  · rw [upd_same]
    rfl
  · rw [upd_ne nlc]
    exact upd_same
theorem ok_told (F : Fun K "_law_told" "_law_told" sTold f fd) (mr : mg "range" = none) (mn : mg "len" = none) (md : mg "dict" = none) : FnOk P w K mg base CX0 1 f fd ["_law_row", "_law_back"] (spTold K) := by
  refine F.ok scTold (fun vs H Q E h => ?_) (fun cdv A outer s H vs Q E hr h => ?_)
  · obtain ⟨b, row, bk, rfl, _⟩ := h
    rfl
  obtain ⟨b, row, bk, rfl, hb, l4, h4, bk2, q⟩ := h
  have nd := scTold.nd
  have hu := hu_of hr
  have zl : sizeLine = 16777216 := rfl
  refine ⟨_, pss_cons (ps_setLc (i := 2) (own := [("_law_k", 4)]) (g := gName 4) rfl nd rfl rfl (by rfl) (pi_range1 (by rfl) mr (pa_cons (pe_callB call_len_seq (by rfl) mn PySem.boot_len (pa_cons (pv 0) pa_nil)) pa_nil)) (blkOk_by (N := nTold) (sc := defScope sTold) (by decide +kernel))
        (fun _ _ _ _ _ => pg_name (i := 4) nd rfl (Or.inl rfl))
        (fun _ _ _ _ _ => pts_one (pt_cmpR op_ne (pe_ix (r := rIxT K) ix_tup (pv 0) (pv 4) (fun _ _ => rfl)) pe_str (nomark _))) (fun _ _ _ _ _ => pv 4))
    (pss_cons (ps_set (i := 3) nd rfl (.inr rfl) (pe_disp (pps_cons pe_str pe_bl (pps_cons pe_str pe_bl (pps_cons pe_str pe_non pps_nil))) (by rfl) (by rfl) (fun z => by cases z) (by decide)))
    (pss_one (ps_ret (pe_callTy (call_dictP rfl) (by rfl) md (by decide +kernel) (pa_cons
      (pe_lc (own := [("_law_k", 4)]) (g := gName 4) (tt := tYes) rfl nd (pi_list (pe_ix ix_list (pe_lst (pa_cons (pv 2) (pa_cons (pe_revL (pv 2)) pa_nil))) (pv 1) (fun _ _ => rfl))) (blkOk_by (N := nTold) (sc := defScope sTold) (by decide +kernel))
        (fun _ _ _ _ _ => pg_name (i := 4) nd rfl (Or.inl rfl)) (fun _ _ _ _ _ => pts_nil)
        (fun _ _ _ _ _ => pe_tup (pa_cons (pv 4) (pa_cons (pe_dget hu (pv 3) (pe_ix (r := rIxT K) ix_tup (pv 0) (pv 4) (fun _ _ => rfl)) (fun _ _ => rfl)) pa_nil)))) pa_nil))))), ?_⟩
  have step1 : ∀ (i : Nat), i < row.length → ∃ k, row[i]? = some k ∧ k < 4 ∧ row.getD i 9 = k := fun i hi => by
    obtain ⟨k, ek⟩ := at_of (xs := row) (i := i) rfl hi
    exact ⟨k, ek, h4 k (List.mem_of_getElem? ek), by rw [List.getD_eq_getElem?_getD, ek]; rfl⟩
  refine ⟨_, rfl, b, _, rfl, .inr hb, _, rfl, by omega, by rw [List.length_map]; omega, fun D nD => ?_⟩
  refine lc_it walk_upto (fun i H1 => Same H H1 ∧ H1 D = some (.lst (((List.range i).filter fun k => decide (row.getD k 9 ≠ 3)).map fun k => V.int ((k : Nat) : Int)))) ⟨new_same nD, upd_same⟩ (fun _ _ _ _ => trivial) ?_ ?_
  · rintro i x H1 H2 hi ⟨s1, eD⟩ ⟨rfl, rfl⟩
    rw [List.length_map, Int.toNat_natCast] at hi
    obtain ⟨k, ek, k4, gk⟩ := step1 i hi
    obtain ⟨w0, w1, w3⟩ := wd_eq k4
    refine ⟨rfl, ?_⟩
    refine ⟨_, rfl, _, rfl, b, _, _, wv k, rfl, rfl, same_tup s1 hb, wv_at ek, rfl, _, rfl, ?_⟩
    rw [w3]
    by_cases z : k = 3
    · rw [decide_eq_true z]
      refine iteF ?_
      refine ⟨s1, ?_⟩
      rw [eD, List.range_succ, List.filter_append]
      simp [ek, z]
    · rw [decide_eq_false z]
      refine iteT ?_
      refine ⟨_, rfl, ?_⟩
      refine ⟨_, eD, ?_, own_same nD s1, ?_⟩
      · rw [List.length_map]
        have := List.length_filter_le (fun k => decide (row.getD k 9 ≠ 3)) (List.range i)
        rw [List.length_range] at this
        omega
      · rw [upd_same, List.range_succ, List.filter_append, List.map_append]
        simp [ek, z]
  rintro H1 ⟨s1, eD⟩
  rw [List.length_map, Int.toNat_natCast] at eD
  have eD : H1 D = some (.lst ((nums row).map fun k => V.int ((k : Nat) : Int))) := eD
  have ln : (nums row).length ≤ 4 := by
    have := List.length_filter_le (fun k => decide (row.getD k 9 ≠ 3)) (List.range row.length)
    rw [List.length_range] at this
    exact Nat.le_trans this l4
  refine fun wa nwa => ?_
  have j2 := new_same (o := .dK []) nwa
  refine ⟨upd_same, [(Sum.inr "held", .bl true), (Sum.inr "not held", .bl false), (Sum.inr "faulted", .non)], rfl, by show 3 ≤ 15; decide, ?_⟩
  have s2 := s1.trans (own_same nwa j2 : Same H1 (upd (upd H1 wa (.dK [])) wa (.dK (mergeK [] [(Sum.inr "held", .bl true), (Sum.inr "not held", .bl false), (Sum.inr "faulted", .non)]))))
  have eD2 := (own_same nwa j2 : Same H1 (upd (upd H1 wa (.dK [])) wa (.dK (mergeK [] [(Sum.inr "held", .bl true), (Sum.inr "not held", .bl false), (Sum.inr "faulted", .non)])))) _ _ eD
  have ewa : upd (upd H1 wa (.dK [])) wa (.dK (mergeK [] [(Sum.inr "held", .bl true), (Sum.inr "not held", .bl false), (Sum.inr "faulted", .non)])) wa = some (.dK [(Sum.inr "held", .bl true), (Sum.inr "not held", .bl false), (Sum.inr "faulted", .non)]) := upd_same
  generalize upd (upd H1 wa (.dK [])) wa (.dK (mergeK [] [(Sum.inr "held", .bl true), (Sum.inr "not held", .bl false), (Sum.inr "faulted", .non)])) = H2 at *
  refine ⟨_, rfl, _, rfl, D, _, rfl, SqL.of eD2, fun p np => ?_⟩
  have j3 := new_same (o := .lst ((nums row).map fun k => V.int ((k : Nat) : Int)).reverse) np
  refine ⟨(by show 2 ≤ sizeLine; decide), fun qq nqq => ?_⟩
  have j4 := new_same (o := .lst [.ref D, .ref p]) nqq
  have j34 := j3.trans j4
  obtain ⟨zz, ns, ez, ons, ezz⟩ : ∃ (zz : Addr) (ns : List Nat), atI [V.ref D, V.ref p] ((bk : Nat) : Int) = some (.ref zz) ∧ (ns = nums row ∨ ns = (nums row).reverse) ∧
      upd (upd H2 p (.lst ((nums row).map fun k => V.int ((k : Nat) : Int)).reverse)) qq (.lst [.ref D, .ref p]) zz = some (.lst (ns.map fun k => V.int ((k : Nat) : Int))) := by
    have : bk = 0 ∨ bk = 1 := by omega
    rcases this with e | e
    · rw [e]
      exact ⟨D, nums row, atI_nat rfl, .inl rfl, j34 _ _ eD2⟩
    · rw [e]
      refine ⟨p, (nums row).reverse, atI_nat rfl, .inr rfl, ?_⟩
      rw [List.map_reverse]
      exact j4 _ _ upd_same
  have hns : ns.Nodup ∧ ns.length ≤ 4 ∧ ∀ k ∈ ns, k < row.length ∧ row.getD k 9 ≠ 3 := by
    have a : (nums row).Nodup := List.Pairwise.filter _ List.nodup_range
    have m : ∀ k ∈ nums row, k < row.length ∧ row.getD k 9 ≠ 3 := fun k hk => by
      obtain ⟨h1, h2⟩ := List.mem_filter.mp hk
      exact ⟨List.mem_range.mp h1, of_decide_eq_true h2⟩
    rcases ons with e | e
    · rw [e]
      exact ⟨a, ln, m⟩
    · rw [e]
      exact ⟨List.pairwise_reverse.mpr (a.imp fun h => Ne.symm h), by rw [List.length_reverse]; exact ln, fun k hk => m k (List.mem_reverse.mp hk)⟩
  have ewa4 := j34 _ _ ewa
  have hb4 : SqT K (upd (upd H2 p (.lst ((nums row).map fun k => V.int ((k : Nat) : Int)).reverse)) qq (.lst [.ref D, .ref p])) b (row.map wv) := same_tup (s2.trans j34) hb
  refine ⟨_, rfl, qq, _, _, .ref zz, rfl, rfl, SqL.of upd_same, ez, zz, rfl, ⟨_, SqL.of ezz⟩, fun D2 nD2 => ?_⟩
  have s4 := s2.trans j34
  have nD20 := s4.free nD2
  generalize upd (upd H2 p (.lst ((nums row).map fun k => V.int ((k : Nat) : Int)).reverse)) qq (.lst [.ref D, .ref p]) = H4 at *
  refine lc_it walk_list (fun i H6 => Same H4 H6 ∧ ∃ ps : List Addr, H6 D2 = some (.lst (ps.map V.ref)) ∧ ps.length = i ∧ Paired (fun p kv => SqT K H6 p [kV kv.1, kv.2]) ps (kvF (fsOf row (ns.take i)))) ⟨new_same nD2, [], upd_same, rfl, .nil⟩ (fun i H6 _ h => SqL.of (h.1 _ _ ezz)) ?_ ?_
  · rintro i x H6 H7 hi ⟨s6, ps, eps, lps, hps⟩ ⟨rfl, ex⟩
    obtain ⟨r, er, rfl⟩ := map_at ex
    obtain ⟨hr1, hr3⟩ := hns.2.2 r (List.mem_of_getElem? er)
    obtain ⟨k, ek, k4, gk⟩ := step1 r hr1
    rw [gk] at hr3
    have key : DGet H7 wa (wv k) (some (fl (flag k))) := by
      have z := DGet.k (k := Sum.inr (wd k)) (s6 _ _ ewa4)
      have : k = 0 ∨ k = 1 ∨ k = 2 := by omega
      rcases this with e | e | e <;> (subst e; exact z)
    refine ⟨rfl, ?_⟩
    refine ⟨_, rfl, _, rfl, _, rfl, _, rfl, b, _, _, wv k, rfl, rfl, same_tup s6 hb4, wv_at ek, wa, fl (flag k), rfl, key, (by show 2 ≤ sizeLine; decide), fun t nt => ?_⟩
    have jt := new_same (o := .tup [.int ((r : Nat) : Int), fl (flag k)]) nt
    have T := Tups.upd_lst (K := K) (ys := ps.map V.ref ++ [.ref t]) (jt _ _ eps)
    have len4 : ps.length ≤ 4 := by
      rw [List.length_map] at hi
      have := hns.2.1
      omega
    refine ⟨_, jt _ _ eps, by rw [List.length_map]; omega, own_same nD2 (s6.trans jt), ps ++ [t], ?_, by simp [lps], ?_⟩
    · rw [upd_same, List.map_append]
      rfl
    · rw [take_at er]
      have e2 : kvF (fsOf row (ns.take i ++ [r])) = kvF (fsOf row (ns.take i)) ++ [(Sum.inl ((r : Nat) : Int), fl (flag k))] := by
        unfold kvF fsOf
        rw [List.map_append, List.map_append]
        show _ ++ [(Sum.inl ((r : Nat) : Int), fl (flag (row.getD r 9)))] = _
        rw [gk]
      rw [e2]
      exact paired_snoc (paired_mono hps fun p kv h => T _ _ (same_tup jt h)) (T _ _ (SqT.of upd_same))
  rintro H6 ⟨s6, ps, eps, lps, hps⟩
  rw [List.length_map, List.take_length] at hps
  refine ⟨D2, ps, _, rfl, SqL.of eps, hps, fun d nd => ?_⟩
  have em : mergeK [] (kvF (fsOf row ns)) = kvF (fsOf row ns) := by
    have := merge_new ns [] row (by simpa using hns.1)
    rw [List.nil_append] at this
    exact this
  rw [em]
  exact q d _ ns (own_same ((s4.trans s6).free nd) (s4.trans s6)) ((s4.trans s6).free nd) upd_same ons
end
end K28
end

section
set_option Elab.async false
set_option linter.all false
set_option maxRecDepth 100000
set_option maxHeartbeats 8000000
namespace K28
open PySem PySem.Spec PyProof.Rows L2 Gd
def okS (x : Str) : Prop := (x.cps.toList.all fun c => decide (c < 16 ^ 8)) = true ∧ x.cps.size ≤ 8
theorem nm_short {x : Str} (h : nm x) : okS x := by
  unfold okS
  rcases h with e | e | e | e <;> rw [e] <;> decide +kernel
theorem sgn_short (k : Nat) : okS (sgn k) := by
  unfold okS
  match k with
  | 0 => decide +kernel
  | 1 => decide +kernel
  | 2 => decide +kernel
  | k + 3 =>
    have e : sgn (k + 3) = "over" := by
      unfold sgn signs
      match k with
      | 0 => rfl
      | k + 1 => rfl
    rw [e]
    decide +kernel
theorem o_number : okS "number" := by unfold okS; decide +kernel
theorem o_cell : okS "cell" := by unfold okS; decide +kernel
theorem o_lacking : okS "lacking" := by unfold okS; decide +kernel
theorem o_word {w : Str} (h : w = "unlike" ∨ w = "below" ∨ w = "alike") : okS w := by
  unfold okS
  rcases h with e | e | e <;> rw [e] <;> decide +kernel
theorem i30 {i : Int} (h : i.natAbs ≤ 10 ^ 30) : i.natAbs ≤ 10 ^ 40 := Nat.le_trans h (by decide)
theorem pa_size : ∀ (p : Pa), fit p → (pd p).leavesShort 100 = true ∧ (pd p).showable = true ∧ (pd p).weight ≤ 300 * cntP p ∧ (pd p).depth ≤ dep p
  | .num i, h => by
    obtain ⟨e1, e2, e3⟩ := int_shown (i30 h)
    refine ⟨?_, ?_, ?_, ?_⟩
    · simp only [pd, PyData.leavesShort, PyData.leavesShortAll, Bool.and_true, Bool.and_eq_true, decide_eq_true_eq]
      exact ⟨o_number.1, e1⟩
    · simp only [pd, PyData.showable, PyData.showableAll, Bool.and_true, Bool.true_and, decide_eq_true_eq]
      exact e2
    · have := o_number.2
      simp only [pd, PyData.weight, PyData.weightAll, cntP] at e3 ⊢
      omega
    · simp only [pd, PyData.depth, PyData.depthAll, dep]
      omega
  | .cel a b, h => by
    refine ⟨?_, ?_, ?_, ?_⟩
    · simp only [pd, PyData.leavesShort, PyData.leavesShortAll, Bool.and_true, Bool.and_eq_true, decide_eq_true_eq]
      exact ⟨o_cell.1, (nm_short h.1).1, (nm_short h.2).1⟩
    · simp only [pd, PyData.showable, PyData.showableAll, Bool.and_true]
    · have := o_cell.2
      have := (nm_short h.1).2
      have := (nm_short h.2).2
      simp only [pd, PyData.weight, PyData.weightAll, cntP]
      omega
    · simp only [pd, PyData.depth, PyData.depthAll, dep]
      omega
  | .bin k l r, h => by
    obtain ⟨a1, a2, a3, a4⟩ := pa_size l h.1
    obtain ⟨b1, b2, b3, b4⟩ := pa_size r h.2
    refine ⟨?_, ?_, ?_, ?_⟩
    · simp only [pd, PyData.leavesShort, PyData.leavesShortAll, a1, b1, Bool.and_true, decide_eq_true_eq]
      exact (sgn_short k).1
    · simp only [pd, PyData.showable, PyData.showableAll, a2, b2, Bool.and_true]
    · have := (sgn_short k).2
      simp only [pd, PyData.weight, PyData.weightAll, cntP]
      omega
    · simp only [pd, PyData.depth, PyData.depthAll, dep]
      omega
theorem sv_size (s : Sv) (h : fitS s) (hw : wordS s) : (sd s).leavesShort 100 = true ∧ (sd s).showable = true ∧ (sd s).weight ≤ 300 * cntS s + 100 ∧ (sd s).depth ≤ sdep s + 1 := by
  cases s with
  | one p =>
    obtain ⟨a1, a2, a3, a4⟩ := pa_size p h
    refine ⟨?_, ?_, ?_, ?_⟩
    · simp only [sd, PyData.leavesShort, PyData.leavesShortAll, a1, Bool.and_true, decide_eq_true_eq]
      exact o_lacking.1
    · simp only [sd, PyData.showable, PyData.showableAll, a2, Bool.and_true]
    · have := o_lacking.2
      simp only [sd, PyData.weight, PyData.weightAll, cntS]
      omega
    · simp only [sd, PyData.depth, PyData.depthAll, sdep]
      omega
  | two w p q =>
    obtain ⟨a1, a2, a3, a4⟩ := pa_size p h.2.1
    obtain ⟨b1, b2, b3, b4⟩ := pa_size q h.2.2
    refine ⟨?_, ?_, ?_, ?_⟩
    · simp only [sd, PyData.leavesShort, PyData.leavesShortAll, a1, b1, Bool.and_true, decide_eq_true_eq]
      exact (o_word hw).1
    · simp only [sd, PyData.showable, PyData.showableAll, a2, b2, Bool.and_true]
    · have := (o_word hw).2
      simp only [sd, PyData.weight, PyData.weightAll, cntS]
      omega
    · simp only [sd, PyData.depth, PyData.depthAll, sdep]
      omega
theorem svs_size : ∀ ss : List Sv, (∀ s ∈ ss, fitS s ∧ wordS s ∧ cntS s ≤ 30 ∧ sdep s ≤ 5) → PyData.leavesShortAll 100 (ss.map sd) = true ∧ PyData.showableAll (ss.map sd) = true ∧ PyData.weightAll (ss.map sd) ≤ 9200 * ss.length ∧ PyData.depthAll (ss.map sd) ≤ 6 ∧ tupOnlyAll (ss.map sd) = true
  | [], _ => ⟨rfl, rfl, Nat.zero_le _, Nat.zero_le _, rfl⟩
  | s :: ss, h => by
    obtain ⟨a1, a2, a3, a4, a5⟩ := svs_size ss fun t ht => h t (by simp [ht])
    obtain ⟨f, w, c, d⟩ := h s (by simp)
    obtain ⟨b1, b2, b3, b4⟩ := sv_size s f w
    have to : tupOnly (sd s) = true := by
      cases s <;> (simp only [sd, tupOnly, tupOnlyAll, only_pd, Bool.and_true, Bool.true_and, decide_eq_true_eq]; simp)
    refine ⟨?_, ?_, ?_, ?_, ?_⟩
    · simp only [List.map_cons, PyData.leavesShortAll, a1, b1, Bool.and_true]
    · simp only [List.map_cons, PyData.showableAll, a2, b2, Bool.and_true]
    · simp only [List.map_cons, PyData.weightAll, List.length_cons]
      omega
    · simp only [List.map_cons, PyData.depthAll]
      omega
    · simp only [List.map_cons, tupOnlyAll, to, a5, Bool.and_true]
end K28
end

section
set_option Elab.async false
set_option linter.all false
set_option maxRecDepth 100000
set_option maxHeartbeats 8000000
namespace K28
open PySem PySem.Spec PyProof.Rows L2 Gd
theorem flD_size (b : Option Bool) : (flD b).leavesShort 100 = true ∧ (flD b).showable = true ∧ (flD b).weight = 0 ∧ (flD b).depth = 0 := by
  match b with
  | none => exact ⟨rfl, rfl, rfl, rfl⟩
  | some true => exact ⟨rfl, rfl, rfl, rfl⟩
  | some false => exact ⟨rfl, rfl, rfl, rfl⟩
theorem kv_size : ∀ fs : List (Int × Option Bool), (∀ p ∈ fs, p.1.natAbs ≤ 10 ^ 40) → PyData.leavesShortKv 100 (fs.map fun p => (.int p.1, flD p.2)) = true ∧ PyData.showableKv (fs.map fun p => (.int p.1, flD p.2)) = true ∧ PyData.weightKv (fs.map fun p => (.int p.1, flD p.2)) ≤ 300 * fs.length ∧ PyData.depthKv (fs.map fun p => (.int p.1, flD p.2)) = 0
  | [], _ => ⟨rfl, rfl, Nat.zero_le _, rfl⟩
  | p :: fs, h => by
    obtain ⟨a1, a2, a3, a4⟩ := kv_size fs fun q hq => h q (by simp [hq])
    obtain ⟨b1, b2, b3, b4⟩ := flD_size p.2
    obtain ⟨e1, e2, e3⟩ := int_shown (h p (by simp))
    refine ⟨?_, ?_, ?_, ?_⟩
    · simp only [List.map_cons, PyData.leavesShortKv, a1, b1, Bool.and_true, PyData.leavesShort, decide_eq_true_eq]
      exact e1
    · simp only [List.map_cons, PyData.showableKv, a2, b2, Bool.and_true, PyData.showable, decide_eq_true_eq]
      exact e2
    · simp only [List.map_cons, PyData.weightKv, List.length_cons, b3]
      omega
    · simp only [List.map_cons, PyData.depthKv, a4, b4, PyData.depth]
      omega
theorem all_size {ss : List Sv} {fs : List (Int × Option Bool)} (h : ∀ s ∈ ss, fitS s ∧ wordS s ∧ cntS s ≤ 30 ∧ sdep s ≤ 5) (l4 : ss.length ≤ 4) (hf : ∀ p ∈ fs, p.1.natAbs ≤ 10 ^ 40) (f4 : fs.length ≤ 4) :
    (PyData.tuple [.tuple (ss.map sd), dF fs]).showable = true ∧ (PyData.tuple [.tuple (ss.map sd), dF fs]).shown.length ≤ sizeLine ∧ (PyData.tuple [.tuple (ss.map sd), dF fs]).depth ≤ 60 := by
  obtain ⟨a1, a2, a3, a4, a5⟩ := svs_size ss h
  obtain ⟨b1, b2, b3, b4⟩ := kv_size fs hf
  have hs := PyData.shown_le 100 (by decide) (.tuple [.tuple (ss.map sd), dF fs]) (by simp only [dF, PyData.leavesShort, PyData.leavesShortAll, a1, b1, Bool.and_true])
  have hw : (PyData.tuple [.tuple (ss.map sd), dF fs]).weight ≤ 50000 := by
    simp only [dF, PyData.weight, PyData.weightAll]
    omega
  have zl : sizeLine = 16777216 := rfl
  refine ⟨by simp only [dF, PyData.showable, PyData.showableAll, a2, b2, Bool.and_true], by omega, ?_⟩
  simp only [dF, PyData.depth, PyData.depthAll, b4]
  omega
abbrev sLaw : Stmt := topS 16
abbrev nLaw : List Str := ["_law_script", "_law_pen_here", "_law_turn", "_law_cells", "_law_some", "_law_row", "_law_back", "_law_told_here", "_law_shown", "_law_found", "_law_k"]
theorem scLaw : FnScope nLaw ["_law_script"] (defScope sLaw) := ⟨rfl, rfl, rfl, by decide +kernel, rfl, by decide +kernel, by decide +kernel⟩
def spLaw (K : PySem.W.Frag) : Sp := fun vs H Q _ => ∃ (a : Addr) (ns : List Int), vs = [.ref a] ∧ SqL K H a (ns.map V.int) ∧ ns.length ≤ 63 ∧ ∀ H', Q (.bl true) H'
section
variable {P : Program} {w : World} {K : PySem.W.Frag} {mg : Str → Option Value} {base : Heap} {f fP fT fS fA fU fL fD : Addr} {fd dP dT dS dA dU dL dD : FuncData}
theorem ok_law (F : Fun K "law" "law" sLaw f fd) (mr : mg "range" = none) (mn : mg "len" = none) (mt : mg "tuple" = none) (mp : mg "repr" = none) (mi : mg "isinstance" = none) (mb : mg "bool" = none)
    (FP : Fun K "_law_pen" "_law_pen" sPen fP dP) (GP : FnOk P w K mg base CX0 1 fP dP ["_law_script"] (spPen K)) (bP : Binds K dP ["_law_script"] []) (gP : mg "_law_pen" = some (.ref fP))
    (FT : Fun K "_law_take" "_law_take" sTake fT dT) (GT : FnOk P w K mg base CX0 1 fT dT ["_law_pen_here", "_law_many"] spTake) (bT : Binds K dT ["_law_pen_here", "_law_many"] []) (gT : mg "_law_take" = some (.ref fT))
    (FS : Fun K "_law_sieve" "_law_sieve" sSieve fS dS) (GS : FnOk P w K mg base CX0 7 fS dS ["_law_pen_here", "_law_cells", "_law_room"] (spSieve K)) (bS : Binds K dS ["_law_pen_here", "_law_cells", "_law_room"] []) (gS : mg "_law_sieve" = some (.ref fS))
    (FA : Fun K "_law_all" "_law_all" sAll fA dA) (GA : FnOk P w K mg base CX0 1 fA dA ["_law_many"] spAll) (bA : Binds K dA ["_law_many"] []) (gA : mg "_law_all" = some (.ref fA))
    (FU : Fun K "_law_due" "_law_due" sDue fU dU) (GU : FnOk P w K mg base CX0 8 fU dU ["_law_some", "_law_row"] (spDue K)) (bU : Binds K dU ["_law_some", "_law_row"] []) (gU : mg "_law_due" = some (.ref fU))
    (FL : Fun K "_law_told" "_law_told" sTold fL dL) (GL : FnOk P w K mg base CX0 1 fL dL ["_law_row", "_law_back"] (spTold K)) (bL : Binds K dL ["_law_row", "_law_back"] []) (gL : mg "_law_told" = some (.ref fL))
    (FD : Fun K "dropped" "dropped" sDrop fD dD) (GD : FnOk P w K mg base CX0 8 fD dD ["sieves", "seen"] (spDrop K)) (bD : Binds K dD ["sieves", "seen"] []) (kD : KBinds K dD ["sieves", "seen"] ["seen", "sieves"] back2 back2) (gD : mg "dropped" = some (.ref fD)) :
    FnG P w K mg base CX0 9 f fd ["_law_script"] (spLaw K) := by
  refine okG F scLaw (fun vs H Q E h => ?_) (fun cv A out s H vs Q E gd hr h => ?_)
  · obtain ⟨a, ns, rfl, _⟩ := h
    rfl
  obtain ⟨a, ns, rfl, ha, hn, q⟩ := h
  have nd := scLaw.nd
  have zl : sizeLine = 16777216 := rfl
  have hr1 := hr.mono (show 1 ≤ 8 by decide)
  have hr7 := hr.mono (show 7 ≤ 8 by decide)
  refine ⟨_, pss_cons (ps_set (i := 1) nd rfl (.inr rfl) (pe_call GP hr1 (by rfl) gP FP.kp bP .nil pass0 (pa_cons (pv 0) pa_nil)))
    (pss_cons (ps_for PassesOwn.never rfl (pi_range1 (by rfl) mr (pa_cons pe_int pa_nil)) (pg_name (i := 2) nd rfl (.inl rfl))
      (pss_cons (ps_set (i := 3) nd rfl (.inr rfl) (pe_slice sl_list (pe_lst (pa_cons (pe_tup (pa_cons pe_str (pa_cons pe_str pa_nil))) (pa_cons (pe_tup (pa_cons pe_str (pa_cons pe_str pa_nil))) (pa_cons (pe_tup (pa_cons pe_str (pa_cons pe_str pa_nil))) pa_nil))))
          po_none (po_some (pe_call GT hr1 (by rfl) gT FT.kp bT .nil pass0 (pa_cons (pv 1) (pa_cons pe_int pa_nil))))))
      (pss_cons (ps_set (i := 4) nd rfl (.inl rfl) (pe_tupleOf (by rfl) mt (pe_lc (own := [("_law_k", 10)]) (g := gName 10) (tt := tYes) rfl nd
          (pi_range1 (by rfl) mr (pa_cons (pe_ix ix_list (pe_lst (pa_cons pe_int (pa_cons pe_int (pa_cons pe_int (pa_cons pe_int (pa_cons pe_int pa_nil)))))) (pe_call GT hr1 (by rfl) gT FT.kp bT .nil pass0 (pa_cons (pv 1) (pa_cons pe_int pa_nil))) (fun _ _ => rfl)) pa_nil))
          (blkOk_by (N := nLaw) (sc := defScope sLaw) (by decide +kernel)) (fun _ _ _ _ _ => pg_name (i := 10) nd rfl (Or.inl rfl)) (fun _ _ _ _ _ => pts_nil)
          (fun _ _ _ _ _ => pe_call GS hr7 (by rfl) gS FS.kp bS .nil pass0 (pa_cons (pv 1) (pa_cons (pv 3) (pa_cons pe_int pa_nil)))))))
      (pss_one (ps_for PassesOwn.never rfl (pi_list (pe_call GA hr1 (by rfl) gA FA.kp bA .nil pass0 (pa_cons (pe_callB call_len_seq (by rfl) mn PySem.boot_len (pa_cons (pv 4) pa_nil)) pa_nil))) (pg_name (i := 5) nd rfl (.inl rfl))
        (pss_one (ps_for PassesOwn.never rfl (pi_tup (pe_tup (pa_cons pe_int (pa_cons pe_int pa_nil)))) (pg_name (i := 6) nd rfl (.inl rfl))
          (pss_cons (ps_set (i := 7) nd rfl (.inl rfl) (pe_call GL hr1 (by rfl) gL FL.kp bL .nil pass0 (pa_cons (pv 5) (pa_cons (pv 6) pa_nil))))
          (pss_cons (ps_set (i := 8) nd rfl (.inl rfl) (pe_callB (call_reprF gd hr.units) (by rfl) mp (by decide +kernel) (pa_cons (pe_tup (pa_cons (pv 4) (pa_cons (pv 7) pa_nil))) pa_nil)))
          (pss_cons (ps_set (i := 9) nd rfl (.inl rfl) (pe_call GD hr (by rfl) gD FD.kp bD .nil pass0 (pa_cons (pv 4) (pa_cons (pv 7) pa_nil))))
          (pss_cons (ps_if (PW.pt (pw_or (pt_not (pt_val (pe_callB call_isi (by rfl) mi (by decide +kernel) (pa_cons (pv 9) (pa_cons (pe_bltn (v := .ty "bool") (by rfl) mb (by decide +kernel) rfl) pa_nil)))))
              (pw_or (pt_cmpR op_ne (pv 9) (pe_call GU hr (by rfl) gU FU.kp bU .nil pass0 (pa_cons (pv 4) (pa_cons (pv 5) pa_nil))) (nomark _))
              (pw_or1 (pt_cmpR op_ne (pe_callB (call_reprF gd hr.units) (by rfl) mp (by decide +kernel) (pa_cons (pe_tup (pa_cons (pv 4) (pa_cons (pv 7) pa_nil))) pa_nil)) (pv 8) (nomark _)))))) pss_never pss_nil)
          (pss_one (ps_if (pt_cmpR op_ne (pe_kw2 GD hr (by rfl) gD FD.kp kD pass0 (pk_cons (pv 7) (pk_cons (pv 4) pk_nil))) (pv 9) (nomark _)) pss_never pss_nil)))))))))))))
    (pss_one (ps_ret pe_bl))), ?_⟩
  refine ⟨_, rfl, a, ns, rfl, ha, hn, fun l c H1 s1 nl nc P1 => ?_⟩
  refine ⟨3, rfl, by decide, by decide, ?_⟩
  refine for_it walk_range (fun i σ H2 => PenD H2 l c (700 * (i : Nat)) ∧ ∃ y2 y3 y4 y5 y6 y7 y8 y9, σ = [some (.ref a), some (.ref l), y2, y3, y4, y5, y6, y7, y8, y9, none])
    ⟨P1.le (by omega), none, none, none, none, none, none, none, none, rfl⟩ (fun _ _ _ _ _ => trivial) ?_ ?_
  · rintro i x σ H2 H3 hi ⟨P2, y2, y3, y4, y5, y6, y7, y8, y9, rfl⟩ ⟨rfl, rfl⟩
    have hi3 : i < 3 := hi
    refine ⟨(by show 2 ≤ sizeLine; decide), fun t1 nt1 => ?_⟩
    have j1 := new_same (o := .tup [.str "a", .str "b"]) nt1
    refine ⟨(by show 2 ≤ sizeLine; decide), fun t2 nt2 => ?_⟩
    have j2 := new_same (o := .tup [.str "c", .str "d"]) nt2
    refine ⟨(by show 2 ≤ sizeLine; decide), fun t3 nt3 => ?_⟩
    have j3 := new_same (o := .tup [.str "a", .str "d"]) nt3
    refine ⟨(by show 3 ≤ sizeLine; decide), fun b nb => ?_⟩
    have j4 := new_same (o := .lst [.ref t1, .ref t2, .ref t3]) nb
    have P4 := P2.same (((j1.trans j2).trans j3).trans j4)
    have e1 := ((j2.trans j3).trans j4) _ _ (upd_same (H := H3) (a := t1) (o := .tup [.str "a", .str "b"]))
    have e2 := (j3.trans j4) _ _ (upd_same (a := t2) (o := .tup [.str "c", .str "d"]))
    have e3 := j4 _ _ (upd_same (a := t3) (o := .tup [.str "a", .str "d"]))
    have eb : upd (upd (upd (upd H3 t1 (.tup [.str "a", .str "b"])) t2 (.tup [.str "c", .str "d"])) t3 (.tup [.str "a", .str "d"])) b (.lst [.ref t1, .ref t2, .ref t3]) b = some (.lst [.ref t1, .ref t2, .ref t3]) := upd_same
    generalize upd (upd (upd (upd H3 t1 (.tup [.str "a", .str "b"])) t2 (.tup [.str "c", .str "d"])) t3 (.tup [.str "a", .str "d"])) b (.lst [.ref t1, .ref t2, .ref t3]) = H4 at *
    refine ⟨_, rfl, l, c, 4, _, rfl, P4, by decide, by decide, by omega, fun r H5 r0 r4 P5 x5 => ⟨r, rfl, ?_⟩⟩
    obtain ⟨k, rfl⟩ : ∃ k : Nat, r = ((k : Nat) : Int) := ⟨r.toNat, by omega⟩
    have nbl : b ≠ l := by
      obtain ⟨ns', t', ov', el, _⟩ := P4
      exact fun e => by rw [e, el] at eb; cases eb
    have eb5 := x5 _ _ nbl eb
    have T5 := P4.tups (K := K) x5
    refine ⟨b, _, rfl, SqL.of eb5, fun ca nca => ?_⟩
    have ecut : cutV [V.ref t1, V.ref t2, V.ref t3] none (some ((k : Nat) : Int)) = (([t1, t2, t3] : List Addr).take k).map V.ref := by
      have : k = 0 ∨ k = 1 ∨ k = 2 ∨ k = 3 := by omega
      rcases this with e | e | e | e <;> subst e <;> rfl
    rw [ecut]
    have j6 := new_same (o := .lst ((([t1, t2, t3] : List Addr).take k).map V.ref)) nca
    have P6 := P5.same j6
    have ncal := (P5.not nca).1
    have C6 : Cels K (upd H5 ca (.lst ((([t1, t2, t3] : List Addr).take k).map V.ref))) ca k := by
      refine ⟨_, upd_same, by rw [List.length_take]; show min k 3 = k; omega, by omega, fun q hq => ?_⟩
      have hq := List.mem_of_mem_take hq
      simp only [List.mem_cons, List.not_mem_nil, or_false] at hq
      rcases hq with e | e | e <;> rw [e]
      · exact ⟨"a", "b", same_tup j6 (T5 _ _ (SqT.of e1)), .inl rfl, .inr (.inl rfl)⟩
      · exact ⟨"c", "d", same_tup j6 (T5 _ _ (SqT.of e2)), .inr (.inr (.inl rfl)), .inr (.inr (.inr rfl))⟩
      · exact ⟨"a", "d", same_tup j6 (T5 _ _ (SqT.of e3)), .inl rfl, .inr (.inr (.inr rfl))⟩
    generalize upd H5 ca (.lst ((([t1, t2, t3] : List Addr).take k).map V.ref)) = H6 at *
    refine ⟨(by show 5 ≤ sizeLine; decide), fun b2 nb2 => ?_⟩
    have j7 := new_same (o := .lst [.int 2, .int 3, .int 4, .int 1, .int 0]) nb2
    have nb2l := (P6.not nb2).1
    refine ⟨_, rfl, l, c, 5, _, rfl, P6.same j7, by decide, by decide, by omega, fun r2 H8 r20 r25 P8 x8 => ?_⟩
    have eb2 := x8 _ _ nb2l (upd_same (H := H6) (a := b2) (o := .lst [.int 2, .int 3, .int 4, .int 1, .int 0]))
    obtain ⟨n, en, n4⟩ : ∃ n : Nat, atI [V.int 2, V.int 3, V.int 4, V.int 1, V.int 0] r2 = some (.int ((n : Nat) : Int)) ∧ n ≤ 4 := by
      have : r2 = ((0 : Nat) : Int) ∨ r2 = ((1 : Nat) : Int) ∨ r2 = ((2 : Nat) : Int) ∨ r2 = ((3 : Nat) : Int) ∨ r2 = ((4 : Nat) : Int) := by omega
      rcases this with e | e | e | e | e <;> rw [e]
      · exact ⟨2, atI_nat rfl, by omega⟩
      · exact ⟨3, atI_nat rfl, by omega⟩
      · exact ⟨4, atI_nat rfl, by omega⟩
      · exact ⟨1, atI_nat rfl, by omega⟩
      · exact ⟨0, atI_nat rfl, by omega⟩
    have C8' := (C6.same j7).drawn (P6.same j7) x8 ncal
    refine ⟨b2, _, _, _, rfl, rfl, SqL.of eb2, en, _, rfl, by omega, by omega, fun D nD => ?_⟩
    have nDl := (P8.not nD).1
    have nDc := (P8.not nD).2
    have ncaD : ca ≠ D := by
      obtain ⟨bs, h1, _⟩ := C8'
      exact ne_of_none h1 nD
    have j9 := new_same (o := .lst []) nD
    refine lc_it walk_upto (fun j H9 => PenD H9 l c (700 * (i : Nat) + 2 + 151 * (j : Nat)) ∧ Cels K H9 ca k ∧ ∃ (us : List V) (ss : List Sv), H9 D = some (.lst us) ∧ us.length = j ∧ DpAll K H9 us (ss.map sd) ∧ ∀ s ∈ ss, fitS s ∧ wordS s ∧ cntS s ≤ 30 ∧ sdep s ≤ 5)
      ⟨(P8.same j9).le (by omega), C8'.same j9, [], [], upd_same, rfl, .nil, fun s h => nomatch h⟩ (fun _ _ _ _ => trivial) ?_ ?_
    · rintro j x H9 H10 hj ⟨P9, C9, us, ss, eD, lus, hds, good⟩ ⟨rfl, rfl⟩
      rw [Int.toNat_natCast] at hj
      refine ⟨rfl, ?_⟩
      refine ⟨_, rfl, _, rfl, l, c, ca, _, k, rfl, P9, by omega, C9, ncal, fun v s Ha xa Pa da d5 fa c30 wa => ?_⟩
      have eDa := xa _ _ nDl eD
      have only := (svs_size ss good).2.2.2.2
      have T := Tups.upd_lst (K := K) (ys := us ++ [v]) eDa
      have to : tupOnly (sd s) = true := by
        have := (svs_size [s] (fun t ht => by rw [List.mem_singleton.mp ht]; exact ⟨fa, wa, c30, d5⟩)).2.2.2.2
        simp only [List.map_cons, List.map_nil, tupOnlyAll, Bool.and_true] at this
        exact this
      have h1 := Gd.DpAll.tups ((P9.tups xa).trans T) _ only hds
      refine ⟨us, eDa, by omega, (Pa.off nDl nDc).le (by omega), ?_, us ++ [v], ss ++ [s], upd_same, by simp [lus], ?_, fun s' hs' => ?_⟩
      · obtain ⟨bs, b1, b2, b3, b4⟩ := C9.drawn P9 xa ncal
        refine ⟨bs, by rw [upd_ne ncaD]; exact b1, b2, b3, fun q hq => ?_⟩
        obtain ⟨u, w', z1, z2⟩ := b4 q hq
        exact ⟨u, w', T _ _ z1, z2⟩
      · rw [List.map_append]
        exact Gd.DpAll.snoc h1 (Dp.tups T _ to da)
      · rcases List.mem_append.mp hs' with h | h
        · exact good s' h
        · rw [List.mem_singleton.mp h]
          exact ⟨fa, wa, c30, d5⟩
    rintro H9 ⟨P9, C9, us, ss, eD, lus, hds, good⟩
    rw [Int.toNat_natCast] at lus P9
    have lss : ss.length = n := by
      have := Gd.DpAll.len hds
      rw [List.length_map] at this
      omega
    refine .inl ⟨D, us, rfl, SqL.of eD, fun t nt => ?_⟩
    have jt := new_same (o := .tup us) nt
    have Pt := P9.same jt
    have ht : SqT K (upd H9 t (.tup us)) t us := SqT.of upd_same
    have hs : Svs K (upd H9 t (.tup us)) us ss := ⟨Gd.DpAll.same jt _ hds, fun s hs => (good s hs).2.2.2⟩
    generalize upd H9 t (.tup us) = Hb at *
    refine ⟨_, rfl, t, us, rfl, .inr ht, us.length, rfl, by omega, fun lr Hc sc nlr hrows => ?_⟩
    rw [lus] at hrows
    obtain ⟨rb, erb, lrb, trb⟩ := hrows
    refine ⟨lr, rfl, ⟨_, SqL.of erb⟩, ?_⟩
    refine for_it walk_list (fun m σ Hd => Same Hc Hd ∧ ∃ y5 y6 y7 y8 y9, σ = [some (.ref a), some (.ref l), some (.int (0 + ((i : Nat) : Int))), some (.ref ca), some (.ref t), y5, y6, y7, y8, y9, none])
      ⟨fun _ _ e => e, _, _, _, _, _, rfl⟩ (fun m σ Hd _ h => SqL.of (h.1 _ _ erb)) ?_ ?_
    · rintro m x σ Hd He hm ⟨sd', z5, z6, z7, z8, z9, rfl⟩ ⟨rfl, ex⟩
      obtain ⟨b1, eb1, rfl⟩ := map_at ex
      obtain ⟨row, erow⟩ := at_of lrb.symm (at_lt eb1)
      obtain ⟨lrow, r4⟩ := all_row (List.mem_of_getElem? erow)
      have sbe := sc.trans sd'
      have erw : SqT K He b1 (row.map wv) := SqT.of (sd' _ _ (trb m b1 row eb1 erow))
      refine ⟨(by show 2 ≤ sizeLine; decide), fun tb ntb => ⟨tb, rfl, ⟨_, SqT.of upd_same⟩, ?_⟩⟩
      have jb := new_same (o := .tup [.int 0, .int 1]) ntb
      refine for_it (walk_tup (xs := [V.int 0, V.int 1])) (fun j σ Hf => Same He Hf ∧ SqT K Hf tb [.int 0, .int 1] ∧ ∃ y6 y7 y8 y9, σ = [some (.ref a), some (.ref l), some (.int (0 + ((i : Nat) : Int))), some (.ref ca), some (.ref t), some (.ref b1), y6, y7, y8, y9, none])
        ⟨jb, SqT.of upd_same, _, _, _, _, rfl⟩ (fun j σ Hf _ h => h.2.1) ?_ ?_
      · rintro j x σ Hf Hg hj ⟨sf, hbt, z6, z7, z8, z9, rfl⟩ ⟨rfl, ex⟩
        obtain ⟨bk, bk2, rfl⟩ : ∃ bk : Nat, bk < 2 ∧ x = .int ((bk : Nat) : Int) := by
          match j, ex with
          | 0, ex => cases ex; exact ⟨0, by omega, rfl⟩
          | 1, ex => cases ex; exact ⟨1, by omega, rfl⟩
          | j + 2, ex => simp at ex
        have sbg := sbe.trans sf
        refine ⟨_, rfl, _, rfl, b1, row, bk, rfl, same_tup sf erw, by omega, r4, bk2, fun d Hh qs sh ndd ed ons => ?_⟩
        have sbh := sbg.trans sh
        have hq : (∀ q ∈ fsOf row qs, q.1.natAbs ≤ 10 ^ 40) ∧ (fsOf row qs).length ≤ 4 ∧ ∀ k, k < row.length → (k ∈ qs ↔ row.getD k 9 ≠ 3) := by
          have ln : (nums row).length ≤ 4 := by
            have := List.length_filter_le (fun k => decide (row.getD k 9 ≠ 3)) (List.range row.length)
            rw [List.length_range] at this
            exact Nat.le_trans this (by omega)
          have mm : ∀ k, k ∈ qs ↔ k ∈ nums row := fun k => by
            rcases ons with e | e <;> rw [e]
            exact List.mem_reverse
          have lq : qs.length ≤ 4 := by
            rcases ons with e | e <;> rw [e]
            · exact ln
            · rw [List.length_reverse]
              exact ln
          refine ⟨fun q hq => ?_, by unfold fsOf; rw [List.length_map]; exact lq, fun k hk => ?_⟩
          · obtain ⟨k, hk, rfl⟩ := List.mem_map.mp hq
            have := (List.mem_filter.mp ((mm k).mp hk)).1
            have := List.mem_range.mp this
            rw [Int.natAbs_natCast]
            exact Nat.le_trans (show k ≤ 4 by omega) (by decide)
          · rw [mm, nums, List.mem_filter, List.mem_range, decide_eq_true_eq]
            exact ⟨fun h => h.2, fun h => ⟨hk, h⟩⟩
        obtain ⟨w1, w2, w3⟩ := all_size good (by omega) hq.1 hq.2.1
        have only := (svs_size ss good).2.2.2.2
        have onlyT : tupOnly (.tuple (ss.map sd)) = true := by
          simp only [tupOnly, only, Bool.and_true, decide_eq_true_eq, List.length_map]
          omega
        have dat : ∀ {Hx : Hp}, Same Hb Hx → Dp K Hx (.ref t) (.tuple (ss.map sd)) := fun s => .tup (same_tup s ht) (Gd.DpAll.same s _ hs.1)
        refine ⟨_, rfl, _, rfl, (by show 2 ≤ sizeLine; decide), fun u nu => ?_⟩
        have ju := new_same (o := .tup [.ref t, .ref d]) nu
        refine ⟨u, t, d, _, fsOf row qs, rfl, SqT.of upd_same, dat (sbh.trans ju), onlyT, ju _ _ ed, w1, w2, w3, ?_⟩
        have hg : ∀ k, k < ss.length → valV (kvF (fsOf row qs)) (Sum.inl ((k : Nat) : Int)) = (code (row.getD k 9)).map fl := fun k hk => by
          have hk' : k < row.length := by omega
          obtain ⟨r, er⟩ := at_of (xs := row) (i := k) rfl hk'
          have gr : row.getD k 9 = r := by rw [List.getD_eq_getElem?_getD, er]; rfl
          rw [val_fs, code_flag (by rw [gr]; exact r4 r (List.mem_of_getElem? er))]
          by_cases z : row.getD k 9 = 3
          · rw [if_pos z, if_neg (fun q => ((hq.2.2 k hk').mp q) z)]
            rfl
          · rw [if_neg z, if_pos ((hq.2.2 k hk').mpr z)]
            rfl
        have svs : ∀ {Hx : Hp}, Same Hb Hx → Svs K Hx us ss := fun s => ⟨Gd.DpAll.same s _ hs.1, hs.2⟩
        have sbu := sbh.trans ju
        have lrs : row.length = ss.length := by omega
        have edue := drops_eq ss row (fun k => code (row.getD k 9)) 0 lrs r4 (fun i _ => by rw [Nat.zero_add])
        refine ⟨_, rfl, _, rfl, t, d, us, ss, _, fun k => code (row.getD k 9), rfl, same_tup sbu ht, svs sbu, ju _ _ ed, hg, fun Hi si => ?_⟩
        have sbi := sbu.trans si
        have edi := (ju.trans si) _ _ ed
        refine ⟨_, rfl, _, _, _, _, true, rfl, .ty _, .base (.bl _), kit_ty (by decide +kernel), _, rfl, ?_⟩
        refine iteF ?_
        refine ⟨_, rfl, _, rfl, _, rfl, t, b1, us, ss, row, rfl, same_tup sbi ht, svs sbi, same_tup (((sf.trans sh).trans ju).trans si) erw, lrs, by omega, r4, fun s hs => (good s hs).2.1, fun Hj sj => ?_⟩
        rw [edue]
        refine ⟨rfl, _, rfl, ?_⟩
        rw [decide_eq_true rfl]
        refine iteF ?_
        have sbj := sbi.trans sj
        refine ⟨_, rfl, _, rfl, (by show 2 ≤ sizeLine; decide), fun u2 nu2 => ?_⟩
        have ju2 := new_same (o := .tup [.ref t, .ref d]) nu2
        refine ⟨u2, t, d, _, fsOf row qs, rfl, SqT.of upd_same, dat (sbj.trans ju2), onlyT, (sj.trans ju2) _ _ edi, w1, w2, w3, ?_⟩
        refine ⟨_, rfl, rfl, _, rfl, ?_⟩
        rw [decide_eq_true rfl]
        refine iteF ?_
        have sbk := sbj.trans ju2
        refine ⟨_, rfl, _, rfl, t, d, us, ss, _, fun k => code (row.getD k 9), rfl, same_tup sbk ht, svs sbk, (sj.trans ju2) _ _ edi, hg, fun Hl sl => ?_⟩
        rw [edue]
        refine ⟨_, rfl, rfl, _, rfl, ?_⟩
        rw [decide_eq_true rfl]
        refine iteF ?_
        have sgl := ((((sh.trans ju).trans si).trans sj).trans ju2).trans sl
        exact ⟨sf.trans sgl, same_tup sgl hbt, _, _, _, _, rfl⟩
      · rintro σ Hf ⟨sf, hbt, z6, z7, z8, z9, rfl⟩
        exact ⟨sd'.trans sf, _, _, _, _, _, rfl⟩
    · rintro σ Hd ⟨sd', z5, z6, z7, z8, z9, rfl⟩
      exact ⟨(Pt.same (sc.trans sd')).le (by omega), _, _, _, _, _, _, _, _, rfl⟩
  · rintro σ H2 ⟨P2, y2, y3, y4, y5, y6, y7, y8, y9, rfl⟩
    exact q _
end
end K28
end

section
set_option Elab.async false
set_option linter.all false
set_option maxRecDepth 100000
set_option maxHeartbeats 8000000
namespace K28
open PySem PySem.Spec PyProof.Rows L2 Gd
theorem all_mk {l : PySem.W.OpenLaw} {w : World} {K : PySem.W.Frag} {h : Heap} {mg : Str → Option Value} {fa : Addr} {f0 f1 f2 f3 f4 f5 f6 f7 f8 f9 f10 f11 : Addr} {pS : Addr} {ddS : Option Addr} {slS : Array (Option Value)} {t1 t2 t3 t4 : Tok} {nnS : Nat} (X : K.In h) (G : h.Ns mainGlobals mg) (hfa : mg "law" = some (.ref fa))
    {od0 an0 od1 an1 od2 an2 od3 an3 od4 an4 od5 an5 od6 an6 od7 an7 od8 an8 od9 an9 od10 an10 od11 an11 : Option Addr} {sl0 sl1 sl2 sl3 sl4 sl5 sl6 sl7 sl8 sl9 sl10 sl11 : Array (Option Value)} {oc0 kV0 dc0 pm0 cd0 ct0 oc1 kV1 dc1 pm1 cd1 ct1 oc2 kV2 dc2 pm2 cd2 ct2 oc3 kV3 dc3 pm3 cd3 ct3 oc4 kV4 dc4 pm4 cd4 ct4 oc5 kV5 dc5 pm5 cd5 ct5 oc6 kV6 dc6 pm6 cd6 ct6 oc7 kV7 dc7 pm7 cd7 ct7 oc8 kV8 dc8 pm8 cd8 ct8 oc9 kV9 dc9 pm9 cd9 ct9 oc10 kV10 dc10 pm10 cd10 ct10 oc11 kV11 dc11 pm11 cd11 ct11 : Value}
    (aF0 : PySem.W.nsIn K mainGlobals "may_fault" = some (some (.ref f0)))
    (lF0 : K.lookup f0 = some ⟨oc0, od0, .func (PySem.W.fnOf "may_fault" "may_fault" (defArgs sMay) (defBody sMay) (defScope sMay) .none kV0 dc0 pm0 an0 cd0 ct0), sl0⟩)
    (cF0 : PySem.W.codeIn K cd0 "may_fault" = true)
    (kF0 : PySem.W.keepIn K (.ref f0) = true)
    (aF1 : PySem.W.nsIn K mainGlobals "sieve_may_fault" = some (some (.ref f1)))
    (lF1 : K.lookup f1 = some ⟨oc1, od1, .func (PySem.W.fnOf "sieve_may_fault" "sieve_may_fault" (defArgs sSM) (defBody sSM) (defScope sSM) .none kV1 dc1 pm1 an1 cd1 ct1), sl1⟩)
    (cF1 : PySem.W.codeIn K cd1 "sieve_may_fault" = true)
    (kF1 : PySem.W.keepIn K (.ref f1) = true)
    (aF2 : PySem.W.nsIn K mainGlobals "dropped" = some (some (.ref f2)))
    (lF2 : K.lookup f2 = some ⟨oc2, od2, .func (PySem.W.fnOf "dropped" "dropped" (defArgs sDrop) (defBody sDrop) (defScope sDrop) .none kV2 dc2 pm2 an2 cd2 ct2), sl2⟩)
    (cF2 : PySem.W.codeIn K cd2 "dropped" = true)
    (kF2 : PySem.W.keepIn K (.ref f2) = true)
    (aF3 : PySem.W.nsIn K mainGlobals "_law_pen" = some (some (.ref f3)))
    (lF3 : K.lookup f3 = some ⟨oc3, od3, .func (PySem.W.fnOf "_law_pen" "_law_pen" (defArgs sPen) (defBody sPen) (defScope sPen) .none kV3 dc3 pm3 an3 cd3 ct3), sl3⟩)
    (cF3 : PySem.W.codeIn K cd3 "_law_pen" = true)
    (kF3 : PySem.W.keepIn K (.ref f3) = true)
    (aF4 : PySem.W.nsIn K mainGlobals "_law_take" = some (some (.ref f4)))
    (lF4 : K.lookup f4 = some ⟨oc4, od4, .func (PySem.W.fnOf "_law_take" "_law_take" (defArgs sTake) (defBody sTake) (defScope sTake) .none kV4 dc4 pm4 an4 cd4 ct4), sl4⟩)
    (cF4 : PySem.W.codeIn K cd4 "_law_take" = true)
    (kF4 : PySem.W.keepIn K (.ref f4) = true)
    (aF5 : PySem.W.nsIn K mainGlobals "_law_part" = some (some (.ref f5)))
    (lF5 : K.lookup f5 = some ⟨oc5, od5, .func (PySem.W.fnOf "_law_part" "_law_part" (defArgs sPart) (defBody sPart) (defScope sPart) .none kV5 dc5 pm5 an5 cd5 ct5), sl5⟩)
    (cF5 : PySem.W.codeIn K cd5 "_law_part" = true)
    (kF5 : PySem.W.keepIn K (.ref f5) = true)
    (aF6 : PySem.W.nsIn K mainGlobals "_law_sieve" = some (some (.ref f6)))
    (lF6 : K.lookup f6 = some ⟨oc6, od6, .func (PySem.W.fnOf "_law_sieve" "_law_sieve" (defArgs sSieve) (defBody sSieve) (defScope sSieve) .none kV6 dc6 pm6 an6 cd6 ct6), sl6⟩)
    (cF6 : PySem.W.codeIn K cd6 "_law_sieve" = true)
    (kF6 : PySem.W.keepIn K (.ref f6) = true)
    (aF7 : PySem.W.nsIn K mainGlobals "_law_divides" = some (some (.ref f7)))
    (lF7 : K.lookup f7 = some ⟨oc7, od7, .func (PySem.W.fnOf "_law_divides" "_law_divides" (defArgs sDiv) (defBody sDiv) (defScope sDiv) .none kV7 dc7 pm7 an7 cd7 ct7), sl7⟩)
    (cF7 : PySem.W.codeIn K cd7 "_law_divides" = true)
    (kF7 : PySem.W.keepIn K (.ref f7) = true)
    (aF8 : PySem.W.nsIn K mainGlobals "_law_all" = some (some (.ref f8)))
    (lF8 : K.lookup f8 = some ⟨oc8, od8, .func (PySem.W.fnOf "_law_all" "_law_all" (defArgs sAll) (defBody sAll) (defScope sAll) .none kV8 dc8 pm8 an8 cd8 ct8), sl8⟩)
    (cF8 : PySem.W.codeIn K cd8 "_law_all" = true)
    (kF8 : PySem.W.keepIn K (.ref f8) = true)
    (aF9 : PySem.W.nsIn K mainGlobals "_law_due" = some (some (.ref f9)))
    (lF9 : K.lookup f9 = some ⟨oc9, od9, .func (PySem.W.fnOf "_law_due" "_law_due" (defArgs sDue) (defBody sDue) (defScope sDue) .none kV9 dc9 pm9 an9 cd9 ct9), sl9⟩)
    (cF9 : PySem.W.codeIn K cd9 "_law_due" = true)
    (kF9 : PySem.W.keepIn K (.ref f9) = true)
    (aF10 : PySem.W.nsIn K mainGlobals "_law_told" = some (some (.ref f10)))
    (lF10 : K.lookup f10 = some ⟨oc10, od10, .func (PySem.W.fnOf "_law_told" "_law_told" (defArgs sTold) (defBody sTold) (defScope sTold) .none kV10 dc10 pm10 an10 cd10 ct10), sl10⟩)
    (cF10 : PySem.W.codeIn K cd10 "_law_told" = true)
    (kF10 : PySem.W.keepIn K (.ref f10) = true)
    (aF11 : PySem.W.nsIn K mainGlobals "law" = some (some (.ref f11)))
    (lF11 : K.lookup f11 = some ⟨oc11, od11, .func (PySem.W.fnOf "law" "law" (defArgs sLaw) (defBody sLaw) (defScope sLaw) .none kV11 dc11 pm11 an11 cd11 ct11), sl11⟩)
    (cF11 : PySem.W.codeIn K cd11 "law" = true)
    (kF11 : PySem.W.keepIn K (.ref f11) = true)
    (nS : PySem.W.nsIn K mainGlobals "_SIGNS" = some (some (.ref pS)))
    (lS : K.lookup pS = some ⟨.type "tuple", ddS, .seq #[.str "plus" t1, .str "less" t2, .str "times" t3, .str "over" t4] nnS, slS⟩)
    (z_any : PySem.W.nsIn K mainGlobals "any" = some none)
    (z_enumerate : PySem.W.nsIn K mainGlobals "enumerate" = some none)
    (z_list : PySem.W.nsIn K mainGlobals "list" = some none)
    (z_len : PySem.W.nsIn K mainGlobals "len" = some none)
    (z_abs : PySem.W.nsIn K mainGlobals "abs" = some none)
    (z_range : PySem.W.nsIn K mainGlobals "range" = some none)
    (z_dict : PySem.W.nsIn K mainGlobals "dict" = some none)
    (z_tuple : PySem.W.nsIn K mainGlobals "tuple" = some none)
    (z_repr : PySem.W.nsIn K mainGlobals "repr" = some none)
    (z_isinstance : PySem.W.nsIn K mainGlobals "isinstance" = some none)
    (z_bool : PySem.W.nsIn K mainGlobals "bool" = some none) :
    ∃ fd : FuncData, (∀ (s : Shared) (v : Value), BindsTo s fd ⟨[v], []⟩ [("_law_script", v)]) ∧ ∀ base : Heap, K.In base → base.Ns mainGlobals mg → FnG l.prog w K mg base CX0 9 fa fd ["_law_script"] (spLaw K) := by
  have e := hfa.symm.trans (PySem.W.mg_of X G aF11)
  cases e
  have F0 := fun_mk (st := sMay) lF0 cF0 kF0
  have b0 := F0.binds (ps := ["part"]) fun _ _ _ _ _ _ us hl => match us, hl with | [_], _ => rfl
  have m0 := PySem.W.mg_of X G aF0
  have F1 := fun_mk (st := sSM) lF1 cF1 kF1
  have b1 := F1.binds (ps := ["sieve"]) fun _ _ _ _ _ _ us hl => match us, hl with | [_], _ => rfl
  have m1 := PySem.W.mg_of X G aF1
  have F2 := fun_mk (st := sDrop) lF2 cF2 kF2
  have b2 := F2.binds (ps := ["sieves", "seen"]) fun _ _ _ _ _ _ us hl => match us, hl with | [_, _], _ => rfl
  have m2 := PySem.W.mg_of X G aF2
  have F3 := fun_mk (st := sPen) lF3 cF3 kF3
  have b3 := F3.binds (ps := ["_law_script"]) fun _ _ _ _ _ _ us hl => match us, hl with | [_], _ => rfl
  have m3 := PySem.W.mg_of X G aF3
  have F4 := fun_mk (st := sTake) lF4 cF4 kF4
  have b4 := F4.binds (ps := ["_law_pen_here", "_law_many"]) fun _ _ _ _ _ _ us hl => match us, hl with | [_, _], _ => rfl
  have m4 := PySem.W.mg_of X G aF4
  have F5 := fun_mk (st := sPart) lF5 cF5 kF5
  have b5 := F5.binds (ps := ["_law_pen_here", "_law_cells", "_law_deep", "_law_room"]) fun _ _ _ _ _ _ us hl => match us, hl with | [_, _, _, _], _ => rfl
  have m5 := PySem.W.mg_of X G aF5
  have F6 := fun_mk (st := sSieve) lF6 cF6 kF6
  have b6 := F6.binds (ps := ["_law_pen_here", "_law_cells", "_law_room"]) fun _ _ _ _ _ _ us hl => match us, hl with | [_, _, _], _ => rfl
  have m6 := PySem.W.mg_of X G aF6
  have F7 := fun_mk (st := sDiv) lF7 cF7 kF7
  have b7 := F7.binds (ps := ["_law_thing"]) fun _ _ _ _ _ _ us hl => match us, hl with | [_], _ => rfl
  have m7 := PySem.W.mg_of X G aF7
  have F8 := fun_mk (st := sAll) lF8 cF8 kF8
  have b8 := F8.binds (ps := ["_law_many"]) fun _ _ _ _ _ _ us hl => match us, hl with | [_], _ => rfl
  have m8 := PySem.W.mg_of X G aF8
  have F9 := fun_mk (st := sDue) lF9 cF9 kF9
  have b9 := F9.binds (ps := ["_law_some", "_law_row"]) fun _ _ _ _ _ _ us hl => match us, hl with | [_, _], _ => rfl
  have m9 := PySem.W.mg_of X G aF9
  have F10 := fun_mk (st := sTold) lF10 cF10 kF10
  have b10 := F10.binds (ps := ["_law_row", "_law_back"]) fun _ _ _ _ _ _ us hl => match us, hl with | [_, _], _ => rfl
  have m10 := PySem.W.mg_of X G aF10
  have F11 := fun_mk (st := sLaw) lF11 cF11 kF11
  have m11 := PySem.W.mg_of X G aF11
  have y_any := PySem.W.mg_none_of X G z_any
  have y_enumerate := PySem.W.mg_none_of X G z_enumerate
  have y_list := PySem.W.mg_none_of X G z_list
  have y_len := PySem.W.mg_none_of X G z_len
  have y_abs := PySem.W.mg_none_of X G z_abs
  have y_range := PySem.W.mg_none_of X G z_range
  have y_dict := PySem.W.mg_none_of X G z_dict
  have y_tuple := PySem.W.mg_none_of X G z_tuple
  have y_repr := PySem.W.mg_none_of X G z_repr
  have y_isinstance := PySem.W.mg_none_of X G z_isinstance
  have y_bool := PySem.W.mg_none_of X G z_bool
  refine ⟨PySem.W.fnOf "law" "law" (defArgs sLaw) (defBody sLaw) (defScope sLaw) .none kV11 dc11 pm11 an11 cd11 ct11, fun s v => .of_eq rfl, fun base _ _ => ?_⟩
  have C : Sg K mg pS := ⟨PySem.W.mg_of X G nS, fun H => .inr ⟨_, _, _, lS, rfl, rfl, (by show 4 ≤ sizeLine; decide), .cons ⟨_, rfl⟩ (.cons ⟨_, rfl⟩ (.cons ⟨_, rfl⟩ (.cons ⟨_, rfl⟩ .nil)))⟩⟩
  have kD := back2_of (p0 := "sieves") (p1 := "seen") F2 fun _ _ _ _ _ _ _ _ => rfl
  have gMay := ok_may (P := l.prog) (w := w) (base := base) F0 C b0 m0 5
  have gSM := ok_sm (P := l.prog) (w := w) (base := base) F1 y_any F0 gMay b0 m0
  have gDrop := ok_drop (P := l.prog) (w := w) (base := base) F2 y_enumerate F1 gSM b1 m1
  have gPen := ok_pen (P := l.prog) (w := w) (base := base) F3 y_list
  have gTake := ok_take (P := l.prog) (w := w) (base := base) F4 y_len y_abs
  have gPart := ok_part (P := l.prog) (w := w) (base := base) F5 y_len b5 m5 F4 gTake b4 m4 5
  have gSieve := ok_sieve (P := l.prog) (w := w) (base := base) F6 F5 gPart b5 m5 F4 gTake b4 m4
  have gDiv := ok_div (P := l.prog) (w := w) (base := base) F7 b7 m7 6
  have gAll := ok_all (K := K) (P := l.prog) (w := w) (base := base) F8 y_range
  have gDue := ok_due (P := l.prog) (w := w) (base := base) F9 y_range y_len F7 gDiv b7 m7
  have gTold := ok_told (K := K) (P := l.prog) (w := w) (base := base) F10 y_range y_len y_dict
  exact ok_law F11 y_range y_len y_tuple y_repr y_isinstance y_bool F3 gPen b3 m3 F4 gTake b4 m4 F6 gSieve b6 m6 F8 gAll b8 m8 F9 gDue b9 m9 F10 gTold b10 m10 F2 gDrop b2 kD m2

end K28
open PySem PySem.W PyProof.Rows
set_option maxRecDepth 100000 in
set_option maxHeartbeats 0 in
theorem PySem.Challenge.cw_plansamid_k28_dropped_early_holds : PySem.Challenge.rw_plansamid_k28_dropped_early.Holds := by
  w_on; o_law; k_head; (case hw => w_witness2)
  k_fill
  refine Gd.walkG (l := PySem.Challenge.rw_plansamid_k28_dropped_early) (m := 63) (n := 9) (x := "_law_script") (sp := K28.spLaw) rfl (by decide) rfl ⟨rfl, by decide, by decide⟩ (fun w h Y => PySem.W.kIn_of Y) ?F ?S
  case S =>
    intro K H a ns h1 _ _ h4; exact ⟨a, ns, rfl, h4, h1, fun _ => rfl⟩
  case F =>
    intro w mg fa h KX G hmg
    refine' K28.all_mk KX G hmg ?aF0 ?lF0 ?cF0 ?kF0 ?aF1 ?lF1 ?cF1 ?kF1 ?aF2 ?lF2 ?cF2 ?kF2 ?aF3 ?lF3 ?cF3 ?kF3 ?aF4 ?lF4 ?cF4 ?kF4 ?aF5 ?lF5 ?cF5 ?kF5 ?aF6 ?lF6 ?cF6 ?kF6 ?aF7 ?lF7 ?cF7 ?kF7 ?aF8 ?lF8 ?cF8 ?kF8 ?aF9 ?lF9 ?cF9 ?kF9 ?aF10 ?lF10 ?cF10 ?kF10 ?aF11 ?lF11 ?cF11 ?kF11 ?nS ?lS ?z_any ?z_enumerate ?z_list ?z_len ?z_abs ?z_range ?z_dict ?z_tuple ?z_repr ?z_isinstance ?z_bool
    (case aF0 => k_is)
    (case lF0 => k_is)
    (case cF0 => k_is)
    (case kF0 => k_is)
    (case aF1 => k_is)
    (case lF1 => k_is)
    (case cF1 => k_is)
    (case kF1 => k_is)
    (case aF2 => k_is)
    (case lF2 => k_is)
    (case cF2 => k_is)
    (case kF2 => k_is)
    (case aF3 => k_is)
    (case lF3 => k_is)
    (case cF3 => k_is)
    (case kF3 => k_is)
    (case aF4 => k_is)
    (case lF4 => k_is)
    (case cF4 => k_is)
    (case kF4 => k_is)
    (case aF5 => k_is)
    (case lF5 => k_is)
    (case cF5 => k_is)
    (case kF5 => k_is)
    (case aF6 => k_is)
    (case lF6 => k_is)
    (case cF6 => k_is)
    (case kF6 => k_is)
    (case aF7 => k_is)
    (case lF7 => k_is)
    (case cF7 => k_is)
    (case kF7 => k_is)
    (case aF8 => k_is)
    (case lF8 => k_is)
    (case cF8 => k_is)
    (case kF8 => k_is)
    (case aF9 => k_is)
    (case lF9 => k_is)
    (case cF9 => k_is)
    (case kF9 => k_is)
    (case aF10 => k_is)
    (case lF10 => k_is)
    (case cF10 => k_is)
    (case kF10 => k_is)
    (case aF11 => k_is)
    (case lF11 => k_is)
    (case cF11 => k_is)
    (case kF11 => k_is)
    (case nS => k_is)
    (case lS => k_is)
    (case z_any => k_is)
    (case z_enumerate => k_is)
    (case z_list => k_is)
    (case z_len => k_is)
    (case z_abs => k_is)
    (case z_range => k_is)
    (case z_dict => k_is)
    (case z_tuple => k_is)
    (case z_repr => k_is)
    (case z_isinstance => k_is)
    (case z_bool => k_is)
end
