import PyProof.Rows.All
import Wide.All
import OpenK.AllK
import Wide.FinOn
import HandS.ForMost
import HandS.ForExc
import HandS.EndBits
import HandS.IsInst
import PyProof.ReprRoads
import PyProof.FitsInt
import PyProof.NeKinds
import HandS.Codes
import HandS.Text
import HandS.Walk
import HandS.TupLe
import PySem.Challenge.RW_plansamid_k57_kept_ones_wanted

section
set_option Elab.async false
set_option linter.all false
set_option maxRecDepth 100000
set_option maxHeartbeats 4000000
/-! A def's promise where no text of a container is being put together around it (so that repr is served). -/
namespace Gd
open PySem PySem.Spec PyProof.Rows L2

/-- no container is amid its own text -/
def Free (A : Around) : Prop := A.guards = some []

structure FnG (P : Program) (w : World) (K : PySem.W.Frag) (mg : Str → Option Value)
    (base : Heap) (cx : CXT) (n : Nat) (f : Addr) (fd : FuncData) (ps : List Str) (sp : Sp) : Prop where
  len : ∀ vs H Q E, sp vs H Q E → vs.length = ps.length
  run : ∀ (A : Around) (out : List Env) (s : Shared) (H : Hp) (args : Args) (us : List Value)
      (vs : List V) (Q : VK) (E : XK), Free A → Room n A → Env0 P w K mg base A out s H →
      BindsTo s fd args (ps.zip us) → Vals vs us → sp vs H Q E →
      codeAny (model P w) A (.call (.ref f) args) (CR cx out P w H s Q E) s

section
variable {P : Program} {w : World} {K : PySem.W.Frag} {mg : Str → Option Value} {base : Heap} {cx : CXT}
theorem FnG.ofOk {n : Nat} {f : Addr} {fd : FuncData} {ps : List Str} {sp : Sp}
    (F : FnOk P w K mg base cx n f fd ps sp) : FnG P w K mg base cx n f fd ps sp :=
  ⟨F.len, fun A out s H args us vs Q E _ => F.run A out s H args us vs Q E⟩
theorem FnG.mono {m n : Nat} {f : Addr} {fd : FuncData} {ps : List Str} {sp : Sp}
    (F : FnG P w K mg base cx m f fd ps sp) (h : m ≤ n) : FnG P w K mg base cx n f fd ps sp :=
  ⟨F.len, fun A out s H args us vs Q E g r => F.run A out s H args us vs Q E g (r.mono h)⟩
end

section
variable {X : Cx} {cx : CXT} {n : Nat} {f : Addr} {fd : FuncData} {ps : List Str} {sp : Sp}
  {dvs : List V} {ds : List Value} {E : XK} {x : Str} {p pos : Pos} {e : Expr} {es : List Expr} {t : TA}

theorem run_g {pins : List (Addr × Obj)} {σ : L2.St} {H : Hp} {s : Shared} {Q : VK} {us : List Value} {vs : List V}
    (F : FnG X.prog X.w X.K X.mg X.base cx n f fd ps sp) (g : Free X.A) (hr : Room n X.A)
    (hb : Binds X.K fd ps ds) (hd : Vals dvs ds) (hx : Passes cx X E)
    (I : Inv X pins σ H s) (r : Vals vs us) (h : sp (vs ++ dvs) H Q E) :
    wpAny (model X.prog X.w) X.A (call (.ref f) us) (EP X pins σ Q) X.xe s := by
  have rr : Vals (vs ++ dvs) (us ++ ds) := r.append hd
  have hl : (us ++ ds).length = ps.length := (Paired.length rr).symm.trans (F.len _ _ _ _ h)
  have all := F.run X.A X.stack s H ⟨us, []⟩ (us ++ ds) (vs ++ dvs) Q E g hr I.env0 (hb s us I.kIn hl) rr h
  refine wpAny_call (codeAny_mono all ?_)
  intro o s' z
  cases o with
  | error er => exact hx pins σ H s er s' I z
  | ok fl =>
    cases fl with
    | ret u => exact I.after z
    | _ => exact False.elim z

theorem pe_callG (F : FnG X.prog X.w X.K X.mg X.base cx n f fd ps sp) (g : Free X.A) (hr : Room n X.A)
    (hg : Gl X x) (hm : X.mg x = some (.ref f)) (hk : PySem.W.keepIn X.K (.ref f) = true)
    (hb : Binds X.K fd ps ds) (hd : Vals dvs ds) (hx : Passes cx X E) (ha : PA X (e :: es) t)
    (hdb : (x == ("__debug__" : Str)) = false := by decide)
    (he : starEach (e :: es) X.env = (false, eval e X.env) :: starEach es X.env := by rfl)
    (hpl : (backTo pos (starEach es X.env)).any (·.1) = false := by rfl) :
    PE X (.Call (.Name x p) (e :: es) [] pos) (tCall sp dvs E t) := by
  constructor
  intro pins s σ H Q I h
  refine wpAny_Call_Name_kw (ld_glob I hg hm ?_ hdb)
  have args := ha.run pos pins s σ H _ I h
  refine PySem.W.callWith_K (h₀ := X.base) I.ok.mod.kin hk (thn args ?_) he hpl
  rintro us s1 ⟨vs, H1, J, r, q⟩
  exact ⟨J.kIn, run_g F g hr hb hd hx J r q⟩
end

/-! ### by the body -/
section
variable {P : Program} {w : World} {K : PySem.W.Frag} {mg : Str → Option Value} {base : Heap}
theorem FnG.body {cx : CXT} {n : Nat} {f : Addr} {nm ql : Str} {pr : Arguments} {bd : List Stmt} {sc : Scope}
    {dV kV dc pm cv ct oc : Value} {an od : Option Addr} {sl : Array (Option Value)} {N ps : List Str} {sp : Sp}
    (lk : K.lookup f = some ⟨oc, od, .func (PySem.W.fnOf nm ql pr bd sc dV kV dc pm an cv ct), sl⟩)
    (hc : PySem.W.codeIn K cv ql = true) (S : FnScope N ps sc) (len : ∀ vs H Q E, sp vs H Q E → vs.length = ps.length)
    (hb : ∀ (A : Around) (out : List Env) (s : Shared) (H : Hp) (vs : List V) (Q : VK) (E : XK),
      Free (A.deeper (envOfC ql sc s.heap.objs.size f cv)) → Room n (A.deeper (envOfC ql sc s.heap.objs.size f cv)) →
      sp vs H Q E → ∃ t, PSs (cxOf cx P w K mg base N ql sc f cv A out s H E) bd t ∧
        t { nx := fun _ H' => Q .non H', rt := Q } (start N vs) H) :
    FnG P w K mg base cx (n + 1) f (PySem.W.fnOf nm ql pr bd sc dV kV dc pm an cv ct) ps sp := by
  refine ⟨len, ?_⟩
  intro A out s H args us vs Q E g hr e0 hbd r hsp
  have hl := len _ _ _ _ hsp
  have KX : K.In s.heap := e0.mod.kin.keeps fun b o e => (e0.bs b o e).1
  have lim : s.heap.NoLimit := e0.mod.nolimit.keeps fun b o e => (e0.bs b o e).1
  have kinds : ∀ y ∈ ps.zip us, sc.names.lookup y.1 = some .local ∨
      (sc.names.lookup y.1 = some .cell ∧
        ((cellsFrom (s.heap.objs.size + 1) sc.names []).lookup y.1).isSome = true) := by
    rintro ⟨y, v⟩ hy
    rcases S.par y (List.of_mem_zip hy).1 with q | q
    · left; exact q
    · right; exact ⟨q, PySem.W.cellsFrom_some _ _ _ (.inl q)⟩
  have code := PySem.W.codeRec_of KX hc
  refine codeAny_call_function hr.depth (KX _ _ lk) rfl S.co S.gen rfl code (hbd _ _ _ _ ?_)
  refine wpAny_newFunctionEnv_cells S.kind kinds ?_
  intro env he s1 x
  subst he
  refine ⟨lim.keeps x.toInCall.keep, codeAny_func ?_⟩
  obtain ⟨t, ht, hq⟩ := hb A out s H vs Q E g (hr.deeper _) hsp
  have I := inv_start (CX := cx) (P := P) (w := w) (E := E) S hr.hd e0 hl r x
  refine wpAny_mono (ht.run [] s1 (start N vs) H _ I hq) ?_ fun er s' z => z
  intro fl s' z
  cases fl with
  | ret u =>
    obtain ⟨v, σ', H', J, rv, q⟩ := z
    exact ⟨v, H', J.os, J.bare, J.base, J.hok, rv, q⟩
  | next =>
    obtain ⟨σ', H', J, q⟩ := z
    exact ⟨V.non, H', J.os, J.bare, J.base, J.hok, rfl, q⟩
  | brk =>
    obtain ⟨_, _, _, q⟩ := z
    exact q.elim
  | cont =>
    obtain ⟨_, _, _, q⟩ := z
    exact q.elim

theorem okG {x ql : Str} {st : Stmt} {f : Addr} {fd : FuncData} {N ps : List Str} {n : Nat} {sp : Sp}
    (F : Fun K x ql st f fd) (S : FnScope N ps (defScope st)) (len : ∀ vs H Q E, sp vs H Q E → vs.length = ps.length)
    (hb : ∀ (cv : Value) (A : Around) (out : List Env) (s : Shared) (H : Hp) (vs : List V) (Q : VK) (E : XK),
      Free (A.deeper (envOfC ql (defScope st) s.heap.objs.size f cv)) →
      Room n (A.deeper (envOfC ql (defScope st) s.heap.objs.size f cv)) → sp vs H Q E →
      ∃ t, PSs (cxOf CX0 P w K mg base N ql (defScope st) f cv A out s H E).nox (defBody st) t ∧
        t { nx := fun _ H' => Q .non H', rt := Q } (start N vs) H) :
    FnG P w K mg base CX0 (n + 1) f fd ps sp := by
  obtain ⟨oc, od, kV, dc, pm, an, cv, ct, sl, rfl, lk, hc⟩ := F.ex
  refine FnG.body lk hc S len ?_
  intro A out s H vs Q E g hr hsp
  obtain ⟨t, h, q⟩ := hb cv A out s H vs Q E g hr hsp
  exact ⟨t, h.nox, q⟩
end
end Gd
end

section
set_option Elab.async false
set_option linter.all false
set_option maxRecDepth 100000
set_option maxHeartbeats 4000000
/-! The end of a law's row from a promise of Gd.FnG. -/
namespace Gd
open PySem PySem.Spec PyProof.Rows L2

/-- what is wanted of the law's own call -/
def Yes (s1 : Shared) (r : Result) (s' : Shared) : Prop :=
  r = .ok (.ret (.bool true)) ∧ OldK s1.heap s'.heap ∧ s'.os = s1.os ∧ AllBare s'.gens

section
variable {P : Program} {w : World} {K : PySem.W.Frag} {mg mb : Str → Option Value} {cx : CXT} {n : Nat}
  {fa a : Addr} {fd : FuncData} {x : Str} {sp : Sp} {s1 : Shared} {vs : List Value} {ns : List Int}

theorem begun (H : Hp) (only : Only H) (hS : SqL K H a (ns.map V.int)) (hok : HOk P w H s1.heap)
    (at_a : ∀ b, H b ≠ none → b = a) (noK : H a ≠ none → K.lookup a = none)
    (KX : K.In s1.heap) (hns : s1.heap.Ns mainGlobals mg) (hb : s1.heap.Ns builtinsNs mb)
    (hbb : ∀ y : Str, y ≠ "__name__" → mb y = bootBuiltins y) (hlim : s1.heap.NoLimit) (hg : s1.gens = #[])
    (ha : s1.heap.get? a = some { cls := .type "list", data := .seq vs.toArray }) (hr : Room n callerA)
    (F : ∀ base : Heap, K.In base → base.Ns mainGlobals mg → FnG P w K mg base cx n fa fd [x] sp)
    (hbind : ∀ (s : Shared) (u : Value), BindsTo s fd ⟨[u], []⟩ [(x, u)])
    (hsp : sp [.ref a] H (fun v _ => v = .bl true) fun _ _ _ => False)
    (hCX : ∀ e s', cx [] H s1 (fun _ _ _ => False) e s' → False) :
    codeAny (model P w) callerA (.call (.ref fa) ⟨[.ref a], []⟩) (Yes s1) s1 := by
  -- the base: what isn't tracked
  let B := hidT s1.heap H
  have toB : ∀ {b : Addr} {o : Obj}, s1.heap.get? b = some o → H b = none → B.get? b = some o :=
    fun e z => hidT_get e z
  have notDict : ∀ {b : Addr} {o : Obj} {es : Array DictEntry} {m : Nat},
      s1.heap.get? b = some o → o.data = .dict es m → H b = none := by
    intro b o es m e d
    cases q : H b with
    | none => rfl
    | some u =>
      exfalso
      have eb : b = a := at_a b (by simp [q])
      rw [eb, ha] at e
      cases Option.some.inj e
      cases d
  have nsB : ∀ {b : Addr} {m : Str → Option Value}, s1.heap.Ns b m → B.Ns b m := by
    rintro b m ⟨o, es, ep, e, d, r⟩
    exact ⟨o, es, ep, toB e (notDict e d), d, r⟩
  have inB : K.In B := by
    intro b o e
    refine toB (KX b o e) ?_
    cases q : H b with
    | none => rfl
    | some u =>
      have eb : b = a := at_a b (by simp [q])
      have z := noK (by rw [← eb, q]; simp)
      rw [eb, z] at e
      cases e
  have modB : Mod K mg B := by
    obtain ⟨mc, l1, l2⟩ := hlim
    exact ⟨inB, nsB hns, ⟨mb, nsB hb, hbb⟩, ⟨mc, nsB l1, l2⟩⟩
  have nil : ∀ {b : Addr}, b ∉ ([] : List Addr) := fun z => nomatch z
  have e0 : Env0 P w K mg B callerA [] s1 H :=
    ⟨rfl, modB, fun b o e => of_hidT e, Nat.le_of_eq (hidT_size _ _), trivial, fun b z => (nil z).elim, hok, .of_eq hg⟩
  have got := (F B inB (nsB hns)).run callerA [] s1 H ⟨[.ref a], []⟩ [.ref a] [.ref a] _ _ rfl hr e0
    (hbind s1 (.ref a)) (.cons rfl .nil) hsp
  refine codeAny_mono got ?_
  intro r s' z
  cases r with
  | error er => exact (hCX er s' z).elim
  | ok fl =>
    cases fl with
    | ret u =>
      obtain ⟨v, H', os, bare, un, hok', rv, q⟩ := z
      obtain rfl : v = .bl true := q
      obtain rfl : u = Value.bool true := rv
      refine ⟨rfl, OldK.of_keep ?_, os, bare⟩
      intro b o e
      cases q : H b with
      | none => exact un.keep b o e q (fun z => (nil z).elim) (fun z => (nil z).elim)
      | some u =>
        rcases only b with z | ⟨ob, xs, z⟩
        · exact nomatch q.symm.trans z
        · obtain ⟨g1, _⟩ := hok b _ z
          obtain ⟨g2, _⟩ := hok' b _ (un.frzs b ob _ z)
          exact g2.trans (g1.symm.trans e)
    | _ => exact False.elim z

theorem law_callG (KX : K.In s1.heap) (hns : s1.heap.Ns mainGlobals mg) (hb : s1.heap.Ns builtinsNs mb)
    (hbb : ∀ y : Str, y ≠ "__name__" → mb y = bootBuiltins y) (hlim : s1.heap.NoLimit) (hg : s1.gens = #[])
    (ha : s1.heap.get? a = some { cls := .type "list", data := .seq vs.toArray }) (hi : IntsAre vs ns)
    (hl : ns.length ≤ sizeLine) (hr : Room n callerA)
    (F : ∀ base : Heap, K.In base → base.Ns mainGlobals mg → FnG P w K mg base cx n fa fd [x] sp)
    (hbind : ∀ (s : Shared) (u : Value), BindsTo s fd ⟨[u], []⟩ [(x, u)])
    (hsp : ∀ H : Hp, Only H → SqL K H a (ns.map V.int) → sp [.ref a] H (fun v _ => v = .bl true) fun _ _ _ => False)
    (hCX : ∀ H e s', cx [] H s1 (fun _ _ _ => False) e s' → False) :
    codeAny (model P w) callerA (.call (.ref fa) ⟨[.ref a], []⟩) (Yes s1) s1 := by
  have rv := vals_ints hi
  have hz : vs.toArray.size ≤ sizeLine := by
    rw [List.size_toArray, hi.length]
    exact hl
  cases hk : K.lookup a with
  | some o =>
    have e : some o = some _ := (KX a o hk).symm.trans ha
    cases e
    have here : SqL K (fun _ => none) a (ns.map V.int) := .inr ⟨_, vs.toArray, _, hk, rfl, rfl, rfl, hz, by simpa using rv⟩
    have only : Only (fun _ => none) := fun _ => .inl rfl
    exact begun (fun _ => none) only here (fun b u z => nomatch z) (fun b z => absurd rfl z) (fun z => absurd rfl z)
      KX hns hb hbb hlim hg ha hr F hbind (hsp _ only here) (hCX _)
  | none =>
    let H : Hp := fun b => if b = a then some (.frz { cls := .type "list", data := .seq vs.toArray } (.lst (ns.map V.int))) else none
    have Ha : H a = some (.frz { cls := .type "list", data := .seq vs.toArray } (.lst (ns.map V.int))) := if_pos rfl
    have Hn : ∀ {b : Addr}, b ≠ a → H b = none := fun z => if_neg z
    have only : Only H := by
      intro b
      by_cases eb : b = a
      · right
        subst eb
        exact ⟨_, _, Ha⟩
      · left
        exact Hn eb
    have here : SqL K H a (ns.map V.int) := .inl (.inr ⟨_, Ha⟩)
    refine begun H only here ?_ ?_ (fun _ => hk) KX hns hb hbb hlim hg ha hr F hbind (hsp _ only here) (hCX _)
    · intro b u z
      by_cases eb : b = a
      · subst eb
        rw [Ha] at z
        cases z
        exact ⟨ha, by rw [List.length_map]; exact hl, vs, _, rv, ha⟩
      · rw [Hn eb] at z
        cases z
    · intro b z
      by_cases eb : b = a
      · exact eb
      · exact absurd (Hn eb) z
end

theorem walkG {l : PySem.W.OpenLaw} {m n : Nat} {q : Program} {loose : List Str} {XP : (Str → Option Value) → Heap → Prop}
    {YP : World → Heap → Prop} {d : DefRec} {K : Params → PySem.W.Frag} {sp : PySem.W.Frag → Sp} {x : Str}
    (hn : l.most = some m) (hm : m ≤ sizeLine) (hdf : d.params.defaults = []) (hr : Room n callerA)
    (hY : ∀ (w : World) (h : Heap), YP w h → (K w.params).In h)
    (F : ∀ (w : World) (mg : Str → Option Value) (fa : Addr) (h : Heap), (K w.params).In h → h.Ns mainGlobals mg →
      mg d.name = some (.ref fa) → ∃ fd : FuncData, (∀ (s : Shared) (u : Value), BindsTo s fd ⟨[u], []⟩ [(x, u)]) ∧
        ∀ base : Heap, (K w.params).In base → base.Ns mainGlobals mg →
          FnG l.prog w (K w.params) mg base CX0 n fa fd [x] (sp (K w.params)))
    (hsp : ∀ (K : PySem.W.Frag) (H : Hp) (a : Addr) (ns : List Int), ns.length ≤ m →
      (∀ z ∈ ns, Builtin.Int.intBits z ≤ 1048576) → Only H → SqL K H a (ns.map V.int) →
      sp K [.ref a] H (fun v _ => v = .bl true) fun _ _ _ => False) :
    PySem.W.WalkO q loose XP YP l.row.toRowW d [] (fun f vs => PySem.call f vs) := by
  refine Att.attach_callB hn hdf ?_
  intro w s0 s1 mg mb fa o pm cd dc a vs ns G Y ho hd hcd hmg hobj hints hlen hbits hg
  have KX := hY w _ Y
  obtain ⟨fd, hb, hF⟩ := F w mg fa _ KX G.T.g hmg
  exact law_callG KX G.T.g G.T.b G.T.builtins G.T.nolimit hg hobj hints (Nat.le_trans hlen hm) hr hF hb
    (fun H only hS => hsp _ H a ns hlen hbits only hS) fun H e s' z => z.elim
end Gd
end

section
set_option Elab.async false
set_option linter.all false
set_option maxRecDepth 100000
set_option maxHeartbeats 4000000
/-! What the laws draw from: a list of three numbers, of which each draw takes one more. -/
namespace Gd
open PySem PySem.Spec PyProof.Rows L2

/-- at p: what is left of a great number, the seed, how many were drawn, at most S -/
def Feed (H : Hp) (p : Addr) (S : Int) : Prop := ∃ g x s : Int, H p = some (.lst [.int g, .int x, .int s]) ∧ 0 ≤ s ∧ s ≤ S
theorem Feed.le {H : Hp} {p : Addr} {S T : Int} (h : Feed H p S) (l : S ≤ T) : Feed H p T := by
  obtain ⟨g, x, s, e, a, b⟩ := h
  exact ⟨g, x, s, e, a, by omega⟩
theorem Feed.here {H : Hp} {p : Addr} {S g x s : Int} (h0 : 0 ≤ s) (h : s ≤ S) : Feed (upd H p (.lst [.int g, .int x, .int s])) p S :=
  ⟨g, x, s, upd_same, h0, h⟩
theorem Feed.stays {H : Hp} {p q : Addr} {S : Int} {o : HO} (h : Feed H p S) (n : H q = none) : Feed (upd H q o) p S := by
  obtain ⟨g, x, s, e, a, b⟩ := h
  refine ⟨g, x, s, ?_, a, b⟩
  rw [upd_ne (ne_of_none e n)]
  exact e
/-- all is as it was, but at p -/
def Ex1 (p : Addr) (H H' : Hp) : Prop := ∀ a o, a ≠ p → H a = some o → H' a = some o
theorem Ex1.refl (p : Addr) (H : Hp) : Ex1 p H H := fun _ _ _ h => h
theorem Ex1.trans {p : Addr} {H H1 H2 : Hp} (a : Ex1 p H H1) (b : Ex1 p H1 H2) : Ex1 p H H2 := fun x o n h => b x o n (a x o n h)
theorem Ex1.at {p : Addr} {H : Hp} {o : HO} : Ex1 p H (upd H p o) := fun a u n e => by
  rw [upd_ne n]
  exact e
theorem Ex1.new {p q : Addr} {H : Hp} {o : HO} (n : H q = none) : Ex1 p H (upd H q o) := fun a u _ e => by
  rw [upd_ne (ne_of_none e n)]
  exact e

theorem Feed.lst {H : Hp} {p : Addr} {S : Int} (h : Feed H p S) : ∃ xs, H p = some (.lst xs) := by
  obtain ⟨g, x, s, e, _⟩ := h
  exact ⟨_, e⟩
theorem Feed.ne {H : Hp} {p q : Addr} {S : Int} (h : Feed H p S) (n : H q = none) : q ≠ p := fun z => by
  obtain ⟨xs, e⟩ := h.lst
  rw [z, e] at n
  cases n
def spTake : Sp := fun vs H Q _ => ∃ (p : Addr) (m S : Int), vs = [.ref p, .int m] ∧ Feed H p S ∧ 0 < m ∧ m < 1073741824 ∧
  S ≤ 1000000000 ∧ ∀ (r : Int) (H' : Hp), 0 ≤ r → r < m → Feed H' p (S + 1) → Ex1 p H H' → Q (.int r) H'

theorem fmod_in (a : Int) {b : Int} (h : 0 < b) : 0 ≤ a.fmod b ∧ a.fmod b < b :=
  ⟨Int.fmod_nonneg_of_pos a h, Int.fmod_lt_of_pos a h⟩
end Gd
end

section
set_option Elab.async false
set_option linter.all false
set_option maxRecDepth 100000
set_option maxHeartbeats 4000000
/-! Data: numbers, texts, truths, None, tuples of such. -/
namespace Gd
open PySem PySem.Spec PyProof.Rows L2

mutual
def tupOnly : PyData → Bool
  | .none => true
  | .bool _ => true
  | .int _ => true
  | .str _ => true
  | .tuple ds => decide (ds.length ≤ 1000) && tupOnlyAll ds
  | .list _ => false
  | .dict _ => false
def tupOnlyAll : List PyData → Bool
  | [] => true
  | d :: ds => tupOnly d && tupOnlyAll ds
end

/-- tuples stay -/
def Tups (K : PySem.W.Frag) (H H' : Hp) : Prop := ∀ a xs, SqT K H a xs → SqT K H' a xs
theorem Tups.refl {K : PySem.W.Frag} {H : Hp} : Tups K H H := fun _ _ h => h
theorem Tups.trans {K : PySem.W.Frag} {H H1 H2 : Hp} (a : Tups K H H1) (b : Tups K H1 H2) : Tups K H H2 := fun x y h => b x y (a x y h)
theorem Tups.upd_lst {K : PySem.W.Frag} {H : Hp} {D : Addr} {xs ys : List V} (e : H D = some (.lst xs)) : Tups K H (upd H D (.lst ys)) := by
  intro a zs h
  rcases h with (h | ⟨o, h⟩) | h
  · refine .inl (.inl ?_)
    rw [upd_ne (fun z => by rw [z, e] at h; cases h)]
    exact h
  · refine .inl (.inr ⟨o, ?_⟩)
    rw [upd_ne (fun z => by rw [z, e] at h; cases h)]
    exact h
  · exact .inr h
theorem Tups.of_same {K : PySem.W.Frag} {H H' : Hp} (s : Same H H') : Tups K H H' := by
  intro a zs h
  rcases h with (h | ⟨o, h⟩) | h
  · exact .inl (.inl (s _ _ h))
  · exact .inl (.inr ⟨o, s _ _ h⟩)
  · exact .inr h

theorem Tups.new {K : PySem.W.Frag} {H : Hp} {q : Addr} {o : HO} (n : H q = none) : Tups K H (upd H q o) :=
  .of_same fun b u e => by
    rw [upd_ne (ne_of_none e n)]
    exact e
theorem Ex1.tups {K : PySem.W.Frag} {H H' : Hp} {p : Addr} {xs : List V} (x : Ex1 p H H') (e : H p = some (.lst xs)) : Tups K H H' := by
  intro a zs h
  rcases h with (h | ⟨o, h⟩) | h
  · exact .inl (.inl (x _ _ (fun z => by rw [z, e] at h; cases h) h))
  · exact .inl (.inr ⟨o, x _ _ (fun z => by rw [z, e] at h; cases h) h⟩)
  · exact .inr h
section
variable {K : PySem.W.Frag} {H H' : Hp}
mutual
theorem Dp.tups (t : Tups K H H') : ∀ (d : PyData) {v : V}, tupOnly d = true → Dp K H v d → Dp K H' v d
  | .none, _, _, h => by cases h; exact .non
  | .bool _, _, _, h => by cases h; exact .bl _
  | .int _, _, _, h => by cases h; exact .int _
  | .str _, _, _, h => by cases h; exact .str _
  | .tuple ds, _, o, h => by
    cases h with
    | tup a b =>
      simp only [tupOnly, Bool.and_eq_true] at o
      exact .tup (t _ _ a) (DpAll.tups t ds o.2 b)
  | .list _, _, o, _ => by simp [tupOnly] at o
  | .dict _, _, _, h => by cases h
theorem DpAll.tups (t : Tups K H H') : ∀ (ds : List PyData) {vs : List V}, tupOnlyAll ds = true → DpAll K H vs ds → DpAll K H' vs ds
  | [], _, _, h => by cases h; exact .nil
  | d :: ds, _, o, h => by
    simp only [tupOnlyAll, Bool.and_eq_true] at o
    cases h with
    | cons a b => exact .cons (Dp.tups t d o.1 a) (DpAll.tups t ds o.2 b)
end
mutual
theorem Dp.same (s : Same H H') : ∀ (d : PyData) {v : V}, Dp K H v d → Dp K H' v d
  | .none, _, h => by cases h; exact .non
  | .bool _, _, h => by cases h; exact .bl _
  | .int _, _, h => by cases h; exact .int _
  | .str _, _, h => by cases h; exact .str _
  | .tuple ds, _, h => by
    cases h with
    | tup a b => exact .tup (Tups.of_same s _ _ a) (DpAll.same s ds b)
  | .list ds, _, h => by
    cases h with
    | lst a b => exact .lst (s.seq a) (DpAll.same s ds b)
  | .dict _, _, h => by cases h
theorem DpAll.same (s : Same H H') : ∀ (ds : List PyData) {vs : List V}, DpAll K H vs ds → DpAll K H' vs ds
  | [], _, h => by cases h; exact .nil
  | d :: ds, _, h => by
    cases h with
    | cons a b => exact .cons (Dp.same s d a) (DpAll.same s ds b)
end
theorem DpAll.len : ∀ {vs : List V} {ds : List PyData}, DpAll K H vs ds → vs.length = ds.length
  | _, _, .nil => rfl
  | _, _, .cons _ b => congrArg (· + 1) (DpAll.len b)
theorem DpAll.at_ : ∀ {vs : List V} {ds : List PyData} {i : Nat} {v : V}, DpAll K H vs ds → vs[i]? = some v → ∃ d, ds[i]? = some d ∧ Dp K H v d
  | _, _, _, _, .nil, e => by simp at e
  | _, _, 0, _, .cons a _, e => by
    cases Option.some.inj e
    exact ⟨_, rfl, a⟩
  | _, _, i + 1, _, .cons _ b, e => DpAll.at_ (i := i) b e
theorem DpAll.snoc : ∀ {vs : List V} {ds : List PyData} {v : V} {d : PyData}, DpAll K H vs ds → Dp K H v d → DpAll K H (vs ++ [v]) (ds ++ [d])
  | _, _, _, _, .nil, h => .cons h .nil
  | _, _, _, _, .cons a b, h => .cons a (DpAll.snoc b h)
theorem tupOnlyAll_at : ∀ {ds : List PyData} {i : Nat} {d : PyData}, tupOnlyAll ds = true → ds[i]? = some d → tupOnly d = true
  | [], _, _, _, e => by simp at e
  | x :: r, 0, d, o, e => by
    simp only [tupOnlyAll, Bool.and_eq_true] at o
    cases Option.some.inj e
    exact o.1
  | x :: r, i + 1, d, o, e => by
    simp only [tupOnlyAll, Bool.and_eq_true] at o
    exact tupOnlyAll_at (i := i) o.2 e
theorem tupOnlyAll_take : ∀ {ds : List PyData}, tupOnlyAll ds = true → ∀ i : Nat, tupOnlyAll (ds.take i) = true
  | [], _, i => by rw [List.take_nil] <;> rfl
  | x :: r, o, 0 => rfl
  | x :: r, o, i + 1 => by
    simp only [tupOnlyAll, Bool.and_eq_true] at o
    simp only [List.take_succ_cons, tupOnlyAll, Bool.and_eq_true]
    exact ⟨o.1, tupOnlyAll_take o.2 i⟩
theorem depth_at : ∀ {ds : List PyData} {i : Nat} {d : PyData}, ds[i]? = some d → d.depth ≤ PyData.depthAll ds
  | [], _, _, e => by simp at e
  | x :: r, 0, d, e => by
    cases Option.some.inj e
    simp only [PyData.depthAll]
    omega
  | x :: r, i + 1, d, e => by
    have h := depth_at (ds := r) (i := i) e
    simp only [PyData.depthAll]
    omega
end

/-- the built-in class of data -/
def kindN : PyData → String
  | .none => "NoneType"
  | .bool _ => "bool"
  | .int _ => "int"
  | .str _ => "str"
  | .list _ => "list"
  | .tuple _ => "tuple"
  | .dict _ => "dict"
theorem Dp.kind {K : PySem.W.Frag} {H : Hp} {v : V} {d : PyData} (h : Dp K H v d) (o : tupOnly d = true) : TyX K H v (.type (kindN d)) := by
  cases h with
  | non => exact .base .non
  | bl b => exact .base (.bl b)
  | int i => exact .base (.int i)
  | str x => exact .base (.str x)
  | lst _ _ => simp [tupOnly] at o
  | tup a _ =>
    rcases a with (a | ⟨z, a⟩) | ⟨z, its, n, a, c, _⟩
    · exact .base (.tup a)
    · exact .fTuple a
    · exact .kTuple a c
section
theorem kb0 : kitB "NoneType" "list" = some false ∧ kitB "NoneType" "tuple" = some false ∧ kitB "NoneType" "dict" = some false := by decide +kernel
theorem kb1 : kitB "bool" "list" = some false ∧ kitB "bool" "tuple" = some false ∧ kitB "bool" "dict" = some false := by decide +kernel
theorem kb2 : kitB "int" "list" = some false ∧ kitB "int" "tuple" = some false ∧ kitB "int" "dict" = some false := by decide +kernel
theorem kb3 : kitB "str" "list" = some false ∧ kitB "str" "tuple" = some false ∧ kitB "str" "dict" = some false := by decide +kernel
theorem kb4 : kitB "tuple" "list" = some false ∧ kitB "tuple" "tuple" = some true ∧ kitB "tuple" "dict" = some false := by decide +kernel
theorem kind_list {d : PyData} (o : tupOnly d = true) : kitB (kindN d) "list" = some false := by
  cases d with
  | none => exact kb0.1
  | bool b => exact kb1.1
  | int i => exact kb2.1
  | str x => exact kb3.1
  | tuple ds => exact kb4.1
  | list ds => simp [tupOnly] at o
  | dict ds => simp [tupOnly] at o
theorem kind_dict {d : PyData} (o : tupOnly d = true) : kitB (kindN d) "dict" = some false := by
  cases d with
  | none => exact kb0.2.2
  | bool b => exact kb1.2.2
  | int i => exact kb2.2.2
  | str x => exact kb3.2.2
  | tuple ds => exact kb4.2.2
  | list ds => simp [tupOnly] at o
  | dict ds => simp [tupOnly] at o
theorem kind_tuple {d : PyData} (o : tupOnly d = true) (n : ¬ ∃ ds, d = .tuple ds) : kitB (kindN d) "tuple" = some false := by
  cases d with
  | none => exact kb0.2.1
  | bool b => exact kb1.2.1
  | int i => exact kb2.2.1
  | str x => exact kb3.2.1
  | tuple ds => exact absurd ⟨ds, rfl⟩ n
  | list ds => simp [tupOnly] at o
  | dict ds => simp [tupOnly] at o
end
end Gd
end

section
set_option Elab.async false
set_option linter.all false
set_option maxRecDepth 100000
set_option maxHeartbeats 4000000
/-! repr of data, the reading of a promise that is free of texts under way. -/
namespace Gd
open PySem PySem.Spec PyProof.Rows L2

section
variable {K : PySem.W.Frag} {H : Hp}
mutual
theorem Dp.plain : ∀ (d : PyData) {v : V}, Dp K H v d → d.hasDict = false
  | .none, _, _ => by simp only [PyData.hasDict]
  | .bool _, _, _ => by simp only [PyData.hasDict]
  | .int _, _, _ => by simp only [PyData.hasDict]
  | .str _, _, _ => by simp only [PyData.hasDict]
  | .list ds, _, h => by
    cases h with
    | lst _ k =>
      simp only [PyData.hasDict]
      exact DpAll.plain ds k
  | .tuple ds, _, h => by
    cases h with
    | tup _ k =>
      simp only [PyData.hasDict]
      exact DpAll.plain ds k
  | .dict _, _, h => by cases h
theorem DpAll.plain : ∀ (ds : List PyData) {vs : List V}, DpAll K H vs ds → PyData.hasDictAll ds = false
  | [], _, _ => by simp only [PyData.hasDictAll]
  | d :: ds, _, h => by
    cases h with
    | cons a b =>
      simp only [PyData.hasDictAll, Dp.plain d a, DpAll.plain ds b, Bool.or_self]
end
end

/-- repr(x), x data -/
def rRepr (K : PySem.W.Frag) : List V → Hp → VK → Prop := fun xs H Q =>
  ∃ (x : V) (d : PyData), xs = [x] ∧ Dp K H x d ∧ d.showable = true ∧ d.shown.length ≤ sizeLine ∧ d.depth ≤ 60 ∧ Q (.str d.shown) H

section
variable {X : Cx}
theorem call_repr (g : Free X.A) (hu : X.A.units + 64 < cLine) : CallR X (.builtin "repr") (rRepr X.K) := by
  intro pins s σ H xs us Q I r h
  obtain ⟨x, d, rfl, hd, hs, hz, hdp, q⟩ := h
  obtain ⟨u, rfl, ru⟩ := r.one
  have pl := Dp.plain d hd
  obtain ⟨as, rd⟩ := Dp.reads I d x u hd ru
  have fin : ∀ (h' : Heap) (tk tk' : Nat), (∀ b o, s.heap.get? b = some o → h'.get? b = some o) →
      EP X pins σ Q (.str d.shown tk) { s with heap := h', toks := tk' } :=
    fun h' tk tk' k => ⟨.str d.shown, H, I.kept k, ⟨tk, rfl⟩, q⟩
  have fin0 : ∀ (tk tk' : Nat), EP X pins σ Q (.str d.shown tk) { s with toks := tk' } :=
    fun tk tk' => ⟨.str d.shown, H, I.tok tk', ⟨tk, rfl⟩, q⟩
  cases rd with
  | none => exact P.repr_of_none (fin0 _ _)
  | bool b => exact P.repr_of_bool (fin0 _ _)
  | int i t => exact P.repr_of_int (by simpa [PyData.showable] using hs) (fin0 _ _)
  | str z t => exact P.repr_of_str (fin0 _ _) hz
  | list h1 h2 h3 h4 =>
    exact repr_of_reads' (.list h1 h2 h3 h4) hs (PyData.noDict_hsm pl) g (by omega) (fun _ _ e => e) (fun h' u tk k => fin h' u tk k) hz
  | tuple h1 h2 h3 h4 =>
    exact repr_of_reads' (.tuple h1 h2 h3 h4) hs (PyData.noDict_hsm pl) g (by omega) (fun _ _ e => e) (fun h' u tk k => fin h' u tk k) hz
  | dict h1 h2 h3 h4 h5 => simp [PyData.hasDict] at pl
end
end Gd
end

section
set_option Elab.async false
set_option linter.all false
set_option maxRecDepth 100000
set_option maxHeartbeats 4000000
/-! Lists of ints and slabs in the heap; what they show. -/
namespace Gd
open PySem PySem.Spec PyProof.Rows L2
theorem int_shown {i : Int} (h : i.natAbs ≤ 10 ^ 40) : (PyData.int i).shown.length ≤ 100 ∧ i.natAbs.log2 < 1920 ∧ (PyData.int i).weight ≤ 200 := by
  have h1 : i.natAbs < 10 ^ 41 := Nat.lt_of_le_of_lt h (by decide)
  have hl : i.natAbs.log2 < 190 := by
    by_cases z : i.natAbs = 0
    · rw [z]; decide
    · exact (Nat.log2_lt z).mpr (Nat.lt_of_lt_of_le h1 (by decide +kernel))
  refine ⟨?_, by omega, ?_⟩
  · have e := int_text_length_le10 (k := 41) (by decide) h1
    have e2 : (PyData.int i).shown.length = (toString i).length := by
      show (Str.ofString (toString i)).length = _
      rw [PySem.ofString_length]
    omega
  · simp only [PyData.weight]
    split <;> omega
theorem ints_leaves : ∀ {ns : List Int}, (∀ i ∈ ns, i.natAbs ≤ 10 ^ 40) → PyData.leavesShortAll 100 (ns.map .int) = true ∧ PyData.showableAll (ns.map .int) = true ∧ PyData.weightAll (ns.map .int) ≤ 201 * ns.length ∧ PyData.depthAll (ns.map .int) = 0
  | [], _ => ⟨rfl, rfl, Nat.zero_le _, rfl⟩
  | i :: ns, h => by
    obtain ⟨a, b, c, d⟩ := ints_leaves (ns := ns) fun j hj => h j (by simp [hj])
    obtain ⟨e1, e2, e3⟩ := int_shown (h i (by simp))
    refine ⟨?_, ?_, ?_, ?_⟩
    · simp only [List.map_cons, PyData.leavesShortAll, a, Bool.and_true, PyData.leavesShort, decide_eq_true_eq]
      exact e1
    · simp only [List.map_cons, PyData.showableAll, b, Bool.and_true, PyData.showable, decide_eq_true_eq]
      exact e2
    · simp only [List.map_cons, PyData.weightAll, List.length_cons]
      omega
    · simp only [List.map_cons, PyData.depthAll, d, PyData.depth]
      omega
/-- repr of a list of ints is served -/
theorem ints_shown {ns : List Int} (h : ∀ i ∈ ns, i.natAbs ≤ 10 ^ 40) (hl : ns.length ≤ 700) :
    (PyData.list (ns.map .int)).showable = true ∧ (PyData.list (ns.map .int)).shown.length ≤ sizeLine ∧ (PyData.list (ns.map .int)).depth ≤ 60 := by
  obtain ⟨a, b, c, d⟩ := ints_leaves h
  have hs := PyData.shown_le 100 (by decide) (.list (ns.map .int)) (by simpa only [PyData.leavesShort] using a)
  have hw : (PyData.list (ns.map .int)).weight ≤ 201 * ns.length + 1 := by
    simp only [PyData.weight]
    omega
  have z : sizeLine = 16777216 := rfl
  refine ⟨by simpa only [PyData.showable] using b, by omega, ?_⟩
  simp only [PyData.depth, d]
  omega
theorem one_shown {i : Int} (h : i.natAbs ≤ 10 ^ 40) : (PyData.int i).showable = true ∧ (PyData.int i).shown.length ≤ sizeLine ∧ (PyData.int i).depth ≤ 60 := by
  obtain ⟨e1, e2, e3⟩ := int_shown h
  have z : sizeLine = 16777216 := rfl
  refine ⟨by simpa [PyData.showable] using e2, by omega, by simp only [PyData.depth]; omega⟩
theorem ints_dp {K : PySem.W.Frag} {H : Hp} : ∀ ns : List Int, DpAll K H (ns.map V.int) (ns.map .int)
  | [] => .nil
  | i :: ns => .cons (.int i) (ints_dp ns)
theorem list_dp {K : PySem.W.Frag} {H : Hp} {a : Addr} {ns : List Int} (h : SqL K H a (ns.map V.int)) : Dp K H (.ref a) (.list (ns.map .int)) := .lst h (ints_dp ns)

/-! what stays -/
theorem new_same {H : Hp} {q : Addr} {o : HO} (n : H q = none) : Same H (upd H q o) := fun b u e => by
  rw [upd_ne (ne_of_none e n)]
  exact e
/-- a new object may change -/
theorem own_same {H H' : Hp} {q : Addr} {o : HO} (n : H q = none) (s : Same H H') : Same H (upd H' q o) := fun b u e => by
  rw [upd_ne (ne_of_none e n)]
  exact s b u e
theorem same_tup {K : PySem.W.Frag} {H H' : Hp} (s : Same H H') {a : Addr} {xs : List V} (h : SqT K H a xs) : SqT K H' a xs := by
  rcases h with (h | ⟨o, h⟩) | h
  · exact .inl (.inl (s _ _ h))
  · exact .inl (.inr ⟨o, s _ _ h⟩)
  · exact .inr h
/-- slabs at a: a list of pairs -/
def SlabsAt (K : PySem.W.Frag) (H : Hp) (a : Addr) (ss : List (Nat × Int)) : Prop :=
  ∃ bs : List Addr, SqL K H a (bs.map V.ref) ∧ bs.length = ss.length ∧ ∀ (i : Nat) (b : Addr) (s : Nat × Int), bs[i]? = some b → ss[i]? = some s → SqT K H b [.int (s.1 : Nat), .int s.2]
theorem SlabsAt.same {K : PySem.W.Frag} {H H' : Hp} {a : Addr} {ss : List (Nat × Int)} (h : SlabsAt K H a ss) (s : Same H H') : SlabsAt K H' a ss := by
  obtain ⟨bs, h1, h2, h3⟩ := h
  exact ⟨bs, s.seq h1, h2, fun i b t e1 e2 => same_tup s (h3 i b t e1 e2)⟩
theorem map_at {α : Type} {f : α → V} {xs : List α} {i : Nat} {v : V} (h : (xs.map f)[i]? = some v) : ∃ x, xs[i]? = some x ∧ v = f x := by
  rw [List.getElem?_map] at h
  cases e : xs[i]? with
  | none => rw [e] at h; cases h
  | some x => rw [e] at h; exact ⟨x, rfl, (Option.some.inj h).symm⟩
theorem at_of {α : Type} {xs : List α} {i n : Nat} (hl : xs.length = n) (h : i < n) : ∃ x, xs[i]? = some x := ⟨xs[i]'(by omega), List.getElem?_eq_getElem (by omega)⟩
theorem at_lt {α : Type} {xs : List α} {i : Nat} {x : α} (h : xs[i]? = some x) : i < xs.length := (List.getElem?_eq_some_iff.mp h).1
theorem getD_at {l : List Int} {i : Nat} (h : i < l.length) : l[i]? = some (l.getD i 0) := by
  rw [List.getD_eq_getElem?_getD, List.getElem?_eq_getElem h] <;> rfl
theorem ints_at {l : List Int} {i : Nat} (h : i < l.length) : (l.map V.int)[i]? = some (.int (l.getD i 0)) := by
  rw [List.getElem?_map, getD_at h] <;> rfl
theorem ints_atI {l : List Int} {i : Nat} (h : i < l.length) : atI (l.map V.int) ((i : Nat) : Int) = some (.int (l.getD i 0)) := atI_nat (ints_at h)
theorem take_at {α : Type} {xs : List α} {i : Nat} {x : α} (h : xs[i]? = some x) : xs.take (i + 1) = xs.take i ++ [x] := by
  rw [List.take_add_one, h] <;> rfl
theorem map_set {l : List Int} {i : Nat} {v : Int} : (l.map V.int).set i (.int v) = (l.set i v).map V.int := by
  rw [List.map_set]
section
variable {X : Cx}
/-- l[j], j from nought on, in l[j] op= x -/
def rGetL (K : PySem.W.Frag) : V → V → Hp → VK → Prop := fun o i H Q => ∃ (p : Addr) (xs : List V) (j : Nat) (v : V), o = .ref p ∧ i = .int (j : Nat) ∧ SqL K H p xs ∧ xs[j]? = some v ∧ Q v H
theorem get_list : PGet X (rGetL X.K) := by
  intro pins s σ H o i ov iv Q I r1 r2 h
  obtain ⟨p, xs, j, v, rfl, rfl, hq, he, q⟩ := h
  cases r1
  obtain ⟨t, rfl⟩ := r2
  obtain ⟨its, r, pl, hz⟩ := I.list hq
  obtain ⟨u, eu, ru⟩ := r.get he
  have hl := r.length
  have lt := at_lt he
  have zz : sizeLine = 16777216 := rfl
  have hi := at_lt eu
  refine wpAny_getItem_list pl.isList (by omega) (by omega) ?_ ⟨v, H, I, ru, q⟩
  simpa using eu
end
theorem ixN_nat {n j : Nat} (h : j < n) : ixN n (j : Int) = some j := by
  unfold ixN
  rw [if_pos (by omega), if_pos (by omega)] <;> simp
end Gd
end

section
set_option Elab.async false
set_option linter.all false
set_option maxRecDepth 100000
set_option maxHeartbeats 4000000
namespace Gd
open PySem PySem.Spec PyProof.Rows L2
section
variable {X : Cx}
/-- a list beside [] -/
def rL0 (K : PySem.W.Frag) (neg : Bool) : R2 := fun x y H Q => ∃ a b xs, x = .ref a ∧ y = .ref b ∧ SqL K H a xs ∧ SqL K H b [] ∧ Q (.bl (if neg then !xs.isEmpty else xs.isEmpty)) H
theorem op_eqL0 (hu : X.A.units < cLine) : OpR X (compareOp .Eq) (rL0 X.K false) := by
  intro pins s σ H x y v u Q I rx ry h
  obtain ⟨a, b, xs, rfl, rfl, ha, hb, q⟩ := h
  cases rx
  cases ry
  obtain ⟨its, r, pl, _⟩ := I.list ha
  obtain ⟨its2, r2, pl2, _⟩ := I.list hb
  cases r2
  cases r with
  | nil => exact SeqAt.RcAt.lists (e := fun _ => true) pl.isList pl2.isList rfl hu (fun j h1 _ => absurd h1 (by simp)) _ _ _ _ ⟨.bl _, H, I, rfl, q⟩
  | cons _ _ => exact SeqAt.RcAt.lists_lengths pl.isList pl2.isList (by simp) hu _ _ _ _ ⟨.bl _, H, I, rfl, q⟩
theorem op_neL0 (hu : X.A.units < cLine) : OpR X (compareOp .NotEq) (rL0 X.K true) := by
  intro pins s σ H x y v u Q I rx ry h
  obtain ⟨a, b, xs, rfl, rfl, ha, hb, q⟩ := h
  cases rx
  cases ry
  obtain ⟨its, r, pl, _⟩ := I.list ha
  obtain ⟨its2, r2, pl2, _⟩ := I.list hb
  cases r2
  cases r with
  | nil => exact SeqAt.RcNeAt.lists (e := fun _ => true) pl.isList pl2.isList rfl hu (fun j h1 _ => absurd h1 (by simp)) _ _ _ _ ⟨.bl _, H, I, rfl, q⟩
  | cons _ _ => exact SeqAt.RcNeAt.lists_lengths pl.isList pl2.isList (by simp) hu _ _ _ _ ⟨.bl _, H, I, rfl, q⟩
end
/-! what stays through draws -/
theorem ex1_of_same {p : Addr} {H H' : Hp} (s : Same H H') : Ex1 p H H' := fun b u _ e => s b u e
theorem ex1_own {p q : Addr} {H H' : Hp} {o : HO} (n : H q = none) (x : Ex1 p H H') : Ex1 p H (upd H' q o) := fun b u nb e => by
  rw [upd_ne (ne_of_none e n)]
  exact x b u nb e
theorem Feed.off {H : Hp} {p q : Addr} {S : Int} {o : HO} (F : Feed H p S) (n : q ≠ p) : Feed (upd H q o) p S := by
  obtain ⟨g, x, s, e, a, b⟩ := F
  exact ⟨g, x, s, by rw [upd_ne n.symm]; exact e, a, b⟩
theorem Feed.kept {H H' : Hp} {p : Addr} {S : Int} (F : Feed H p S) (s : Same H H') : Feed H' p S := by
  obtain ⟨g, x, z, ep, a, b⟩ := F
  exact ⟨g, x, z, s _ _ ep, a, b⟩
theorem Feed.not {H : Hp} {p q : Addr} {S : Int} (F : Feed H p S) (n : H q = none) : q ≠ p := F.ne n
theorem ex1_tup {K : PySem.W.Frag} {H H' : Hp} {p a : Addr} {S : Int} {xs : List V} (F : Feed H p S) (x : Ex1 p H H') (h : SqT K H a xs) : SqT K H' a xs := by
  obtain ⟨ys, ep⟩ := F.lst
  rcases h with (h | ⟨o, h⟩) | h
  · exact .inl (.inl (x _ _ (fun z => by rw [z, ep] at h; cases h) h))
  · exact .inl (.inr ⟨o, x _ _ (fun z => by rw [z, ep] at h; cases h) h⟩)
  · exact .inr h
theorem ex1_seq {K : PySem.W.Frag} {H H' : Hp} {p a : Addr} {xs : List V} (n : a ≠ p) (x : Ex1 p H H') (h : SqL K H a xs) : SqL K H' a xs := by
  rcases h with (h | ⟨o, h⟩) | h
  · exact .inl (.inl (x _ _ n h))
  · exact .inl (.inr ⟨o, x _ _ n h⟩)
  · exact .inr h
theorem SlabsAt.drawn {K : PySem.W.Frag} {H H' : Hp} {p a : Addr} {S : Int} {ss : List (Nat × Int)} (h : SlabsAt K H a ss) (F : Feed H p S) (n : a ≠ p) (x : Ex1 p H H') : SlabsAt K H' a ss := by
  obtain ⟨bs, h1, h2, h3⟩ := h
  exact ⟨bs, ex1_seq n x h1, h2, fun i b t e1 e2 => ex1_tup F x (h3 i b t e1 e2)⟩
/-- a new object is not p, and was not there before the draws -/
theorem ex1_free {p q : Addr} {H H' : Hp} (x : Ex1 p H H') (n : q ≠ p) (h : H' q = none) : H q = none := by
  cases e : H q with
  | none => rfl
  | some o => rw [x q o n e] at h; cases h
theorem at_list {α : Type} {f : α → V} {xs : List α} {r : Int} (h0 : 0 ≤ r) (h1 : r < xs.length) : ∃ x, x ∈ xs ∧ atI (xs.map f) r = some (f x) := by
  have h2 : r.toNat < xs.length := by omega
  refine ⟨xs[r.toNat], List.getElem_mem h2, ?_⟩
  have e : ((r.toNat : Nat) : Int) = r := by omega
  have z : atI (xs.map f) ((r.toNat : Nat) : Int) = some (f xs[r.toNat]) := atI_nat (by rw [List.getElem?_map, List.getElem?_eq_getElem h2] <;> rfl)
  rw [e] at z
  exact z
end Gd
end

section
set_option Elab.async false
set_option linter.all false
set_option maxRecDepth 100000
set_option maxHeartbeats 4000000
/-! A pen: a list of the cells' list at c, the place of the next one, what is left of a great one. -/
namespace Gd
open PySem PySem.Spec PyProof.Rows L2
def Pen (H : Hp) (l c : Addr) (S : Int) : Prop := ∃ (ns : List Int) (t ov : Int), H l = some (.lst [.ref c, .int t, .int ov]) ∧ H c = some (.lst (ns.map V.int)) ∧ ns.length ≤ 63 ∧ 0 ≤ t ∧ t ≤ S
section
variable {H H' : Hp} {l c q : Addr} {S T : Int} {o : HO}
theorem Pen.le (h : Pen H l c S) (le : S ≤ T) : Pen H l c T := by
  obtain ⟨ns, t, ov, a, b, d, e, f⟩ := h
  exact ⟨ns, t, ov, a, b, d, e, by omega⟩
theorem Pen.apart (h : Pen H l c S) : l ≠ c := by
  obtain ⟨ns, t, ov, a, b, _⟩ := h
  intro e
  rw [e, b] at a
  cases ns with
  | nil => cases a
  | cons x r => cases a
theorem Pen.not (h : Pen H l c S) (n : H q = none) : q ≠ l ∧ q ≠ c := by
  obtain ⟨ns, t, ov, a, b, _⟩ := h
  exact ⟨fun e => (by rw [e, a] at n; cases n), fun e => (by rw [e, b] at n; cases n)⟩
theorem Pen.same (h : Pen H l c S) (s : Same H H') : Pen H' l c S := by
  obtain ⟨ns, t, ov, a, b, d, e, f⟩ := h
  exact ⟨ns, t, ov, s _ _ a, s _ _ b, d, e, f⟩
theorem Pen.off (h : Pen H l c S) (n1 : q ≠ l) (n2 : q ≠ c) : Pen (upd H q o) l c S := by
  obtain ⟨ns, t, ov, a, b, d, e, f⟩ := h
  exact ⟨ns, t, ov, by rw [upd_ne n1.symm]; exact a, by rw [upd_ne n2.symm]; exact b, d, e, f⟩
end
theorem sq_le {t B : Int} (h0 : 0 ≤ t) (h : t ≤ B) : 0 ≤ t * t ∧ t * t ≤ B * B := ⟨Int.mul_nonneg h0 h0, Int.mul_le_mul h h h0 (by omega)⟩
theorem mul_le {x t A B : Int} (hx : 0 ≤ x) (hA : x ≤ A) (h0 : 0 ≤ t) (h : t ≤ B) : 0 ≤ x * t ∧ x * t ≤ A * B := ⟨Int.mul_nonneg hx h0, Int.mul_le_mul hA h h0 (by omega)⟩
def spDraw : Sp := fun vs H Q _ => ∃ (l c : Addr) (m S : Int), vs = [.ref l, .int m] ∧ Pen H l c S ∧ 0 < m ∧ m < 1073741824 ∧ S ≤ 100000 ∧
  ∀ (r : Int) (H' : Hp), 0 ≤ r → r < m → Pen H' l c (S + 1) → Ex1 l H H' → Q (.int r) H'
end Gd
end

section
set_option Elab.async false
set_option linter.all false
set_option maxRecDepth 100000
set_option maxHeartbeats 4000000
/-! o.m(k=e, ..): a method of an own object, its arguments by their names alone. -/
namespace Gd
open PySem PySem.Spec PyProof.Rows L2
section
variable {X : Cx} {cx : CXT} {n : Nat} {C f : Addr} {fd : FuncData} {ps ks : List Str} {sp : Sp} {E : XK} {m : Str} {o : Expr} {apos pos : Pos} {kws : List Keyword} {ta : TE} {tk : TA}
  {g : List Value → List Value → List Value} {gV : List V → List V → List V}
def tMethKw (C : Addr) (m : Str) (sp : Sp) (gV : List V → List V → List V) (E : XK) (ta : TE) (tk : TA) : TE := fun σ H Q => ta σ H fun x H1 => ∃ a dx fs, x = .ref a ∧ H1 a = some (.ins C dx fs) ∧ fs.lookup m = none ∧
  tk σ H1 fun zs H2 => sp (gV [x] zs) H2 Q E
theorem pe_methKw {pl : Sem Bool} (he : PE X o ta) (c : Cls X.K C) (hm : Meth X.K C m f) (F : FnOk X.prog X.w X.K X.mg X.base cx n f fd ps sp) (hr : Room n X.A) (hb : KBinds X.K fd ps ks g gV) (hx : Passes cx X E) (hkw : PK X kws tk)
    (hall : (backToKw pos (keywordEach kws X.env)).all (·.1.isSome) = true := by rfl) (hks : (backToKw pos (keywordEach kws X.env)).filterMap (·.1) = ks := by rfl)
    (hpl : ((backTo pos (starEach [] X.env)).any (·.1) || (backToKw pos (keywordEach kws X.env)).any (·.1.isNone)) = false := by rfl)
    (ht : eval (.Call (.Attribute o m apos) [] kws pos) X.env = (do
      let it ← eval o X.env
      standAt apos.atName
      let (q, ahead) ← holding [it] (getMethod it m pl)
      callWith pos q ahead (backTo pos (starEach [] X.env)) (backToKw pos (keywordEach kws X.env))) := by rfl) :
    PE X (.Call (.Attribute o m apos) [] kws pos) (tMethKw C m sp gV E ta tk) := by
  constructor
  intro pins s σ H Q I h
  refine PySem.W.methodCall_KW (pl := pl) (thn (he.run pins s σ H _ I h) ?_) ht
  rintro u s1 ⟨x, H1, J, rx, a, dx, fs, rfl, ea, l, q⟩
  obtain rfl : u = Value.ref a := rx
  refine getmeth_ok J ea c hm l ?_
  refine PySem.W.callWith_KW0 (first := [.ref a]) (h₀ := X.base) J.ok.mod.kin hm.kp hall (thn (hkw.run pos pins s1 σ H1 _ J q) ?_) hpl
  rintro ws s2 ⟨zs, H2, J2, rz, q2⟩
  refine ⟨J2.kIn, ?_⟩
  rw [hks]
  exact run_fnk (us := [.ref a]) (vs := [.ref a]) F hr hb hx J2 (.cons rfl .nil) rz q2
end
/-- self, and four by their names, told in the other order -/
def back4 {α : Type} : List α → List α → List α
  | [u], [a, b, c, d] => [u, d, c, b, a]
  | _, _ => []
theorem back4_rel {vs : List V} {us : List Value} {zs : List V} {ws : List Value} (a : Vals vs us) (b : Vals zs ws) : Vals (back4 vs zs) (back4 us ws) := by
  cases a with
  | nil => exact .nil
  | cons a1 a2 =>
    cases a2 with
    | cons _ _ => exact .nil
    | nil =>
      cases b with
      | nil => exact .nil
      | cons b1 b => cases b with
        | nil => exact .nil
        | cons b2 b => cases b with
          | nil => exact .nil
          | cons b3 b => cases b with
            | nil => exact .nil
            | cons b4 b => cases b with
              | nil => exact .cons a1 (.cons b4 (.cons b3 (.cons b2 (.cons b1 .nil))))
              | cons _ _ => exact .nil
theorem back4_of {K : PySem.W.Frag} {x qual p0 p1 p2 p3 p4 : Str} {st : Stmt} {f : Addr} {fd : FuncData} (F : Fun K x qual st f fd)
    (h : ∀ (kV doc pm : Value) (an : Option Addr) (cdv ct u a b c d : Value), bindArgs (PySem.W.fnOf x qual (defArgs st) (defBody st) (defScope st) .none kV doc pm an cdv ct) ⟨[u], [(p4, a), (p3, b), (p2, c), (p1, d)]⟩ = pure [(p0, u), (p1, d), (p2, c), (p3, b), (p4, a)]) :
    KBinds K fd [p0, p1, p2, p3, p4] [p4, p3, p2, p1] back4 back4 := by
  obtain ⟨oc, od, kV, doc, pm, an, cdv, ct, osl, rfl, lk, hcd⟩ := F.ex
  refine ⟨fun s us ws _ hl => ?_, fun a b => back4_rel a b⟩
  match us, ws, hl with
  | [u], [a, b, c, d], _ => exact .of_eq (h kV doc pm an cdv ct u a b c d)
end Gd
end

section
set_option Elab.async false
set_option linter.all false
set_option maxRecDepth 100000
set_option maxHeartbeats 4000000
namespace K57
open PySem PySem.Spec PyProof.Rows L2 Gd
def topS (i : Nat) : Stmt := PySem.Challenge.pw_plansamid_k57_kept_ones_wanted.main.body.getD i (.Pass ⟨0, 0, 0, 0⟩)
abbrev sPen : Stmt := topS 3
abbrev sDraw : Stmt := topS 4
abbrev sPick : Stmt := topS 5
abbrev sNames : Stmt := topS 6
theorem scPen : FnScope ["_law_script"] ["_law_script"] (defScope sPen) := ⟨rfl, rfl, rfl, by decide +kernel, rfl, by decide +kernel, by decide +kernel⟩
abbrev nDraw : List Str := ["_law_pen_here", "_law_many", "_law_digit", "_law_at", "_law_cell", "_law_great", "_law_mixed"]
theorem scDraw : FnScope nDraw ["_law_pen_here", "_law_many"] (defScope sDraw) := ⟨rfl, rfl, rfl, by decide +kernel, rfl, by decide +kernel, by decide +kernel⟩
theorem scPick : FnScope ["_law_pen_here", "_law_some"] ["_law_pen_here", "_law_some"] (defScope sPick) := ⟨rfl, rfl, rfl, by decide +kernel, rfl, by decide +kernel, by decide +kernel⟩
def spPen (K : PySem.W.Frag) : Sp := fun vs H Q _ => ∃ (a : Addr) (ns : List Int), vs = [.ref a] ∧ SqL K H a (ns.map V.int) ∧ ns.length ≤ 63 ∧ ∀ (l c : Addr) (H' : Hp), Same H H' → H l = none → H c = none → Pen H' l c 0 → Q (.ref l) H'
theorem cut_all (xs : List V) (h : xs.length ≤ 63) : cutV xs none (some (63 : Int)) = xs := by
  unfold cutV
  rw [HT.sIx_none, show (63 : Int) = ((63 : Nat) : Int) from rfl, HT.sIx_nat, List.drop_zero, Nat.sub_zero, Nat.min_eq_right h, List.take_length]
section
variable {P : Program} {w : World} {K : PySem.W.Frag} {mg : Str → Option Value} {base : Heap} {f fT : Addr} {fd dT : FuncData}
theorem ok_pen (F : Fun K "_law_pen" "_law_pen" sPen f fd) (ml : mg "list" = none) : FnOk P w K mg base CX0 1 f fd ["_law_script"] (spPen K) := by
  refine F.ok scPen (fun vs H Q E h => ?_) (fun cdv A outer s H vs Q E hr h => ?_)
  · obtain ⟨a, ns, rfl, _⟩ := h
    rfl
  obtain ⟨a, ns, rfl, ha, hn, q⟩ := h
  have nd := scPen.nd
  refine ⟨_, pss_one (ps_ret (pe_lst (pa_cons (pe_callTy call_list_of (by rfl) ml (by decide +kernel) (pa_cons (pe_slice sl_list (pv 0) po_none (po_some pe_int)) pa_nil)) (pa_cons pe_int (pa_cons pe_int pa_nil))))), ?_⟩
  refine ⟨_, rfl, _, rfl, a, _, rfl, ha, fun b nb => ?_⟩
  rw [cut_all _ (by rw [List.length_map]; exact hn)]
  have s1 := new_same (o := .lst (ns.map V.int)) nb
  refine ⟨b, _, rfl, .inl (SqL.of upd_same), fun c nc => ?_⟩
  have s2 := s1.trans (new_same (o := .lst (ns.map V.int)) nc)
  refine ⟨(by show 3 ≤ sizeLine; decide), fun l nl => ?_⟩
  have s3 := s2.trans (new_same (o := .lst [.ref c, .int 0, .int 0]) nl)
  have ncl : c ≠ l := fun e => by rw [← e, upd_same] at nl; cases nl
  exact q l c _ s3 (s2.free nl) (s1.free nc) ⟨ns, 0, 0, upd_same, by rw [upd_ne ncl]; exact upd_same, hn, by omega, by omega⟩
theorem ok_draw (F : Fun K "_law_draw" "_law_draw" sDraw f fd) (mn : mg "len" = none) (ma : mg "abs" = none) (mi : mg "int" = none) : FnOk P w K mg base CX0 1 f fd ["_law_pen_here", "_law_many"] spDraw := by
  refine F.ok scDraw (fun vs H Q E h => ?_) (fun cdv A outer s H vs Q E hr h => ?_)
  · obtain ⟨l, c, m, S, rfl, _⟩ := h
    rfl
  obtain ⟨l, c, m, S, rfl, hP, m0, m1, hS, q⟩ := h
  have nlc := hP.apart
  obtain ⟨ns, t, ov, el, ec, hn, t0, t1⟩ := hP
  have nd := scDraw.nd
  have zl : sizeLine = 16777216 := rfl
  refine ⟨_, pss_cons (ps_if (pt_cmpR op_gt (pe_ix ix_list (pv 0) pe_int (fun _ _ => rfl)) pe_int (nomark _))
      (pss_cons (ps_set (i := 2) nd rfl (.inl rfl) (pe_op op_modN (pe_ix ix_list (pv 0) pe_int (fun _ _ => rfl)) (pv 1)))
      (pss_cons (ps_asg (pe_op op_fdivN (pe_ix ix_list (pv 0) pe_int (fun _ _ => rfl)) (pv 1)) (pg_sub (pv 0) pe_int set_list))
      (pss_one (ps_ret (pv 2))))) pss_nil)
    (pss_cons (ps_set (i := 3) nd rfl (.inl rfl) (pe_ix ix_list (pv 0) pe_int (fun _ _ => rfl)))
    (C8.pss_cut (ps_asg (pe_op op_add (pv 3) pe_int) (pg_sub (pv 0) pe_int set_list))
    (pss_cons (ps_set (i := 4) nd rfl (.inl rfl) (pe_op op_add (pe_op op_mul pe_int (pv 3)) pe_int))
    (C8.pss_cut (ps_if (pt_cmpR (op_neL0 hr.units0) (pe_ix ix_list (pv 0) pe_int (fun _ _ => rfl)) (pe_lst pa_nil) (nomark _))
      (pss_one (ps_set (i := 4) nd rfl (.inl rfl) (pe_ix ix_list (pe_ix ix_list (pv 0) pe_int (fun _ _ => rfl)) (pe_op op_modN (pv 3) (pe_callB call_len_seq (by rfl) mn PySem.boot_len (pa_cons (pe_ix ix_list (pv 0) pe_int (fun _ _ => rfl)) pa_nil))) (fun _ _ => rfl)))) pss_nil)
    (C8.pss_cut (ps_if (PW.pt (pw_and (pt_cmpR op_lt (pv 3) (pe_callB call_len_seq (by rfl) mn PySem.boot_len (pa_cons (pe_ix ix_list (pv 0) pe_int (fun _ _ => rfl)) pa_nil)) (nomark _))
        (pw_and1 (pt_cmpR op_ge (pe_callB call_abs (by rfl) ma (by decide +kernel) (pa_cons (pv 4) pa_nil)) (pe_op op_pow pe_int pe_int) (nomark _)))))
      (pss_cons (ps_set (i := 5) nd rfl (.inl rfl) (pe_op op_add (pe_op op_mul pe_int (pe_callB call_abs (by rfl) ma (by decide +kernel) (pa_cons (pv 4) pa_nil))) (pe_callTy call_int1 (by rfl) mi (by decide +kernel) (pa_cons (pe_cmpR op_lt (pv 4) pe_int (nomark _)) pa_nil))))
      (pss_cons (ps_asg (pe_op op_fdivN (pv 5) (pv 1)) (pg_sub (pv 0) pe_int set_list))
      (pss_one (ps_ret (pe_op op_modN (pv 5) (pv 1)))))) pss_nil)
    (C8.pss_cut (ps_set (i := 6) nd rfl (.inl rfl) (pe_op op_modN (pe_op op_pow (pe_op op_add (pe_op op_add (pe_op op_add (pe_op op_modN (pv 4) pe_int) (pe_op op_mul (pe_op op_mul pe_int (pv 3)) (pv 3))) (pe_op op_mul pe_int (pv 3))) pe_int) pe_int) pe_int))
    (C8.pss_cut (ps_set (i := 6) nd rfl (.inl rfl) (pe_op op_modN (pe_op op_pow (pe_op op_add (pe_op op_add (pe_op op_mul (pv 6) (pe_op op_add (pv 3) pe_int)) (pe_op op_mul pe_int (pv 3))) pe_int) pe_int) pe_int))
    (pss_one (ps_ret (pe_op op_modN (pe_op op_fdivN (pe_op op_modN (pe_op op_mul (pv 6) (pe_op op_add (pe_op op_modN (pv 6) pe_int) pe_int)) pe_int) pe_int) (pv 1))))))))))), ?_⟩
  have L : SqL K H l [.ref c, .int t, .int ov] := SqL.of el
  refine ⟨_, rfl, l, _, 2, _, rfl, rfl, L, atI_nat (j := 2) rfl, _, _, rfl, rfl, _, rfl, ite2 (fun e => ?_) (fun e => ?_)⟩
  · refine ⟨_, rfl, l, _, 2, _, rfl, rfl, L, atI_nat (j := 2) rfl, _, rfl, _, _, rfl, rfl, by omega, ?_⟩
    refine ⟨_, rfl, l, _, 2, _, rfl, rfl, L, atI_nat (j := 2) rfl, _, rfl, _, _, rfl, rfl, ⟨by omega, by omega⟩, ?_⟩
    refine ⟨_, rfl, l, _, 2, 2, rfl, rfl, el, rfl, ?_⟩
    refine ⟨_, rfl, ?_⟩
    obtain ⟨r0, r1⟩ := fmod_in ov m0
    exact q _ _ r0 r1 ⟨ns, t, _, upd_same, by rw [upd_ne nlc.symm]; exact ec, hn, t0, by omega⟩ .at
  refine ⟨_, rfl, l, _, 1, _, rfl, rfl, L, atI_nat (j := 1) rfl, ?_⟩
  refine ⟨fun σ' H' => H' l = some (.lst [.ref c, .int (t + 1), .int ov]) ∧ H' c = some (.lst (ns.map V.int)) ∧ Ex1 l H H' ∧ σ' = [some (.ref l), some (.int m), none, some (.int t), none, none, none], ?_, ?_⟩
  · refine ⟨_, rfl, _, _, rfl, rfl, _, rfl, l, _, 1, 1, rfl, rfl, el, rfl, ?_⟩
    exact ⟨upd_same, by rw [upd_ne nlc.symm]; exact ec, .at, rfl⟩
  rintro σ2 H2 ⟨el2, ec2, x2, rfl⟩
  refine ⟨_, rfl, _, _, rfl, rfl, .inl ⟨by decide, by decide⟩, _, _, rfl, rfl, ?_⟩
  refine ⟨fun σ' H' => Same H2 H' ∧ ∃ v : Int, σ' = [some (.ref l), some (.int m), none, some (.int t), some (.int v), none, none], ?_, ?_⟩
  · refine ⟨_, rfl, l, _, 0, _, rfl, rfl, SqL.of el2, atI_nat (j := 0) rfl, (by show 0 ≤ sizeLine; decide), fun b nb => ?_⟩
    have s3 := new_same (o := .lst []) nb
    refine ⟨c, b, _, rfl, rfl, SqL.of (s3 _ _ ec2), SqL.of upd_same, _, rfl, ite2 (fun e => ?_) (fun e => ?_)⟩
    · have e : (!(ns.map V.int).isEmpty) = true := e
      have pos : 0 < ns.length := by
        cases ns with
        | nil => cases e
        | cons x r => simp
      obtain ⟨i0, i1⟩ := fmod_in t (b := ((ns.length : Nat) : Int)) (by omega)
      obtain ⟨v, hv, ev⟩ := at_list (f := V.int) (xs := ns) i0 i1
      refine ⟨_, rfl, l, _, 0, _, rfl, rfl, SqL.of (s3 _ _ el2), atI_nat (j := 0) rfl, _, rfl, _, rfl, l, _, 0, _, rfl, rfl, SqL.of (s3 _ _ el2), atI_nat (j := 0) rfl, c, _, rfl, .inl (SqL.of (s3 _ _ ec2)), _, _, rfl, rfl, by rw [List.length_map]; omega, ?_⟩
      refine ⟨c, _, _, .int v, rfl, rfl, SqL.of (s3 _ _ ec2), by rw [List.length_map]; exact ev, ?_⟩
      exact ⟨s3, v, rfl⟩
    · exact ⟨s3, _, rfl⟩
  rintro σ3 H3 ⟨s3, v, rfl⟩
  have el3 := s3 _ _ el2
  have ec3 := s3 _ _ ec2
  have x3 : Ex1 l H H3 := x2.trans (ex1_of_same s3)
  refine ⟨fun σ' H' => H' = H3 ∧ σ' = [some (.ref l), some (.int m), none, some (.int t), some (.int v), none, none], ?_, ?_⟩
  · refine ⟨_, rfl, _, rfl, l, _, 0, _, rfl, rfl, SqL.of el3, atI_nat (j := 0) rfl, c, _, rfl, .inl (SqL.of ec3), _, _, rfl, rfl, _, rfl, ite2 (fun e => ?_) (fun e => ?_)⟩
    · refine ⟨_, rfl, _, rfl, 10, 18, rfl, rfl, ⟨by decide, by decide, by decide⟩, _, _, rfl, rfl, _, rfl, ite2 (fun e => ?_) (fun e => ?_)⟩
      · refine ⟨_, rfl, _, rfl, _, _, rfl, rfl, .inl ⟨by decide, by decide⟩, _, rfl, _, _, rfl, rfl, .inr ⟨_, rfl, _, _, rfl, rfl, ?_⟩⟩
        refine ⟨_, rfl, _, rfl, _, _, rfl, rfl, ⟨by omega, by omega⟩, _, rfl, l, _, 2, 2, rfl, rfl, el3, rfl, ?_⟩
        refine ⟨_, rfl, _, rfl, _, _, rfl, rfl, by omega, ?_⟩
        exact q _ _ (fmod_in _ m0).1 (fmod_in _ m0).2 ⟨ns, t + 1, _, upd_same, by rw [upd_ne nlc.symm]; exact ec3, hn, by omega, by omega⟩ (x3.trans .at)
      · exact ⟨rfl, rfl⟩
    · exact ⟨rfl, rfl⟩
  rintro σ4 H4 ⟨rfl, rfl⟩
  obtain ⟨a0, a1⟩ := fmod_in v (b := 2147483579) (by omega)
  obtain ⟨q0, q1⟩ := sq_le t0 (show t ≤ 100000 by omega)
  have e40 : 40093 * t * t = 40093 * (t * t) := Int.mul_assoc ..
  generalize hx0 : v.fmod 2147483579 = x0 at a0 a1
  refine ⟨fun σ' H' => H' = H4 ∧ ∃ x : Int, 0 ≤ x ∧ x < 2147483647 ∧ σ' = [some (.ref l), some (.int m), none, some (.int t), some (.int v), none, some (.int x)], ?_, ?_⟩
  · refine ⟨_, rfl, _, _, rfl, rfl, by omega, _, rfl, _, _, rfl, rfl, .inl ⟨by decide, by decide⟩, _, rfl, _, _, rfl, rfl, .inr ⟨by omega, by omega⟩, _, _, rfl, rfl, _, rfl, _, _, rfl, rfl, .inl ⟨by decide, by decide⟩, _, _, rfl, rfl, _, _, rfl, rfl,
      _, _, rfl, rfl, ⟨by decide, by decide, by rw [hx0, e40]; omega⟩, _, _, rfl, rfl, by omega, ?_⟩
    exact ⟨rfl, _, (fmod_in _ (by omega)).1, (fmod_in _ (by omega)).2, rfl⟩
  rintro σ5 H5 ⟨rfl, x1, b0, b1, rfl⟩
  obtain ⟨c0, c1⟩ := mul_le b0 (show x1 ≤ 2147483647 by omega) (show 0 ≤ t + 69621 by omega) (show t + 69621 ≤ 169621 by omega)
  refine ⟨fun σ' H' => H' = H5 ∧ ∃ x : Int, 0 ≤ x ∧ x < 2147483587 ∧ σ' = [some (.ref l), some (.int m), none, some (.int t), some (.int v), none, some (.int x)], ?_, ?_⟩
  · refine ⟨_, rfl, _, rfl, _, _, rfl, rfl, _, _, rfl, rfl, .inl ⟨by omega, by omega⟩, _, rfl, _, _, rfl, rfl, .inl ⟨by decide, by decide⟩, _, _, rfl, rfl, _, _, rfl, rfl, _, _, rfl, rfl, ⟨by decide, by decide, by omega⟩, _, _, rfl, rfl, by omega, ?_⟩
    exact ⟨rfl, _, (fmod_in _ (by omega)).1, (fmod_in _ (by omega)).2, rfl⟩
  rintro σ6 H6 ⟨rfl, x2', d0, d1, rfl⟩
  refine ⟨_, rfl, _, rfl, _, _, rfl, rfl, by omega, _, _, rfl, rfl, _, _, rfl, rfl, .inl ⟨by omega, by omega⟩, _, _, rfl, rfl, by omega, _, _, rfl, rfl, ⟨by omega, by omega⟩, _, rfl, _, _, rfl, rfl, by omega, ?_⟩
  exact q _ _ (fmod_in _ m0).1 (fmod_in _ m0).2 ⟨ns, t + 1, ov, el3, ec3, hn, by omega, by omega⟩ x3
end
end K57
end

section
set_option Elab.async false
set_option linter.all false
set_option maxRecDepth 100000
set_option maxHeartbeats 4000000
namespace K57
open PySem PySem.Spec PyProof.Rows L2 Gd
def spPick : Sp := fun vs H Q _ => ∃ (l c a : Addr) (S : Int) (xs : List V), vs = [.ref l, .ref a] ∧ Pen H l c S ∧ S ≤ 10000 ∧ H a = some (.lst xs) ∧ a ≠ l ∧ 0 < xs.length ∧ xs.length ≤ 1000 ∧
  ∀ (x : V) (H' : Hp), x ∈ xs → Pen H' l c (S + 1) → Ex1 l H H' → Q x H'
theorem at_any {xs : List V} {r : Int} (h0 : 0 ≤ r) (h1 : r < xs.length) : ∃ x, x ∈ xs ∧ atI xs r = some x := by
  have h2 : r.toNat < xs.length := by omega
  refine ⟨xs[r.toNat], List.getElem_mem h2, ?_⟩
  have e : ((r.toNat : Nat) : Int) = r := by omega
  have z : atI xs ((r.toNat : Nat) : Int) = some xs[r.toNat] := atI_nat (List.getElem?_eq_getElem h2)
  rw [e] at z
  exact z
section
variable {P : Program} {w : World} {K : PySem.W.Frag} {mg : Str → Option Value} {base : Heap} {f fT : Addr} {fd dT : FuncData}
theorem ok_pick (F : Fun K "_law_pick" "_law_pick" sPick f fd) (mn : mg "len" = none) (FT : Fun K "_law_draw" "_law_draw" sDraw fT dT) (G : FnOk P w K mg base CX0 1 fT dT ["_law_pen_here", "_law_many"] spDraw) (bT : Binds K dT ["_law_pen_here", "_law_many"] []) (gT : mg "_law_draw" = some (.ref fT)) :
    FnOk P w K mg base CX0 2 f fd ["_law_pen_here", "_law_some"] spPick := by
  refine F.ok scPick (fun vs H Q E h => ?_) (fun cdv A outer s H vs Q E hr h => ?_)
  · obtain ⟨l, c, a, S, xs, rfl, _⟩ := h
    rfl
  obtain ⟨l, c, a, S, xs, rfl, hP, hS, ea, nal, x0, x1, q⟩ := h
  have nd := scPick.nd
  refine ⟨_, pss_one (ps_ret (pe_ix ix_list (pv 1) (pe_call G hr (by rfl) gT FT.kp bT .nil pass0 (pa_cons (pv 0) (pa_cons (pe_callB call_len_seq (by rfl) mn PySem.boot_len (pa_cons (pv 1) pa_nil)) pa_nil))) (fun _ _ => rfl))), ?_⟩
  refine ⟨_, rfl, _, rfl, _, rfl, a, _, rfl, .inl (SqL.of ea), l, c, _, S, rfl, hP, by omega, by omega, by omega, fun r H1 r0 r1 p1 e1 => ?_⟩
  obtain ⟨x, hx, ex⟩ := at_any r0 r1
  exact ⟨a, _, _, _, rfl, rfl, SqL.of (e1 _ _ nal ea), ex, q x H1 hx p1 e1⟩
def spNames : Sp := fun vs H Q _ => ∃ (l c : Addr) (S : Int) (m : Nat), vs = [.ref l, .int (m : Nat)] ∧ Pen H l c S ∧ S ≤ 10000 ∧ m ≤ 100 ∧
  ∀ (a : Addr) (ts : List Str) (H' : Hp), H a = none → H' a = some (.lst (ts.map V.str)) → ts.length = m → Pen H' l c (S + 3) → Ex1 l H H' → Q (.ref a) H'
abbrev nNames : List Str := ["_law_pen_here", "_law_many", "_law_letters", "_law_first", "_law_base", "_law_spot", "_law_k"]
theorem scNames : FnScope nNames ["_law_pen_here", "_law_many"] (defScope sNames) := ⟨rfl, rfl, rfl, by decide +kernel, rfl, by decide +kernel, by decide +kernel⟩
theorem walk_upto {n : Nat} : Walk (Itr 0 n) n (fun _ => True) (YFn fun i => .int ((i : Nat) : Int)) :=
  walk_range.mono (fun _ _ => trivial) (fun i H x H' _ _ y => ⟨y.1, y.2.trans (by show V.int (0 + ((i : Nat) : Int)) = V.int ((i : Nat) : Int); rw [Int.zero_add])⟩)
theorem at_letters {r : Int} (h0 : 0 ≤ r) (h1 : r < 26) : ∃ c, atI ("abcdefghijklmnopqrstuvwxyz" : Str).cps.toList r = some c := by
  have l : ("abcdefghijklmnopqrstuvwxyz" : Str).cps.toList.length = 26 := by decide +kernel
  have h2 : r.toNat < ("abcdefghijklmnopqrstuvwxyz" : Str).cps.toList.length := by omega
  refine ⟨("abcdefghijklmnopqrstuvwxyz" : Str).cps.toList[r.toNat], ?_⟩
  have e : ((r.toNat : Nat) : Int) = r := by omega
  have z : atI ("abcdefghijklmnopqrstuvwxyz" : Str).cps.toList ((r.toNat : Nat) : Int) = some ("abcdefghijklmnopqrstuvwxyz" : Str).cps.toList[r.toNat] := atI_nat (List.getElem?_eq_getElem h2)
  rw [e] at z
  exact z
theorem ok_names (F : Fun K "_law_names" "_law_names" sNames f fd) (mn : mg "len" = none) (mr : mg "range" = none) (FT : Fun K "_law_draw" "_law_draw" sDraw fT dT) (G : FnOk P w K mg base CX0 1 fT dT ["_law_pen_here", "_law_many"] spDraw) (bT : Binds K dT ["_law_pen_here", "_law_many"] []) (gT : mg "_law_draw" = some (.ref fT)) :
    FnOk P w K mg base CX0 2 f fd ["_law_pen_here", "_law_many"] spNames := by
  refine F.ok scNames (fun vs H Q E h => ?_) (fun cdv A outer s H vs Q E hr h => ?_)
  · obtain ⟨l, c, S, m, rfl, _⟩ := h
    rfl
  obtain ⟨l, c, S, m, rfl, hP, hS, hm, q⟩ := h
  have nd := scNames.nd
  have zl : sizeLine = 16777216 := rfl
  refine ⟨_, pss_cons (ps_set (i := 2) nd rfl (.inr rfl) pe_str)
    (pss_cons (ps_set (i := 3) nd rfl (.inr rfl) (pe_call G hr (by rfl) gT FT.kp bT .nil pass0 (pa_cons (pv 0) (pa_cons pe_int pa_nil))))
    (pss_cons (ps_set (i := 4) nd rfl (.inr rfl) (pe_ix ix_list (pe_lst (pa_cons pe_str (pa_cons pe_str (pa_cons pe_str (pa_cons pe_str pa_nil))))) (pe_call G hr (by rfl) gT FT.kp bT .nil pass0 (pa_cons (pv 0) (pa_cons pe_int pa_nil))) (fun _ _ => rfl)))
    (pss_cons (ps_set (i := 5) nd rfl (.inr rfl) (pe_call G hr (by rfl) gT FT.kp bT .nil pass0 (pa_cons (pv 0) (pa_cons (pe_op op_add (pe_callB call_len_str (by rfl) mn PySem.boot_len (pa_cons (pv 4) pa_nil)) pe_int) pa_nil))))
    (pss_one (ps_ret (pe_lc (own := [("_law_k", 6)]) (g := gName 6) (tt := tYes) rfl nd (pi_range1 (by rfl) mr (pa_cons (pv 1) pa_nil)) (blkOk_by (N := nNames) (sc := defScope sNames) (by decide +kernel)) (fun _ _ _ _ _ => pg_name (i := 6) nd rfl (Or.inl rfl)) (fun _ _ _ _ _ => pts_nil)
      (fun _ _ _ _ _ => pe_op op_add_str (pe_op op_add_str (pe_slice sl_str (pv 4) po_none (po_some (pv 5))) (pe_ix ix_str (pv 2) (pe_op op_modN (pe_op op_add (pv 3) (pe_op op_mul pe_int (pv 6))) pe_int) (fun _ _ => rfl))) (pe_slice sl_str (pv 4) (po_some (pv 5)) po_none))))))))
  , ?_⟩
  refine ⟨_, rfl, l, c, 26, S, rfl, hP, by decide, by decide, by omega, fun r1 H1 r10 r11 p1 x1 => ?_⟩
  refine ⟨(by show 4 ≤ sizeLine; decide), fun b nb => ?_⟩
  have p2 := p1.same (new_same (o := .lst [.str "", .str "t", .str "with", .str "zzzzzzz"]) nb)
  refine ⟨_, rfl, l, c, 4, _, rfl, p2, by decide, by decide, by omega, fun r3 H3 r30 r31 p3 x3 => ?_⟩
  obtain ⟨y, hy, ey⟩ := at_list (f := V.str) (xs := ["", "t", "with", "zzzzzzz"]) r30 (by simpa using r31)
  have ly : y.length ≤ 7 := by
    simp only [List.mem_cons, List.not_mem_nil, or_false] at hy
    rcases hy with rfl | rfl | rfl | rfl <;> decide +kernel
  refine ⟨b, _, _, .str y, rfl, rfl, SqL.of (x3 _ _ (p1.not nb).1 upd_same), ey, ?_⟩
  refine ⟨_, rfl, _, rfl, y, rfl, by omega, _, _, rfl, rfl, l, c, _, _, rfl, p3, by omega, by omega, by omega, fun r4 H4 r40 r41 p4 x4 => ?_⟩
  have x14 : Ex1 l H H4 := ((x1.trans (Ex1.new nb)).trans x3).trans x4
  refine ⟨_, rfl, _, rfl, by omega, by omega, fun D nD => ?_⟩
  have nDl := (p4.not nD).1
  have nD0 : H D = none := ex1_free x14 nDl nD
  refine lc_it walk_upto (fun j H5 => Same H4 H5 ∧ ∃ ts : List Str, H5 D = some (.lst (ts.map V.str)) ∧ ts.length = j) ⟨new_same nD, [], upd_same, rfl⟩ (fun _ _ _ _ => trivial) ?_ ?_
  · rintro j x H5 H6 hj ⟨s5, ts, et, lt⟩ ⟨rfl, rfl⟩
    obtain ⟨u0, u1⟩ := fmod_in (r1 + 7 * ((j : Nat) : Int)) (b := 26) (by omega)
    obtain ⟨ch, ech⟩ := at_letters u0 u1
    refine ⟨rfl, ?_⟩
    refine ⟨_, rfl, _, rfl, _, rfl, y, rfl, by omega, _, rfl, _, rfl, _, rfl, _, _, rfl, rfl, .inl ⟨by decide, by decide⟩, _, _, rfl, rfl, _, _, rfl, rfl, by omega, _, _, ch, rfl, rfl, by decide +kernel, ech, ?_⟩
    have l1 := cutS_length y none (some r4)
    have l2 := cutS_length y (some r4) none
    refine ⟨_, _, rfl, rfl, ?_, ?_⟩
    · show _ + 1 ≤ sizeLine
      omega
    refine ⟨_, rfl, _, rfl, _, rfl, y, rfl, by omega, ?_⟩
    refine ⟨_, _, rfl, rfl, ?_, ?_⟩
    · show ((cutS y none (some r4) ++ (⟨#[ch]⟩ : Str)).length + (cutS y (some r4) none).length ≤ sizeLine)
      rw [Str.length_append]
      have : (⟨#[ch]⟩ : Str).length = 1 := rfl
      omega
    refine ⟨_, et, by rw [List.length_map]; omega, own_same nD s5, ts ++ [(cutS y none (some r4) ++ (⟨#[ch]⟩ : Str)) ++ cutS y (some r4) none], ?_, by rw [List.length_append, lt]; rfl⟩
    rw [upd_same, List.map_append]
    rfl
  rintro H5 ⟨s5, ts, et, lt⟩
  refine q D ts H5 nD0 et (by rw [lt]; omega) ((p4.same s5).le (by omega)) (x14.trans (ex1_of_same s5))
end
end K57
end

section
set_option Elab.async false
set_option linter.all false
set_option maxRecDepth 100000
set_option maxHeartbeats 4000000
namespace K57
open PySem PySem.Spec PyProof.Rows L2 Gd
abbrev sInit : Stmt := inClass (topS 1) 0
abbrev sWant : Stmt := inClass (topS 1) 1
abbrev Kv := List (List Key × Int)
def mk (k : Kv) : List (List Key × V) := k.map fun x => (x.1, V.int x.2)
def look (k : Kv) (q : List Key) : Option Int := (k.find? fun x => decide (x.1 = q)).map (·.2)
def put (k : Kv) (q : List Key) (n : Int) : Kv := if (k.any fun x => decide (x.1 = q)) = true then k.map (fun x => if x.1 = q then (x.1, n) else x) else k ++ [(q, n)]
theorem look_mk (k : Kv) (q : List Key) : valV (mk k) q = (look k q).map V.int := by
  unfold valV mk look
  rw [List.find?_map]
  show (((k.find? _).map _).map _) = _
  cases h : k.find? fun x => decide (x.1 = q) with
  | none =>
    have : (k.find? ((fun kv : List Key × V => decide (kv.1 = q)) ∘ fun x => (x.1, V.int x.2))) = none := h
    rw [this]
    rfl
  | some x =>
    have : (k.find? ((fun kv : List Key × V => decide (kv.1 = q)) ∘ fun x => (x.1, V.int x.2))) = some x := h
    rw [this]
    rfl
theorem put_mk (k : Kv) (q : List Key) (n : Int) : putK (mk k) q (.int n) = mk (put k q n) := by
  unfold putK mk put
  have e : ((k.map fun x => (x.1, V.int x.2)).any fun kv => decide (kv.1 = q)) = k.any fun x => decide (x.1 = q) := by
    rw [List.any_map]
    rfl
  rw [e]
  split
  · rw [List.map_map, List.map_map]
    refine List.map_congr_left fun x _ => ?_
    show (if x.1 = q then (x.1, V.int n) else (x.1, V.int x.2)) = (fun x => (x.1, V.int x.2)) (if x.1 = q then (x.1, n) else x)
    split <;> rfl
  · rw [List.map_append]
    rfl
theorem mk_len (k : Kv) : (mk k).length = k.length := by simp [mk]
theorem put_len (k : Kv) (q : List Key) (n : Int) : (put k q n).length ≤ k.length + 1 := by
  unfold put
  split <;> simp
def dueOf (k : Kv) (q : List Key) (w : Int) : Bool := match look k q with
  | some v => decide (w ≤ v)
  | none => false
def next (k : Kv) (q : List Key) (w n : Int) : Kv := if dueOf k q w = true then k else put k q n
theorem next_len (k : Kv) (q : List Key) (w n : Int) : (next k q w n).length ≤ k.length + 1 := by
  unfold next
  split
  · omega
  · exact put_len ..
def mf (d : Addr) : List (Str × V) := [("_made", .ref d)]
structure Txt (K : PySem.W.Frag) (mg : Str → Option Value) (C : Addr) : Prop where
  cl : Cls K C
  nM : NoAttr K C "_made"
  mgC : mg "Kept" = some (.ref C)
def spInit (C : Addr) : Sp := fun vs H Q _ => ∃ (p dx : Addr), vs = [.ref p] ∧ H p = some (.ins C dx []) ∧ ∀ (d : Addr) (H' : Hp), H d = none → H' p = some (.ins C dx (mf d)) → H' d = some (.dT []) → (∀ b o, H b = some o → b ≠ p → H' b = some o) → Q .non H'
def key2 (t c : Str) : List Key := [.inr t, .inr c]
def spWant (C : Addr) : Sp := fun vs H Q _ => ∃ (p dx d : Addr) (t c : Str) (m n : Int) (k : Kv), vs = [.ref p, .str t, .str c, .int m, .int n] ∧ H p = some (.ins C dx (mf d)) ∧ H d = some (.dT (mk k)) ∧ k.length ≤ 1000 ∧
  ∀ H', (∀ b o, b ≠ d → H b = some o → H' b = some o) → H' d = some (.dT (mk (next k (key2 t c) m n))) → Q (.bl (dueOf k (key2 t c) m)) H'
theorem scInit : FnScope ["self"] ["self"] (defScope sInit) := ⟨rfl, rfl, rfl, by decide +kernel, rfl, by decide +kernel, by decide +kernel⟩
theorem scWant : FnScope ["self", "table", "column", "moment", "now", "made"] ["self", "table", "column", "moment", "now"] (defScope sWant) := ⟨rfl, rfl, rfl, by decide +kernel, rfl, by decide +kernel, by decide +kernel⟩
theorem mf_look (d : Addr) : (mf d).lookup ("_made" : Str) = some (.ref d) := by
  unfold mf
  simp [List.lookup]
section
variable {P : Program} {w : World} {K : PySem.W.Frag} {mg : Str → Option Value} {base : Heap} {f C : Addr} {fd : FuncData}
theorem ok_init (F : Fun K "__init__" "Kept.__init__" sInit f fd) (T : Txt K mg C) : FnOk P w K mg base CX0 1 f fd ["self"] (spInit C) := by
  refine F.ok scInit (fun vs H Q E h => ?_) (fun cdv A outer s H vs Q E hr h => ?_)
  · obtain ⟨p, dx, rfl, _⟩ := h
    rfl
  obtain ⟨p, dx, rfl, hp, q⟩ := h
  refine ⟨_, pss_one (ps_fld (pv 0) pe_dnewT rfl), ?_⟩
  intro d hd
  have npd : p ≠ d := ne_of_none hp hd
  refine ⟨_, rfl, p, C, dx, [], rfl, (by rw [upd_ne npd]; exact hp), T.cl, T.nM, (by show 0 < 1000; decide), ?_⟩
  refine q d _ hd upd_same (by rw [upd_ne npd.symm, upd_same]) fun b o e nb => ?_
  rw [upd_ne nb, upd_ne (ne_of_none e hd)]
  exact e
theorem ok_want (F : Fun K "want" "Kept.want" sWant f fd) (T : Txt K mg C) : FnOk P w K mg base CX0 1 f fd ["self", "table", "column", "moment", "now"] (spWant C) := by
  refine F.ok scWant (fun vs H Q E h => ?_) (fun cdv A outer s H vs Q E hr h => ?_)
  · obtain ⟨p, dx, d, t, c, m, n, k, rfl, _⟩ := h
    rfl
  obtain ⟨p, dx, d, t, c, m, n, k, rfl, hp, hd, hk, q⟩ := h
  have nd := scWant.nd
  have hu := hu_of hr
  have zl : sizeLine = 16777216 := rfl
  refine ⟨_, pss_cons (ps_set (i := 5) nd rfl (.inl rfl) (pe_dget1 hu (pe_fld (pv 0) rfl) (pe_tup (pa_cons (pv 1) (pa_cons (pv 2) pa_nil))) ⟨rfl, rfl, rfl, rfl⟩))
    (C8.pss_cut (ps_if (PW.pt (pw_and (pt_cmpR op_notN (pv 5) pe_non (nomark _)) (pw_and1 (pt_cmpR op_ge (pv 5) (pv 3) (nomark _))))) (pss_one (ps_ret pe_bl)) pss_nil)
    (pss_cons (ps_dput hu (pe_fld (pv 0) rfl) (pe_tup (pa_cons (pv 1) (pa_cons (pv 2) pa_nil))) (pv 4) rfl)
    (pss_one (ps_ret pe_bl)))), ?_⟩
  refine ⟨_, rfl, p, C, dx, _, _, rfl, hp, T.cl, T.nM, mf_look d, d, rfl, .inr ⟨_, .inl hd⟩, _, rfl, _, rfl, (by show 2 ≤ sizeLine; decide), fun b nb => ?_⟩
  have s1 := new_same (o := .tup [.str t, .str c]) nb
  have ndb : d ≠ b := ne_of_none hd nb
  refine ⟨_, DGet.t (k := key2 t c) (s1 _ _ hd) upd_same, ?_⟩
  rw [look_mk]
  refine ⟨fun σ' H' => dueOf k (key2 t c) m = false ∧ H' = upd H b (.tup [.str t, .str c]) ∧ ∃ y, σ' = [some (.ref p), some (.str t), some (.str c), some (.int m), some (.int n), y], ?_, ?_⟩
  · refine ⟨_, rfl, rfl, _, rfl, ?_⟩
    cases hl : look k (key2 t c) with
    | none =>
      refine iteF ?_
      exact ⟨by unfold dueOf; rw [hl], rfl, _, rfl⟩
    | some v =>
      refine iteT ?_
      refine ⟨_, rfl, _, rfl, _, _, rfl, rfl, _, rfl, ite2 (fun e => ?_) (fun e => ?_)⟩
      · have dd : dueOf k (key2 t c) m = true := by
          unfold dueOf
          rw [hl]
          exact e
        have z := q (upd H b (.tup [.str t, .str c])) (fun b o _ e => s1 b o e) (by
          unfold next
          rw [dd, if_pos rfl]
          exact s1 _ _ hd)
        rw [dd] at z
        exact z
      · exact ⟨by unfold dueOf; rw [hl]; exact Bool.eq_false_iff.mpr e, rfl, _, rfl⟩
  rintro σ1 H1 ⟨dd, rfl, y, rfl⟩
  refine ⟨_, rfl, _, rfl, p, C, dx, _, _, rfl, s1 _ _ hp, T.cl, T.nM, mf_look d, _, rfl, _, rfl, (by show 2 ≤ sizeLine; decide), fun b2 nb2 => ?_⟩
  have s2 := s1.trans (new_same (o := .tup [.str t, .str c]) nb2)
  refine ⟨d, _, rfl, DPut.t (k := key2 t c) (s2 _ _ hd) upd_same (by rw [mk_len]; omega), ?_⟩
  rw [put_mk]
  have z := q (upd (upd (upd H b (.tup [.str t, .str c])) b2 (.tup [.str t, .str c])) d (.dT (mk (put k (key2 t c) n)))) (fun b o ne e => by rw [upd_ne ne]; exact s2 b o e) (by
    unfold next
    rw [dd]
    exact upd_same)
  rw [dd] at z
  exact z
end
end K57
end

section
set_option Elab.async false
set_option linter.all false
set_option maxRecDepth 100000
set_option maxHeartbeats 8000000
namespace K57
open PySem PySem.Spec PyProof.Rows L2 Gd
abbrev sLaw : Stmt := topS 7
/-- the program's two, and the law's -/
structure Two (C : Addr) (H : Hp) (s m : Addr) (p d e : Nat → Addr) (k j : Nat → Kv) : Prop where
  hs : H s = some (.lst [.ref (p 0), .ref (p 1)])
  hm : H m = some (.lst [.ref (e 0), .ref (e 1)])
  hp : ∀ i, i < 2 → ∃ dx, H (p i) = some (.ins C dx (mf (d i)))
  hd : ∀ i, i < 2 → H (d i) = some (.dT (mk (k i)))
  he : ∀ i, i < 2 → H (e i) = some (.dT (mk (j i)))
  nd : ∀ a b, a < 2 → b < 2 → a ≠ b → d a ≠ d b
  ne : ∀ a b, a < 2 → b < 2 → a ≠ b → e a ≠ e b
  nde : ∀ a b, a < 2 → b < 2 → d a ≠ e b
section
variable {C : Addr} {H H' : Hp} {s m l : Addr} {p d e : Nat → Addr} {k j : Nat → Kv}
theorem Two.same (T : Two C H s m p d e k j) (sm : Same H H') : Two C H' s m p d e k j := by
  obtain ⟨a, b, c, f, g, x, y, z⟩ := T
  exact ⟨sm _ _ a, sm _ _ b, fun i hi => (c i hi).elim fun dx q => ⟨dx, sm _ _ q⟩, fun i hi => sm _ _ (f i hi), fun i hi => sm _ _ (g i hi), x, y, z⟩
theorem Two.drawn (T : Two C H s m p d e k j) {ys : List V} (hl : H l = some (.lst ys)) (ns : s ≠ l) (nm : m ≠ l) (x : Ex1 l H H') : Two C H' s m p d e k j := by
  obtain ⟨a, b, c, f, g, u, y, z⟩ := T
  refine ⟨x _ _ ns a, x _ _ nm b, fun i hi => ?_, fun i hi => ?_, fun i hi => ?_, u, y, z⟩
  · obtain ⟨dx, q⟩ := c i hi
    exact ⟨dx, x _ _ (ne_of q hl (fun z => nomatch z)) q⟩
  · exact x _ _ (ne_of (f i hi) hl (fun z => nomatch z)) (f i hi)
  · exact x _ _ (ne_of (g i hi) hl (fun z => nomatch z)) (g i hi)
/-- the program's dict is another one -/
theorem Two.putD (T : Two C H s m p d e k j) {r : Nat} (hr : r < 2) {n : Kv} (x : ∀ b o, b ≠ d r → H b = some o → H' b = some o) (hn : H' (d r) = some (.dT (K57.mk n))) : Two C H' s m p d e (fun i => if i = r then n else k i) j := by
  obtain ⟨a, b, c, f, g, u, y, z⟩ := T
  have fr := f r hr
  refine ⟨x _ _ (ne_of a fr (fun z => nomatch z)) a, x _ _ (ne_of b fr (fun z => nomatch z)) b, fun i hi => ?_, fun i hi => ?_, fun i hi => x _ _ (z r i hr hi).symm (g i hi), u, y, z⟩
  · obtain ⟨dx, q⟩ := c i hi
    exact ⟨dx, x _ _ (ne_of q fr (fun z => nomatch z)) q⟩
  · by_cases q : i = r
    · subst q
      simp only [if_pos]
      exact hn
    · simp only [if_neg q]
      exact x _ _ (u i r hi hr q) (f i hi)
theorem Two.putE (T : Two C H s m p d e k j) {r : Nat} (hr : r < 2) {n : Kv} (x : ∀ b o, b ≠ e r → H b = some o → H' b = some o) (hn : H' (e r) = some (.dT (K57.mk n))) : Two C H' s m p d e k (fun i => if i = r then n else j i) := by
  obtain ⟨a, b, c, f, g, u, y, z⟩ := T
  have gr := g r hr
  refine ⟨x _ _ (ne_of a gr (fun z => nomatch z)) a, x _ _ (ne_of b gr (fun z => nomatch z)) b, fun i hi => ?_, fun i hi => x _ _ (z i r hi hr) (f i hi), fun i hi => ?_, u, y, z⟩
  · obtain ⟨dx, q⟩ := c i hi
    exact ⟨dx, x _ _ (ne_of q gr (fun z => nomatch z)) q⟩
  · by_cases q : i = r
    · subst q
      simp only [if_pos]
      exact hn
    · simp only [if_neg q]
      exact x _ _ (y i r hi hr q) (g i hi)
end
def pick2 (a b : Addr) : Nat → Addr
  | 0 => a
  | _ => b
theorem mf_no (d : Addr) : (mf d).lookup ("want" : Str) = none := by
  have : (("want" : Str) == "_made") = false := by decide +kernel
  unfold mf
  simp only [List.lookup, this]
theorem two_at {f : Nat → Addr} {r : Int} (h0 : 0 ≤ r) (h1 : r < 2) : atI [V.ref (f 0), V.ref (f 1)] r = some (.ref (f r.toNat)) := by
  have : r = 0 ∨ r = 1 := by omega
  rcases this with rfl | rfl
  · exact atI_nat (j := 0) rfl
  · exact atI_nat (j := 1) rfl
theorem Pen.off2 {H H' : Hp} {l c x : Addr} {S : Int} (h : Pen H l c S) (hx : ∀ b o, b ≠ x → H b = some o → H' b = some o) (n1 : l ≠ x) (n2 : c ≠ x) : Pen H' l c S := by
  obtain ⟨ns, t, ov, a, b, d, e, f⟩ := h
  exact ⟨ns, t, ov, hx _ _ n1 a, hx _ _ n2 b, d, e, f⟩
theorem Pen.lists {H : Hp} {l c : Addr} {S : Int} (h : Pen H l c S) : (∃ xs, H l = some (.lst xs)) ∧ ∃ ys, H c = some (.lst ys) := by
  obtain ⟨ns, t, ov, a, b, _⟩ := h
  exact ⟨⟨_, a⟩, _, b⟩
theorem due_eq (k : Kv) (q : List Key) {w : Int} (h : 0 ≤ w) : decide (w ≤ (look k q).getD (-1)) = dueOf k q w := by
  unfold dueOf
  cases look k q with
  | none =>
    show decide (w ≤ -1) = false
    exact decide_eq_false (by omega)
  | some v => rfl
abbrev nLaw : List Str := ["_law_script", "_law_pen_here", "_law_names_here", "_law_some", "_law_made", "_law_clock", "_law_turn", "_law_at", "_law_board", "_law_side", "_law_when", "_law_due", "_law_found"]
theorem scLaw : FnScope nLaw ["_law_script"] (defScope sLaw) := ⟨rfl, rfl, rfl, by decide +kernel, rfl, by decide +kernel, by decide +kernel⟩
def spLaw (K : PySem.W.Frag) : Sp := fun vs H Q _ => ∃ (a : Addr) (ns : List Int), vs = [.ref a] ∧ SqL K H a (ns.map V.int) ∧ ns.length ≤ 63 ∧ ∀ H', Q (.bl true) H'
theorem bool_shown (b : Bool) : (PyData.bool b).showable = true ∧ (PyData.bool b).shown.length ≤ sizeLine ∧ (PyData.bool b).depth ≤ 60 := by
  cases b <;> exact ⟨by decide +kernel, by decide +kernel, by decide +kernel⟩
section
variable {P : Program} {w : World} {K : PySem.W.Frag} {mg : Str → Option Value} {base : Heap} {f C fI fW fP fD fK fN : Addr} {fd dI dW dP dD dK dN : FuncData}
theorem ok_law (F : Fun K "law" "law" sLaw f fd) (T : Txt K mg C) (M : Mk K C fI) (FI : Fun K "__init__" "Kept.__init__" sInit fI dI) (bI : Binds K dI ["self"] [])
    (FW : Fun K "want" "Kept.want" sWant fW dW) (bW : Binds K dW ["self", "table", "column", "moment", "now"] []) (mW : Meth K C "want" fW) (kW : KBinds K dW ["self", "table", "column", "moment", "now"] ["now", "moment", "column", "table"] back4 back4)
    (FP : Fun K "_law_pen" "_law_pen" sPen fP dP) (GP : FnOk P w K mg base CX0 1 fP dP ["_law_script"] (spPen K)) (bP : Binds K dP ["_law_script"] []) (gP : mg "_law_pen" = some (.ref fP))
    (FD : Fun K "_law_draw" "_law_draw" sDraw fD dD) (GD : FnOk P w K mg base CX0 1 fD dD ["_law_pen_here", "_law_many"] spDraw) (bD : Binds K dD ["_law_pen_here", "_law_many"] []) (gD : mg "_law_draw" = some (.ref fD))
    (FK : Fun K "_law_pick" "_law_pick" sPick fK dK) (GK : FnOk P w K mg base CX0 2 fK dK ["_law_pen_here", "_law_some"] spPick) (bK : Binds K dK ["_law_pen_here", "_law_some"] []) (gK : mg "_law_pick" = some (.ref fK))
    (FN : Fun K "_law_names" "_law_names" sNames fN dN) (GN : FnOk P w K mg base CX0 2 fN dN ["_law_pen_here", "_law_many"] spNames) (bN : Binds K dN ["_law_pen_here", "_law_many"] []) (gN : mg "_law_names" = some (.ref fN))
    (mr : mg "range" = none) (mx : mg "max" = none) (mp : mg "repr" = none) :
    FnG P w K mg base CX0 4 f fd ["_law_script"] (spLaw K) := by
  have GI : FnOk P w K mg base CX0 1 fI dI ["self"] (spInit C) := ok_init FI T
  have GW : FnOk P w K mg base CX0 1 fW dW ["self", "table", "column", "moment", "now"] (spWant C) := ok_want FW T
  refine okG F scLaw (fun vs H Q E h => ?_) (fun cv A out s H vs Q E gd hr h => ?_)
  · obtain ⟨a, ns, rfl, _⟩ := h
    rfl
  obtain ⟨a, ns, rfl, ha, hn, q⟩ := h
  have nd := scLaw.nd
  have hu := hu_of hr
  have zl : sizeLine = 16777216 := rfl
  have hr1 := hr.mono (show 1 ≤ 3 by decide)
  have hr2 := hr.mono (show 2 ≤ 3 by decide)
  refine ⟨_, pss_cons (ps_set (i := 1) nd rfl (.inl rfl) (pe_call GP hr1 (by rfl) gP FP.kp bP .nil pass0 (pa_cons (pv 0) pa_nil)))
    (pss_cons (ps_set (i := 2) nd rfl (.inl rfl) (pe_call GN hr2 (by rfl) gN FN.kp bN .nil pass0 (pa_cons (pv 1) (pa_cons (pe_op op_add pe_int (pe_call GD hr1 (by rfl) gD FD.kp bD .nil pass0 (pa_cons (pv 1) (pa_cons pe_int pa_nil)))) pa_nil))))
    (pss_cons (ps_set (i := 3) nd rfl (.inl rfl) (pe_lst (pa_cons (pe_make0 M GI hr2 rfl T.mgC bI .nil pass0) (pa_cons (pe_make0 M GI hr2 rfl T.mgC bI .nil pass0) pa_nil))))
    (pss_cons (ps_set (i := 4) nd rfl (.inl rfl) (pe_lst (pa_cons pe_dnewT (pa_cons pe_dnewT pa_nil))))
    (pss_cons (ps_set (i := 5) nd rfl (.inl rfl) (pe_call GD hr1 (by rfl) gD FD.kp bD .nil pass0 (pa_cons (pv 1) (pa_cons pe_int pa_nil))))
    (pss_cons (ps_for PassesOwn.never rfl (pi_range1 (by rfl) mr (pa_cons (pe_op op_add pe_int (pe_call GD hr1 (by rfl) gD FD.kp bD .nil pass0 (pa_cons (pv 1) (pa_cons pe_int pa_nil)))) pa_nil)) (pg_name (i := 6) nd rfl (.inl rfl))
      (pss_cons (ps_set (i := 5) nd rfl (.inl rfl) (pe_op op_add (pv 5) (pe_call GD hr1 (by rfl) gD FD.kp bD .nil pass0 (pa_cons (pv 1) (pa_cons pe_int pa_nil)))))
      (pss_cons (ps_set (i := 7) nd rfl (.inl rfl) (pe_call GD hr1 (by rfl) gD FD.kp bD .nil pass0 (pa_cons (pv 1) (pa_cons pe_int pa_nil))))
      (pss_cons (ps_par (i := 8) (j := 9) rfl nd rfl rfl (by decide) rfl rfl (pa_cons (pe_call GK hr2 (by rfl) gK FK.kp bK .nil pass0 (pa_cons (pv 1) (pa_cons (pv 2) pa_nil))) (pa_cons (pe_call GK hr2 (by rfl) gK FK.kp bK .nil pass0 (pa_cons (pv 1) (pa_cons (pv 2) pa_nil))) pa_nil)) (by rfl))
      (pss_cons (ps_set (i := 10) nd rfl (.inl rfl) (pe_callB (call_max2 rfl) (by rfl) mx (by decide +kernel) (pa_cons pe_int (pa_cons (pe_op op_sub (pv 5) (pe_ix ix_list (pe_lst (pa_cons pe_int (pa_cons pe_int (pa_cons pe_int
          (pa_cons (pe_call GD hr1 (by rfl) gD FD.kp bD .nil pass0 (pa_cons (pv 1) (pa_cons (pe_op op_add (pv 5) pe_int) pa_nil))) pa_nil))))) (pe_call GD hr1 (by rfl) gD FD.kp bD .nil pass0 (pa_cons (pv 1) (pa_cons pe_int pa_nil))) (fun _ _ => rfl))) pa_nil))))
      (pss_cons (ps_set (i := 11) nd rfl (.inl rfl) (pe_cmpR op_ge (pe_dget2 hu (pe_ix ix_list (pv 4) (pv 7) (fun _ _ => rfl)) (pe_tup (pa_cons (pv 8) (pa_cons (pv 9) pa_nil))) (pe_un un_neg pe_int) ⟨rfl, rfl, rfl, rfl⟩) (pv 10) (nomark _)))
      (C8.pss_cut (ps_if (pt_cmpR op_eq (pe_op op_modN (pv 6) pe_int) pe_int (nomark _))
          (pss_one (ps_set (i := 12) nd rfl (.inl rfl) (pe_methKw (pe_ix ix_list (pv 3) (pv 7) (fun _ _ => rfl)) T.cl mW GW hr1 kW pass0 (pk_cons (pv 5) (pk_cons (pv 10) (pk_cons (pv 9) (pk_cons (pv 8) pk_nil)))))))
          (pss_one (ps_set (i := 12) nd rfl (.inl rfl) (pe_meth (pe_ix ix_list (pv 3) (pv 7) (fun _ _ => rfl)) T.cl mW GW hr1 bW .nil pass0 (pa_cons (pv 8) (pa_cons (pv 9) (pa_cons (pv 10) (pa_cons (pv 5) pa_nil)))))))) 
      (pss_cons (ps_if (pt_cmpR op_ne (pe_callB (call_repr gd hr.units) (by rfl) mp (by decide +kernel) (pa_cons (pv 12) pa_nil)) (pe_callB (call_repr gd hr.units) (by rfl) mp (by decide +kernel) (pa_cons (pv 11) pa_nil)) (nomark _)) pss_never pss_nil)
      (pss_one (ps_if (pt_not (pt_val (pv 11))) (pss_one (ps_dput hu (pe_ix ix_list (pv 4) (pv 7) (fun _ _ => rfl)) (pe_tup (pa_cons (pv 8) (pa_cons (pv 9) pa_nil))) (pv 5) rfl)) pss_nil))))))))))
    (pss_one (ps_ret (pe_cmpR op_is_bl (pe_meth (pe_make0 M GI hr2 rfl T.mgC bI .nil pass0) T.cl mW GW hr1 bW .nil pass0 (pa_cons (pe_ix ix_list (pv 2) pe_int (fun _ _ => rfl)) (pa_cons (pe_ix ix_list (pv 2) pe_int (fun _ _ => rfl)) (pa_cons pe_int (pa_cons pe_int pa_nil))))) pe_bl (nomark _))))))))), ?_⟩
  refine ⟨_, rfl, a, ns, rfl, ha, hn, fun l c H1 s1 nl nc p1 => ?_⟩
  refine ⟨_, rfl, _, rfl, l, c, 3, _, rfl, p1, by decide, by decide, by omega, fun r2 H2 r20 r21 p2 x2 => ?_⟩
  refine ⟨_, _, rfl, rfl, l, c, _, (1 + r2).toNat, by rw [show (((1 + r2).toNat : Nat) : Int) = 1 + r2 by omega]; rfl, p2, by omega, by omega, fun b ts H3 nb eb lt p3 x3 => ?_⟩
  have nbl := (p2.not nb).1
  obtain ⟨⟨lx, elx⟩, cx, ecx⟩ := Pen.lists p3
  intro y0 dx0 ny0 ndx0 ney0
  refine ⟨y0, dx0, rfl, upd_same, fun d0 H4 nd0 ep0 ed0 keep0 => ⟨rfl, ?_⟩⟩
  have s34 : Same H3 H4 := fun q o eq => keep0 q o (by rw [upd_ne (ne_of_none eq ny0), upd_ne (ne_of_none eq ndx0)]; exact eq) (ne_of_none eq ny0)
  intro y1 dx1 ny1 ndx1 ney1
  refine ⟨y1, dx1, rfl, upd_same, fun d1 H5 nd1 ep1 ed1 keep1 => ⟨rfl, ?_⟩⟩
  have s45 : Same H4 H5 := fun q o eq => keep1 q o (by rw [upd_ne (ne_of_none eq ny1), upd_ne (ne_of_none eq ndx1)]; exact eq) (ne_of_none eq ny1)
  refine ⟨(by show 2 ≤ sizeLine; decide), fun s ns' => ?_⟩
  have s56 := new_same (o := .lst [.ref y0, .ref y1]) ns'
  intro e0 ne0
  have s67 := new_same (o := .dT []) ne0
  intro e1 ne1
  have s78 := new_same (o := .dT []) ne1
  refine ⟨(by show 2 ≤ sizeLine; decide), fun m nm => ?_⟩
  have s89 := new_same (o := .lst [.ref e0, .ref e1]) nm
  have nd01 : d0 ≠ d1 := fun z => by
    have q1 := s45 _ _ ed0
    have q2 : upd (upd H4 dx1 (.own y1)) y1 (.ins C dx1 []) d1 = none := nd1
    rw [← z] at q2
    have q3 : d0 ≠ y1 := ne_of_none ed0 ny1
    have q4 : d0 ≠ dx1 := ne_of_none ed0 ndx1
    rw [upd_ne q3, upd_ne q4, ed0] at q2
    cases q2
  have ed05 := s45 _ _ ed0
  have ed06 := s56 _ _ ed05
  have ed16 := s56 _ _ ed1
  have s39 := (s34.trans s45).trans (((s56.trans s67).trans s78).trans s89)
  have T0 : Two C (upd (upd (upd (upd H5 s (.lst [.ref y0, .ref y1])) e0 (.dT [])) e1 (.dT [])) m (.lst [.ref e0, .ref e1])) s m (pick2 y0 y1) (pick2 d0 d1) (pick2 e0 e1) (fun _ => []) (fun _ => []) := by
    have two : ∀ {Pr : Nat → Prop}, Pr 0 → Pr 1 → ∀ i, i < 2 → Pr i := fun h0 h1 i hi => by
      match i, hi with
      | 0, _ => exact h0
      | 1, _ => exact h1
    have a6 : upd H5 s (.lst [.ref y0, .ref y1]) s = some (.lst [.ref y0, .ref y1]) := upd_same
    have n0 : d0 ≠ e0 := ne_of_none ed06 ne0
    have n1 : d1 ≠ e0 := ne_of_none ed16 ne0
    have ed07 := s67 _ _ ed06
    have ed17 := s67 _ _ ed16
    have n2 : d0 ≠ e1 := ne_of_none ed07 ne1
    have n3 : d1 ≠ e1 := ne_of_none ed17 ne1
    have e07 : upd (upd H5 s (.lst [.ref y0, .ref y1])) e0 (.dT []) e0 = some (.dT []) := upd_same
    have n4 : e0 ≠ e1 := ne_of_none e07 ne1
    have s69 := (s67.trans s78).trans s89
    refine ⟨s69 _ _ a6, upd_same, two ⟨dx0, s69 _ _ (s56 _ _ (s45 _ _ ep0))⟩ ⟨dx1, s69 _ _ (s56 _ _ ep1)⟩, two (s69 _ _ ed06) (s69 _ _ ed16), two ((s78.trans s89) _ _ e07) (s89 _ _ upd_same), ?_, ?_, ?_⟩
    · exact fun u v hu hv => two (Pr := fun u => u ≠ v → pick2 d0 d1 u ≠ pick2 d0 d1 v) (two (Pr := fun v => 0 ≠ v → pick2 d0 d1 0 ≠ pick2 d0 d1 v) (fun z => absurd rfl z) (fun _ => nd01) v hv) (two (Pr := fun v => 1 ≠ v → pick2 d0 d1 1 ≠ pick2 d0 d1 v) (fun _ => nd01.symm) (fun z => absurd rfl z) v hv) u hu
    · exact fun u v hu hv => two (Pr := fun u => u ≠ v → pick2 e0 e1 u ≠ pick2 e0 e1 v) (two (Pr := fun v => 0 ≠ v → pick2 e0 e1 0 ≠ pick2 e0 e1 v) (fun z => absurd rfl z) (fun _ => n4) v hv) (two (Pr := fun v => 1 ≠ v → pick2 e0 e1 1 ≠ pick2 e0 e1 v) (fun _ => n4.symm) (fun z => absurd rfl z) v hv) u hu
    · exact fun u v hu hv => two (Pr := fun u => pick2 d0 d1 u ≠ pick2 e0 e1 v) (two (Pr := fun v => pick2 d0 d1 0 ≠ pick2 e0 e1 v) n0 n2 v hv) (two (Pr := fun v => pick2 d0 d1 1 ≠ pick2 e0 e1 v) n1 n3 v hv) u hu
  have p9 := p3.same s39
  have eb9 := s39 _ _ eb
  have nsl : s ≠ l := fun z => by
    have := (s34.trans s45) _ _ elx
    rw [← z, ns'] at this
    cases this
  have nml : m ≠ l := fun z => by
    have := ((s34.trans s45).trans ((s56.trans s67).trans s78)) _ _ elx
    rw [← z, nm] at this
    cases this
  generalize upd (upd (upd (upd H5 s (.lst [.ref y0, .ref y1])) e0 (.dT [])) e1 (.dT [])) m (.lst [.ref e0, .ref e1]) = H9 at *
  generalize (pick2 y0 y1) = p at *
  generalize (pick2 d0 d1) = d at *
  generalize (pick2 e0 e1) = e at *
  refine ⟨_, rfl, l, c, 3, _, rfl, p9, by decide, by decide, by omega, fun cl H10 cl0 cl1 p10 x10 => ?_⟩
  have T10 := T0.drawn (s39 _ _ elx) nsl nml x10
  have eb10 := x10 _ _ nbl eb9
  refine ⟨_, rfl, l, c, 57, _, rfl, p10, by decide, by decide, by omega, fun r11 H11 r110 r111 p11 x11 => ?_⟩
  have T11 := T10.drawn ((s39 _ _ elx) |> fun z => (Pen.lists p10).1.choose_spec) nsl nml x11
  have eb11 := x11 _ _ nbl eb10
  refine ⟨_, _, rfl, rfl, _, rfl, by omega, by omega, ?_⟩
  refine for_it walk_upto (fun i σ H' => ∃ (k j : Nat → Kv) (cl : Int) (y6 y7 y8 y9 y10 y11 y12 : Option V), Pen H' l c (6 + 8 * i) ∧ Two C H' s m p d e k j ∧ (∀ i, i < 2 → k i = j i) ∧ (∀ u, u < 2 → (k u).length ≤ i) ∧ H' b = some (.lst (ts.map V.str)) ∧ 0 ≤ cl ∧ cl ≤ 2 + 2 * i ∧
      σ = [some (.ref a), some (.ref l), some (.ref b), some (.ref s), some (.ref m), some (.int cl), y6, y7, y8, y9, y10, y11, y12])
    ⟨_, _, cl, none, none, none, none, none, none, none, p11.le (by omega), T11, fun _ _ => rfl, fun _ _ => Nat.zero_le _, eb11, cl0, by omega, rfl⟩ (fun _ _ _ _ _ => trivial) ?_ ?_
  · rintro i x σ Ha Hb hi ⟨k, j, cl, y6, y7, y8, y9, y10, y11, y12, pa, Ta, hkj, hk, eba, ca0, ca1, rfl⟩ ⟨rfl, rfl⟩
    have hi60 : i < 61 := by omega
    refine ⟨_, rfl, _, rfl, l, c, 3, _, rfl, pa, by decide, by decide, by omega, fun dc H1 dc0 dc1 p1' x1 => ?_⟩
    have T1 := Ta.drawn (Pen.lists pa).1.choose_spec nsl nml x1
    have eb1 := x1 _ _ nbl eba
    refine ⟨_, _, rfl, rfl, ?_⟩
    refine ⟨_, rfl, l, c, 2, _, rfl, p1', by decide, by decide, by omega, fun r H2 r0 r1 p2' x2 => ?_⟩
    have T2 := T1.drawn (Pen.lists p1').1.choose_spec nsl nml x2
    have eb2 := x2 _ _ nbl eb1
    refine ⟨_, rfl, _, rfl, l, c, b, _, _, rfl, p2', by omega, eb2, nbl, by rw [List.length_map]; omega, by rw [List.length_map]; omega, fun v1 H3 hv1 p3' x3 => ?_⟩
    obtain ⟨t1, _, rfl⟩ := List.mem_map.mp hv1
    have T3 := T2.drawn (Pen.lists p2').1.choose_spec nsl nml x3
    have eb3 := x3 _ _ nbl eb2
    refine ⟨_, rfl, _, rfl, l, c, b, _, _, rfl, p3', by omega, eb3, nbl, by rw [List.length_map]; omega, by rw [List.length_map]; omega, fun v2 H4 hv2 p4' x4 => ?_⟩
    obtain ⟨t2, _, rfl⟩ := List.mem_map.mp hv2
    have T4 := T3.drawn (Pen.lists p3').1.choose_spec nsl nml x4
    have eb4 := x4 _ _ nbl eb3
    refine ⟨_, _, rfl, ?_⟩
    refine ⟨_, rfl, _, rfl, _, rfl, _, _, rfl, rfl, l, c, _, _, rfl, p4', by omega, by omega, by omega, fun dw H5 dw0 dw1 p5' x5 => ?_⟩
    have T5 := T4.drawn (Pen.lists p4').1.choose_spec nsl nml x5
    have eb5 := x5 _ _ nbl eb4
    refine ⟨(by show 4 ≤ sizeLine; decide), fun o no => ?_⟩
    have so := new_same (o := .lst [.int 0, .int 0, .int 1, .int dw]) no
    have p6' := p5'.same so
    refine ⟨_, rfl, l, c, 4, _, rfl, p6', by decide, by decide, by omega, fun r6 H7 r60 r61 p7' x7 => ?_⟩
    have T7 := (T5.same so).drawn (Pen.lists p6').1.choose_spec nsl nml x7
    have eb7 := x7 _ _ nbl (so _ _ eb5)
    obtain ⟨wv, hwv, ewv⟩ := at_list (f := V.int) (xs := [0, 0, 1, dw]) r60 (by simpa using r61)
    refine ⟨o, _, _, _, rfl, rfl, SqL.of (x7 _ _ (p5'.not no).1 upd_same), ewv, _, _, rfl, rfl, _, _, rfl, ?_⟩
    have R : r.toNat < 2 := by omega
    have hW : 0 ≤ (if (cl + dc) - wv > 0 then (cl + dc) - wv else 0) := by split <;> omega
    refine ⟨_, rfl, _, rfl, m, _, _, _, rfl, rfl, SqL.of T7.hm, two_at r0 r1, e r.toNat, rfl, .inr ⟨_, .inl (T7.he _ R)⟩, _, rfl, _, rfl, (by show 2 ≤ sizeLine; decide), fun tb ntb => ?_⟩
    have st := new_same (o := .tup [.str t1, .str t2]) ntb
    have T8 := T7.same st
    refine ⟨_, rfl, _, DGet.t (k := key2 t1 t2) (T8.he _ R) upd_same, ?_⟩
    refine ⟨_, rfl, (look (j r.toNat) (key2 t1 t2)).getD (-1), _, by rw [look_mk]; cases look (j r.toNat) (key2 t1 t2) <;> rfl, rfl, ?_⟩
    have p8' := p7'.same st
    have eb8 := st _ _ eb7
    have due0 := due_eq (j r.toNat) (key2 t1 t2) hW
    have hkr := hkj _ R
    generalize upd H7 tb (.tup [.str t1, .str t2]) = H8 at *
    have hlen : (k r.toNat).length ≤ 1000 := by
      have := hk _ R
      omega
    obtain ⟨⟨lx8, el8⟩, cx8, ec8⟩ := Pen.lists p8'
    have hd8 := T8.hd _ R
    refine ⟨fun σ' H' => Pen H' l c (6 + 8 * i + 8) ∧ Two C H' s m p d e (fun u => if u = r.toNat then next (k r.toNat) (key2 t1 t2) (if (cl + dc) - wv > 0 then (cl + dc) - wv else 0) (cl + dc) else k u) j ∧ H' b = some (.lst (ts.map V.str)) ∧
      σ' = [some (.ref a), some (.ref l), some (.ref b), some (.ref s), some (.ref m), some (.int (cl + dc)), some (.int (i : Nat)), some (.int r), some (.str t1), some (.str t2), some (.int (if (cl + dc) - wv > 0 then (cl + dc) - wv else 0)),
        some (.bl (dueOf (k r.toNat) (key2 t1 t2) (if (cl + dc) - wv > 0 then (cl + dc) - wv else 0))), some (.bl (dueOf (k r.toNat) (key2 t1 t2) (if (cl + dc) - wv > 0 then (cl + dc) - wv else 0)))], ?_, ?_⟩
    · have fin : ∀ H', (∀ b o, b ≠ d r.toNat → H8 b = some o → H' b = some o) → H' (d r.toNat) = some (.dT (mk (next (k r.toNat) (key2 t1 t2) (if (cl + dc) - wv > 0 then (cl + dc) - wv else 0) (cl + dc)))) →
          Pen H' l c (6 + 8 * i + 8) ∧ Two C H' s m p d e (fun u => if u = r.toNat then next (k r.toNat) (key2 t1 t2) (if (cl + dc) - wv > 0 then (cl + dc) - wv else 0) (cl + dc) else k u) j ∧ H' b = some (.lst (ts.map V.str)) := fun H' hx hn' =>
        ⟨(Pen.off2 p8' hx (ne_of el8 hd8 (fun z => nomatch z)) (ne_of ec8 hd8 (fun z => nomatch z))).le (by omega), T8.putD R hx hn', hx _ _ (ne_of eb8 hd8 (fun z => nomatch z)) eb8⟩
      obtain ⟨dxr, hpr⟩ := T8.hp _ R
      have nol : (mf (d r.toNat)).lookup ("want" : Str) = none := mf_no _
      refine ⟨_, rfl, _, _, rfl, rfl, by omega, rfl, _, rfl, ite2 (fun _ => ?_) (fun _ => ?_)⟩
      · refine ⟨_, rfl, _, rfl, s, _, _, _, rfl, rfl, SqL.of T8.hs, two_at r0 r1, p r.toNat, dxr, _, rfl, hpr, nol, _, rfl, _, rfl, _, rfl, _, rfl, p r.toNat, dxr, d r.toNat, t1, t2, _, _, k r.toNat, rfl, hpr, hd8, hlen, fun H' hx hn' => ?_⟩
        obtain ⟨f1, f2, f3⟩ := fin H' hx hn'
        refine ⟨f1, f2, f3, ?_⟩
        rw [hkr, ← due0]
        rfl
      · refine ⟨_, rfl, _, rfl, s, _, _, _, rfl, rfl, SqL.of T8.hs, two_at r0 r1, p r.toNat, dxr, _, rfl, hpr, nol, _, rfl, _, rfl, _, rfl, _, rfl, p r.toNat, dxr, d r.toNat, t1, t2, _, _, k r.toNat, rfl, hpr, hd8, hlen, fun H' hx hn' => ?_⟩
        obtain ⟨f1, f2, f3⟩ := fin H' hx hn'
        refine ⟨f1, f2, f3, ?_⟩
        rw [hkr, ← due0]
        rfl
    rintro σ9 Hc ⟨pc, Tc, ebc, rfl⟩
    generalize hWe : (if (cl + dc) - wv > 0 then (cl + dc) - wv else 0) = W at *
    obtain ⟨o1, o2, o3⟩ := bool_shown (dueOf (k r.toNat) (key2 t1 t2) W)
    refine ⟨_, rfl, _, _, rfl, .bl _, o1, o2, o3, _, rfl, _, _, rfl, .bl _, o1, o2, o3, rfl, _, rfl, ?_⟩
    rw [decide_eq_true rfl]
    refine iteF ?_
    have nlen : ∀ u, u < 2 → (if u = r.toNat then next (k r.toNat) (key2 t1 t2) W (cl + dc) else k u).length ≤ i + 1 := fun u hu => by
      split
      · have := next_len (k r.toNat) (key2 t1 t2) W (cl + dc)
        have := hk _ R
        omega
      · have := hk u hu
        omega
    refine ⟨_, rfl, _, rfl, ite2 (fun ee => ?_) (fun ee => ?_)⟩
    · have dd : dueOf (k r.toNat) (key2 t1 t2) W = false := by simpa using ee
      refine ⟨_, rfl, _, rfl, _, rfl, m, _, _, _, rfl, rfl, SqL.of Tc.hm, two_at r0 r1, _, rfl, _, rfl, (by show 2 ≤ sizeLine; decide), fun tb2 ntb2 => ?_⟩
      have s2' := new_same (o := .tup [.str t1, .str t2]) ntb2
      have Td := Tc.same s2'
      have jlen : (j r.toNat).length ≤ 1000 := by rw [← hkr]; exact hlen
      refine ⟨e r.toNat, _, rfl, DPut.t (k := key2 t1 t2) (Td.he _ R) upd_same (by rw [mk_len]; omega), ?_⟩
      rw [put_mk]
      have pd := pc.same s2'
      obtain ⟨⟨lx9, el9⟩, cx9, ec9⟩ := Pen.lists pd
      have ebd := s2' _ _ ebc
      have hx : ∀ b o, b ≠ e r.toNat → upd Hc tb2 (.tup [.str t1, .str t2]) b = some o → upd (upd Hc tb2 (.tup [.str t1, .str t2])) (e r.toNat) (.dT (mk (put (j r.toNat) (key2 t1 t2) (cl + dc)))) b = some o := fun b o ne q => by
        rw [upd_ne ne]
        exact q
      refine ⟨_, _, cl + dc, _, _, _, _, _, _, _, (Pen.off2 pd hx (ne_of el9 (Td.he _ R) (fun z => nomatch z)) (ne_of ec9 (Td.he _ R) (fun z => nomatch z))).le (by omega), Td.putE R hx upd_same, fun u hu => ?_, nlen, hx _ _ (ne_of ebd (Td.he _ R) (fun z => nomatch z)) ebd, by omega, by omega, rfl⟩
      show (if u = r.toNat then next (k r.toNat) (key2 t1 t2) W (cl + dc) else k u) = (if u = r.toNat then put (j r.toNat) (key2 t1 t2) (cl + dc) else j u)
      split
      · unfold next
        rw [dd, ← hkr]
        rfl
      · exact hkj u hu
    · have dd : dueOf (k r.toNat) (key2 t1 t2) W = true := by
        cases q : dueOf (k r.toNat) (key2 t1 t2) W with
        | true => rfl
        | false => rw [q] at ee; exact absurd rfl ee
      refine ⟨_, j, cl + dc, _, _, _, _, _, _, _, pc.le (by omega), Tc, fun u hu => ?_, nlen, ebc, by omega, by omega, rfl⟩
      show (if u = r.toNat then next (k r.toNat) (key2 t1 t2) W (cl + dc) else k u) = j u
      split
      · rename_i q
        unfold next
        rw [dd, if_pos rfl, q]
        exact hkr
      · exact hkj u hu
  · rintro σ Ha ⟨k, j, cl, y6, y7, y8, y9, y10, y11, y12, pa, Ta, hkj, hk, eba, ca0, ca1, rfl⟩
    cases ts with
    | nil =>
      rw [List.length_nil] at lt
      omega
    | cons t0 tr =>
      intro z dz nz ndz nez
      refine ⟨z, dz, rfl, upd_same, fun dd Hb ndd epd edd keep => ⟨rfl, ?_⟩⟩
      have nol : (mf dd).lookup ("want" : Str) = none := mf_no _
      have ebb : Hb b = some (.lst ((t0 :: tr).map V.str)) := keep _ _ (by rw [upd_ne (ne_of_none eba nz), upd_ne (ne_of_none eba ndz)]; exact eba) (ne_of_none eba nz)
      refine ⟨z, dz, _, rfl, epd, nol, _, rfl, b, _, 0, _, rfl, rfl, SqL.of ebb, atI_nat (j := 0) rfl, _, rfl, b, _, 0, _, rfl, rfl, SqL.of ebb, atI_nat (j := 0) rfl, z, dz, dd, t0, t0, 0, 0, [], rfl, epd, edd, by simp, fun H' hx hn' => ?_⟩
      exact ⟨_, false, rfl, rfl, q H'⟩
end
end K57
end

section
set_option Elab.async false
set_option linter.all false
set_option maxRecDepth 100000
set_option maxHeartbeats 8000000
namespace K57
open PySem PySem.Spec PyProof.Rows L2 Gd
theorem all_mk {l : PySem.W.OpenLaw} {w : World} {K : PySem.W.Frag} {h : Heap} {mg : Str → Option Value} {fa : Addr} {f0 f1 f2 f3 f4 : Addr} {C fI fW : Addr} {odI anI odW anW : Option Addr} {slI slW : Array (Option Value)} {ocI kVI dcI pmI cdI ctI ocW kVW dcW pmW cdW ctW : Value} (X : K.In h) (G : h.Ns mainGlobals mg) (hfa : mg "law" = some (.ref fa))
    {od0 an0 od1 an1 od2 an2 od3 an3 od4 an4 : Option Addr} {sl0 sl1 sl2 sl3 sl4 : Array (Option Value)} {oc0 kV0 dc0 pm0 cd0 ct0 oc1 kV1 dc1 pm1 cd1 ct1 oc2 kV2 dc2 pm2 cd2 ct2 oc3 kV3 dc3 pm3 cd3 ct3 oc4 kV4 dc4 pm4 cd4 ct4 : Value}
    (aF0 : PySem.W.nsIn K mainGlobals "_law_pen" = some (some (.ref f0)))
    (lF0 : K.lookup f0 = some ⟨oc0, od0, .func (PySem.W.fnOf "_law_pen" "_law_pen" (defArgs sPen) (defBody sPen) (defScope sPen) .none kV0 dc0 pm0 an0 cd0 ct0), sl0⟩)
    (cF0 : PySem.W.codeIn K cd0 "_law_pen" = true)
    (kF0 : PySem.W.keepIn K (.ref f0) = true)
    (aF1 : PySem.W.nsIn K mainGlobals "_law_draw" = some (some (.ref f1)))
    (lF1 : K.lookup f1 = some ⟨oc1, od1, .func (PySem.W.fnOf "_law_draw" "_law_draw" (defArgs sDraw) (defBody sDraw) (defScope sDraw) .none kV1 dc1 pm1 an1 cd1 ct1), sl1⟩)
    (cF1 : PySem.W.codeIn K cd1 "_law_draw" = true)
    (kF1 : PySem.W.keepIn K (.ref f1) = true)
    (aF2 : PySem.W.nsIn K mainGlobals "_law_pick" = some (some (.ref f2)))
    (lF2 : K.lookup f2 = some ⟨oc2, od2, .func (PySem.W.fnOf "_law_pick" "_law_pick" (defArgs sPick) (defBody sPick) (defScope sPick) .none kV2 dc2 pm2 an2 cd2 ct2), sl2⟩)
    (cF2 : PySem.W.codeIn K cd2 "_law_pick" = true)
    (kF2 : PySem.W.keepIn K (.ref f2) = true)
    (aF3 : PySem.W.nsIn K mainGlobals "_law_names" = some (some (.ref f3)))
    (lF3 : K.lookup f3 = some ⟨oc3, od3, .func (PySem.W.fnOf "_law_names" "_law_names" (defArgs sNames) (defBody sNames) (defScope sNames) .none kV3 dc3 pm3 an3 cd3 ct3), sl3⟩)
    (cF3 : PySem.W.codeIn K cd3 "_law_names" = true)
    (kF3 : PySem.W.keepIn K (.ref f3) = true)
    (aF4 : PySem.W.nsIn K mainGlobals "law" = some (some (.ref f4)))
    (lF4 : K.lookup f4 = some ⟨oc4, od4, .func (PySem.W.fnOf "law" "law" (defArgs sLaw) (defBody sLaw) (defScope sLaw) .none kV4 dc4 pm4 an4 cd4 ct4), sl4⟩)
    (cF4 : PySem.W.codeIn K cd4 "law" = true)
    (kF4 : PySem.W.keepIn K (.ref f4) = true)
    (aC : PySem.W.nsIn K mainGlobals "Kept" = some (some (.ref C)))
    (aI : PySem.W.findIn K (.ref C) "__init__" = some (some (.ref fI)))
    (iI : PySem.W.isFn K (.ref fI) = true)
    (lI : K.lookup fI = some ⟨ocI, odI, .func (PySem.W.fnOf "__init__" "Kept.__init__" (defArgs sInit) (defBody sInit) (defScope sInit) .none kVI dcI pmI anI cdI ctI), slI⟩)
    (cI : PySem.W.codeIn K cdI "Kept.__init__" = true)
    (kI : PySem.W.keepIn K (.ref fI) = true)
    (aW : PySem.W.findIn K (.ref C) "want" = some (some (.ref fW)))
    (iW : PySem.W.isFn K (.ref fW) = true)
    (lW : K.lookup fW = some ⟨ocW, odW, .func (PySem.W.fnOf "want" "Kept.want" (defArgs sWant) (defBody sWant) (defScope sWant) .none kVW dcW pmW anW cdW ctW), slW⟩)
    (cW : PySem.W.codeIn K cdW "Kept.want" = true)
    (kW : PySem.W.keepIn K (.ref fW) = true)
    (pg : PySem.W.plainGet K C Str.empty = true)
    (hd : PySem.W.hasDictIn K C = true)
    (po : PySem.W.plainOver K C = true)
    (sa : PySem.W.findIn K (.ref C) "__setattr__" = some (some (.builtin "object.__setattr__")))
    (mk_ : PySem.W.makesIn K C = true)
    (kc : PySem.W.keepIn K (.ref C) = true)
    (nM : PySem.W.findIn K (.ref C) "_made" = some none)
    (z_list : PySem.W.nsIn K mainGlobals "list" = some none)
    (z_len : PySem.W.nsIn K mainGlobals "len" = some none)
    (z_abs : PySem.W.nsIn K mainGlobals "abs" = some none)
    (z_int : PySem.W.nsIn K mainGlobals "int" = some none)
    (z_range : PySem.W.nsIn K mainGlobals "range" = some none)
    (z_max : PySem.W.nsIn K mainGlobals "max" = some none)
    (z_repr : PySem.W.nsIn K mainGlobals "repr" = some none) :
    ∃ fd : FuncData, (∀ (s : Shared) (v : Value), BindsTo s fd ⟨[v], []⟩ [("_law_script", v)]) ∧ ∀ base : Heap, K.In base → base.Ns mainGlobals mg → FnG l.prog w K mg base CX0 4 fa fd ["_law_script"] (spLaw K) := by
  have e := hfa.symm.trans (PySem.W.mg_of X G aF4)
  cases e
  have F0 := fun_mk (st := sPen) lF0 cF0 kF0
  have b0 := F0.binds (ps := ["_law_script"]) fun _ _ _ _ _ _ us hl => match us, hl with | [_], _ => rfl
  have m0 := PySem.W.mg_of X G aF0
  have F1 := fun_mk (st := sDraw) lF1 cF1 kF1
  have b1 := F1.binds (ps := ["_law_pen_here", "_law_many"]) fun _ _ _ _ _ _ us hl => match us, hl with | [_, _], _ => rfl
  have m1 := PySem.W.mg_of X G aF1
  have F2 := fun_mk (st := sPick) lF2 cF2 kF2
  have b2 := F2.binds (ps := ["_law_pen_here", "_law_some"]) fun _ _ _ _ _ _ us hl => match us, hl with | [_, _], _ => rfl
  have m2 := PySem.W.mg_of X G aF2
  have F3 := fun_mk (st := sNames) lF3 cF3 kF3
  have b3 := F3.binds (ps := ["_law_pen_here", "_law_many"]) fun _ _ _ _ _ _ us hl => match us, hl with | [_, _], _ => rfl
  have m3 := PySem.W.mg_of X G aF3
  have F4 := fun_mk (st := sLaw) lF4 cF4 kF4
  have m4 := PySem.W.mg_of X G aF4
  have y_list := PySem.W.mg_none_of X G z_list
  have y_len := PySem.W.mg_none_of X G z_len
  have y_abs := PySem.W.mg_none_of X G z_abs
  have y_int := PySem.W.mg_none_of X G z_int
  have y_range := PySem.W.mg_none_of X G z_range
  have y_max := PySem.W.mg_none_of X G z_max
  have y_repr := PySem.W.mg_none_of X G z_repr
  refine ⟨PySem.W.fnOf "law" "law" (defArgs sLaw) (defBody sLaw) (defScope sLaw) .none kV4 dc4 pm4 an4 cd4 ct4, fun s v => .of_eq rfl, fun base _ _ => ?_⟩
  have T : Txt K mg C := ⟨⟨pg, hd, po, sa⟩, nM, PySem.W.mg_of X G aC⟩
  have FI := fun_mk (st := sInit) lI cI kI
  have FW := fun_mk (st := sWant) lW cW kW
  have bI := FI.binds (ps := ["self"]) fun _ _ _ _ _ _ us hl => match us, hl with | [_], _ => rfl
  have bW := FW.binds (ps := ["self", "table", "column", "moment", "now"]) fun _ _ _ _ _ _ us hl => match us, hl with | [_, _, _, _, _], _ => rfl
  have kWn := back4_of (p0 := "self") (p1 := "table") (p2 := "column") (p3 := "moment") (p4 := "now") FW fun _ _ _ _ _ _ _ _ _ _ _ => rfl
  have gPen := ok_pen (P := l.prog) (w := w) (base := base) F0 y_list
  have gDraw := ok_draw (P := l.prog) (w := w) (base := base) F1 y_len y_abs y_int
  have gPick := ok_pick (P := l.prog) (w := w) (base := base) F2 y_len F1 gDraw b1 m1
  have gNames := ok_names (P := l.prog) (w := w) (base := base) F3 y_len y_range F1 gDraw b1 m1
  exact ok_law F4 T ⟨mk_, aI, iI, kc⟩ FI bI FW bW ⟨aW, iW, kW⟩ kWn F0 gPen b0 m0 F1 gDraw b1 m1 F2 gPick b2 m2 F3 gNames b3 m3 y_range y_max y_repr

end K57
open PySem PySem.W PyProof.Rows
set_option maxRecDepth 100000 in
set_option maxHeartbeats 0 in
theorem PySem.Challenge.cw_plansamid_k57_kept_ones_wanted_holds : PySem.Challenge.rw_plansamid_k57_kept_ones_wanted.Holds := by
  w_on; o_law; k_head; (case hw => w_witness2)
  k_fill
  refine Gd.walkG (l := PySem.Challenge.rw_plansamid_k57_kept_ones_wanted) (m := 63) (n := 4) (x := "_law_script") (sp := K57.spLaw) rfl (by decide) rfl ⟨rfl, by decide, by decide⟩ (fun w h Y => PySem.W.kIn_of Y) ?F ?S
  case S =>
    intro K H a ns h1 _ _ h4; exact ⟨a, ns, rfl, h4, h1, fun _ => rfl⟩
  case F =>
    intro w mg fa h KX G hmg
    refine' K57.all_mk KX G hmg ?aF0 ?lF0 ?cF0 ?kF0 ?aF1 ?lF1 ?cF1 ?kF1 ?aF2 ?lF2 ?cF2 ?kF2 ?aF3 ?lF3 ?cF3 ?kF3 ?aF4 ?lF4 ?cF4 ?kF4 ?aC ?aI ?iI ?lI ?cI ?kI ?aW ?iW ?lW ?cW ?kW ?pg ?hd ?po ?sa ?mk_ ?kc ?nM ?z_list ?z_len ?z_abs ?z_int ?z_range ?z_max ?z_repr
    (case aF0 => k_is)
    (case lF0 => k_is)
    (case cF0 => k_is)
    (case kF0 => k_is)
    (case aF1 => k_is)
    (case lF1 => k_is)
    (case cF1 => k_is)
    (case kF1 => k_is)
    (case aF2 => k_is)
    (case lF2 => k_is)
    (case cF2 => k_is)
    (case kF2 => k_is)
    (case aF3 => k_is)
    (case lF3 => k_is)
    (case cF3 => k_is)
    (case kF3 => k_is)
    (case aF4 => k_is)
    (case lF4 => k_is)
    (case cF4 => k_is)
    (case kF4 => k_is)
    (case aC => k_is)
    (case aI => k_is)
    (case iI => k_is)
    (case lI => k_is)
    (case cI => k_is)
    (case kI => k_is)
    (case aW => k_is)
    (case iW => k_is)
    (case lW => k_is)
    (case cW => k_is)
    (case kW => k_is)
    (case pg => k_is)
    (case hd => k_is)
    (case po => k_is)
    (case sa => k_is)
    (case mk_ => k_is)
    (case kc => k_is)
    (case nM => k_is)
    (case z_list => k_is)
    (case z_len => k_is)
    (case z_abs => k_is)
    (case z_int => k_is)
    (case z_range => k_is)
    (case z_max => k_is)
    (case z_repr => k_is)
end
