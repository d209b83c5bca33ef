import PyProof.Rows.All
import Wide.All
import OpenK.AllK
import Wide.FinOn
import HandS.ForMost
import HandS.ForExc
import HandS.EndBits
import HandS.IsInst
import PyProof.ReprRoads
import PyProof.FitsInt
import PyProof.NeKinds
import HandS.Zip
import KE.GoesZip
import KE.GoesMore
import HandS.Base
import HandS.Conv
import HandS.Codes
import HandS.Walk
import HandS.TupAny
import PyProof.ListIndex
import HandS.DeepEq
import HandS.TupLe
import PySem.Challenge.RW_plansamid_k27_whole_turned_parted_put_to

section
set_option Elab.async false
set_option linter.all false
set_option maxRecDepth 100000
set_option maxHeartbeats 4000000
/-! A def's promise where no text of a container is being put together around it (so that repr is served). -/
namespace Gd
open PySem PySem.Spec PyProof.Rows L2

/-- no container is amid its own text -/
def Free (A : Around) : Prop := A.guards = some []

structure FnG (P : Program) (w : World) (K : PySem.W.Frag) (mg : Str → Option Value)
    (base : Heap) (cx : CXT) (n : Nat) (f : Addr) (fd : FuncData) (ps : List Str) (sp : Sp) : Prop where
  len : ∀ vs H Q E, sp vs H Q E → vs.length = ps.length
  run : ∀ (A : Around) (out : List Env) (s : Shared) (H : Hp) (args : Args) (us : List Value)
      (vs : List V) (Q : VK) (E : XK), Free A → Room n A → Env0 P w K mg base A out s H →
      BindsTo s fd args (ps.zip us) → Vals vs us → sp vs H Q E →
      codeAny (model P w) A (.call (.ref f) args) (CR cx out P w H s Q E) s

section
variable {P : Program} {w : World} {K : PySem.W.Frag} {mg : Str → Option Value} {base : Heap} {cx : CXT}
theorem FnG.ofOk {n : Nat} {f : Addr} {fd : FuncData} {ps : List Str} {sp : Sp}
    (F : FnOk P w K mg base cx n f fd ps sp) : FnG P w K mg base cx n f fd ps sp :=
  ⟨F.len, fun A out s H args us vs Q E _ => F.run A out s H args us vs Q E⟩
theorem FnG.mono {m n : Nat} {f : Addr} {fd : FuncData} {ps : List Str} {sp : Sp}
    (F : FnG P w K mg base cx m f fd ps sp) (h : m ≤ n) : FnG P w K mg base cx n f fd ps sp :=
  ⟨F.len, fun A out s H args us vs Q E g r => F.run A out s H args us vs Q E g (r.mono h)⟩
end

section
variable {X : Cx} {cx : CXT} {n : Nat} {f : Addr} {fd : FuncData} {ps : List Str} {sp : Sp}
  {dvs : List V} {ds : List Value} {E : XK} {x : Str} {p pos : Pos} {e : Expr} {es : List Expr} {t : TA}

theorem run_g {pins : List (Addr × Obj)} {σ : L2.St} {H : Hp} {s : Shared} {Q : VK} {us : List Value} {vs : List V}
    (F : FnG X.prog X.w X.K X.mg X.base cx n f fd ps sp) (g : Free X.A) (hr : Room n X.A)
    (hb : Binds X.K fd ps ds) (hd : Vals dvs ds) (hx : Passes cx X E)
    (I : Inv X pins σ H s) (r : Vals vs us) (h : sp (vs ++ dvs) H Q E) :
    wpAny (model X.prog X.w) X.A (call (.ref f) us) (EP X pins σ Q) X.xe s := by
  have rr : Vals (vs ++ dvs) (us ++ ds) := r.append hd
  have hl : (us ++ ds).length = ps.length := (Paired.length rr).symm.trans (F.len _ _ _ _ h)
  have all := F.run X.A X.stack s H ⟨us, []⟩ (us ++ ds) (vs ++ dvs) Q E g hr I.env0 (hb s us I.kIn hl) rr h
  refine wpAny_call (codeAny_mono all ?_)
  intro o s' z
  cases o with
  | error er => exact hx pins σ H s er s' I z
  | ok fl =>
    cases fl with
    | ret u => exact I.after z
    | _ => exact False.elim z

theorem pe_callG (F : FnG X.prog X.w X.K X.mg X.base cx n f fd ps sp) (g : Free X.A) (hr : Room n X.A)
    (hg : Gl X x) (hm : X.mg x = some (.ref f)) (hk : PySem.W.keepIn X.K (.ref f) = true)
    (hb : Binds X.K fd ps ds) (hd : Vals dvs ds) (hx : Passes cx X E) (ha : PA X (e :: es) t)
    (hdb : (x == ("__debug__" : Str)) = false := by decide)
    (he : starEach (e :: es) X.env = (false, eval e X.env) :: starEach es X.env := by rfl)
    (hpl : (backTo pos (starEach es X.env)).any (·.1) = false := by rfl) :
    PE X (.Call (.Name x p) (e :: es) [] pos) (tCall sp dvs E t) := by
  constructor
  intro pins s σ H Q I h
  refine wpAny_Call_Name_kw (ld_glob I hg hm ?_ hdb)
  have args := ha.run pos pins s σ H _ I h
  refine PySem.W.callWith_K (h₀ := X.base) I.ok.mod.kin hk (thn args ?_) he hpl
  rintro us s1 ⟨vs, H1, J, r, q⟩
  exact ⟨J.kIn, run_g F g hr hb hd hx J r q⟩
end

/-! ### by the body -/
section
variable {P : Program} {w : World} {K : PySem.W.Frag} {mg : Str → Option Value} {base : Heap}
theorem FnG.body {cx : CXT} {n : Nat} {f : Addr} {nm ql : Str} {pr : Arguments} {bd : List Stmt} {sc : Scope}
    {dV kV dc pm cv ct oc : Value} {an od : Option Addr} {sl : Array (Option Value)} {N ps : List Str} {sp : Sp}
    (lk : K.lookup f = some ⟨oc, od, .func (PySem.W.fnOf nm ql pr bd sc dV kV dc pm an cv ct), sl⟩)
    (hc : PySem.W.codeIn K cv ql = true) (S : FnScope N ps sc) (len : ∀ vs H Q E, sp vs H Q E → vs.length = ps.length)
    (hb : ∀ (A : Around) (out : List Env) (s : Shared) (H : Hp) (vs : List V) (Q : VK) (E : XK),
      Free (A.deeper (envOfC ql sc s.heap.objs.size f cv)) → Room n (A.deeper (envOfC ql sc s.heap.objs.size f cv)) →
      sp vs H Q E → ∃ t, PSs (cxOf cx P w K mg base N ql sc f cv A out s H E) bd t ∧
        t { nx := fun _ H' => Q .non H', rt := Q } (start N vs) H) :
    FnG P w K mg base cx (n + 1) f (PySem.W.fnOf nm ql pr bd sc dV kV dc pm an cv ct) ps sp := by
  refine ⟨len, ?_⟩
  intro A out s H args us vs Q E g hr e0 hbd r hsp
  have hl := len _ _ _ _ hsp
  have KX : K.In s.heap := e0.mod.kin.keeps fun b o e => (e0.bs b o e).1
  have lim : s.heap.NoLimit := e0.mod.nolimit.keeps fun b o e => (e0.bs b o e).1
  have kinds : ∀ y ∈ ps.zip us, sc.names.lookup y.1 = some .local ∨
      (sc.names.lookup y.1 = some .cell ∧
        ((cellsFrom (s.heap.objs.size + 1) sc.names []).lookup y.1).isSome = true) := by
    rintro ⟨y, v⟩ hy
    rcases S.par y (List.of_mem_zip hy).1 with q | q
    · left; exact q
    · right; exact ⟨q, PySem.W.cellsFrom_some _ _ _ (.inl q)⟩
  have code := PySem.W.codeRec_of KX hc
  refine codeAny_call_function hr.depth (KX _ _ lk) rfl S.co S.gen rfl code (hbd _ _ _ _ ?_)
  refine wpAny_newFunctionEnv_cells S.kind kinds ?_
  intro env he s1 x
  subst he
  refine ⟨lim.keeps x.toInCall.keep, codeAny_func ?_⟩
  obtain ⟨t, ht, hq⟩ := hb A out s H vs Q E g (hr.deeper _) hsp
  have I := inv_start (CX := cx) (P := P) (w := w) (E := E) S hr.hd e0 hl r x
  refine wpAny_mono (ht.run [] s1 (start N vs) H _ I hq) ?_ fun er s' z => z
  intro fl s' z
  cases fl with
  | ret u =>
    obtain ⟨v, σ', H', J, rv, q⟩ := z
    exact ⟨v, H', J.os, J.bare, J.base, J.hok, rv, q⟩
  | next =>
    obtain ⟨σ', H', J, q⟩ := z
    exact ⟨V.non, H', J.os, J.bare, J.base, J.hok, rfl, q⟩
  | brk =>
    obtain ⟨_, _, _, q⟩ := z
    exact q.elim
  | cont =>
    obtain ⟨_, _, _, q⟩ := z
    exact q.elim

theorem okG {x ql : Str} {st : Stmt} {f : Addr} {fd : FuncData} {N ps : List Str} {n : Nat} {sp : Sp}
    (F : Fun K x ql st f fd) (S : FnScope N ps (defScope st)) (len : ∀ vs H Q E, sp vs H Q E → vs.length = ps.length)
    (hb : ∀ (cv : Value) (A : Around) (out : List Env) (s : Shared) (H : Hp) (vs : List V) (Q : VK) (E : XK),
      Free (A.deeper (envOfC ql (defScope st) s.heap.objs.size f cv)) →
      Room n (A.deeper (envOfC ql (defScope st) s.heap.objs.size f cv)) → sp vs H Q E →
      ∃ t, PSs (cxOf CX0 P w K mg base N ql (defScope st) f cv A out s H E).nox (defBody st) t ∧
        t { nx := fun _ H' => Q .non H', rt := Q } (start N vs) H) :
    FnG P w K mg base CX0 (n + 1) f fd ps sp := by
  obtain ⟨oc, od, kV, dc, pm, an, cv, ct, sl, rfl, lk, hc⟩ := F.ex
  refine FnG.body lk hc S len ?_
  intro A out s H vs Q E g hr hsp
  obtain ⟨t, h, q⟩ := hb cv A out s H vs Q E g hr hsp
  exact ⟨t, h.nox, q⟩
end
end Gd
end

section
set_option Elab.async false
set_option linter.all false
set_option maxRecDepth 100000
set_option maxHeartbeats 4000000
/-! The end of a law's row from a promise of Gd.FnG. -/
namespace Gd
open PySem PySem.Spec PyProof.Rows L2

/-- what is wanted of the law's own call -/
def Yes (s1 : Shared) (r : Result) (s' : Shared) : Prop :=
  r = .ok (.ret (.bool true)) ∧ OldK s1.heap s'.heap ∧ s'.os = s1.os ∧ AllBare s'.gens

section
variable {P : Program} {w : World} {K : PySem.W.Frag} {mg mb : Str → Option Value} {cx : CXT} {n : Nat}
  {fa a : Addr} {fd : FuncData} {x : Str} {sp : Sp} {s1 : Shared} {vs : List Value} {ns : List Int}

theorem begun (H : Hp) (only : Only H) (hS : SqL K H a (ns.map V.int)) (hok : HOk P w H s1.heap)
    (at_a : ∀ b, H b ≠ none → b = a) (noK : H a ≠ none → K.lookup a = none)
    (KX : K.In s1.heap) (hns : s1.heap.Ns mainGlobals mg) (hb : s1.heap.Ns builtinsNs mb)
    (hbb : ∀ y : Str, y ≠ "__name__" → mb y = bootBuiltins y) (hlim : s1.heap.NoLimit) (hg : s1.gens = #[])
    (ha : s1.heap.get? a = some { cls := .type "list", data := .seq vs.toArray }) (hr : Room n callerA)
    (F : ∀ base : Heap, K.In base → base.Ns mainGlobals mg → FnG P w K mg base cx n fa fd [x] sp)
    (hbind : ∀ (s : Shared) (u : Value), BindsTo s fd ⟨[u], []⟩ [(x, u)])
    (hsp : sp [.ref a] H (fun v _ => v = .bl true) fun _ _ _ => False)
    (hCX : ∀ e s', cx [] H s1 (fun _ _ _ => False) e s' → False) :
    codeAny (model P w) callerA (.call (.ref fa) ⟨[.ref a], []⟩) (Yes s1) s1 := by
  -- the base: what isn't tracked
  let B := hidT s1.heap H
  have toB : ∀ {b : Addr} {o : Obj}, s1.heap.get? b = some o → H b = none → B.get? b = some o :=
    fun e z => hidT_get e z
  have notDict : ∀ {b : Addr} {o : Obj} {es : Array DictEntry} {m : Nat},
      s1.heap.get? b = some o → o.data = .dict es m → H b = none := by
    intro b o es m e d
    cases q : H b with
    | none => rfl
    | some u =>
      exfalso
      have eb : b = a := at_a b (by simp [q])
      rw [eb, ha] at e
      cases Option.some.inj e
      cases d
  have nsB : ∀ {b : Addr} {m : Str → Option Value}, s1.heap.Ns b m → B.Ns b m := by
    rintro b m ⟨o, es, ep, e, d, r⟩
    exact ⟨o, es, ep, toB e (notDict e d), d, r⟩
  have inB : K.In B := by
    intro b o e
    refine toB (KX b o e) ?_
    cases q : H b with
    | none => rfl
    | some u =>
      have eb : b = a := at_a b (by simp [q])
      have z := noK (by rw [← eb, q]; simp)
      rw [eb, z] at e
      cases e
  have modB : Mod K mg B := by
    obtain ⟨mc, l1, l2⟩ := hlim
    exact ⟨inB, nsB hns, ⟨mb, nsB hb, hbb⟩, ⟨mc, nsB l1, l2⟩⟩
  have nil : ∀ {b : Addr}, b ∉ ([] : List Addr) := fun z => nomatch z
  have e0 : Env0 P w K mg B callerA [] s1 H :=
    ⟨rfl, modB, fun b o e => of_hidT e, Nat.le_of_eq (hidT_size _ _), trivial, fun b z => (nil z).elim, hok, .of_eq hg⟩
  have got := (F B inB (nsB hns)).run callerA [] s1 H ⟨[.ref a], []⟩ [.ref a] [.ref a] _ _ rfl hr e0
    (hbind s1 (.ref a)) (.cons rfl .nil) hsp
  refine codeAny_mono got ?_
  intro r s' z
  cases r with
  | error er => exact (hCX er s' z).elim
  | ok fl =>
    cases fl with
    | ret u =>
      obtain ⟨v, H', os, bare, un, hok', rv, q⟩ := z
      obtain rfl : v = .bl true := q
      obtain rfl : u = Value.bool true := rv
      refine ⟨rfl, OldK.of_keep ?_, os, bare⟩
      intro b o e
      cases q : H b with
      | none => exact un.keep b o e q (fun z => (nil z).elim) (fun z => (nil z).elim)
      | some u =>
        rcases only b with z | ⟨ob, xs, z⟩
        · exact nomatch q.symm.trans z
        · obtain ⟨g1, _⟩ := hok b _ z
          obtain ⟨g2, _⟩ := hok' b _ (un.frzs b ob _ z)
          exact g2.trans (g1.symm.trans e)
    | _ => exact False.elim z

theorem law_callG (KX : K.In s1.heap) (hns : s1.heap.Ns mainGlobals mg) (hb : s1.heap.Ns builtinsNs mb)
    (hbb : ∀ y : Str, y ≠ "__name__" → mb y = bootBuiltins y) (hlim : s1.heap.NoLimit) (hg : s1.gens = #[])
    (ha : s1.heap.get? a = some { cls := .type "list", data := .seq vs.toArray }) (hi : IntsAre vs ns)
    (hl : ns.length ≤ sizeLine) (hr : Room n callerA)
    (F : ∀ base : Heap, K.In base → base.Ns mainGlobals mg → FnG P w K mg base cx n fa fd [x] sp)
    (hbind : ∀ (s : Shared) (u : Value), BindsTo s fd ⟨[u], []⟩ [(x, u)])
    (hsp : ∀ H : Hp, Only H → SqL K H a (ns.map V.int) → sp [.ref a] H (fun v _ => v = .bl true) fun _ _ _ => False)
    (hCX : ∀ H e s', cx [] H s1 (fun _ _ _ => False) e s' → False) :
    codeAny (model P w) callerA (.call (.ref fa) ⟨[.ref a], []⟩) (Yes s1) s1 := by
  have rv := vals_ints hi
  have hz : vs.toArray.size ≤ sizeLine := by
    rw [List.size_toArray, hi.length]
    exact hl
  cases hk : K.lookup a with
  | some o =>
    have e : some o = some _ := (KX a o hk).symm.trans ha
    cases e
    have here : SqL K (fun _ => none) a (ns.map V.int) := .inr ⟨_, vs.toArray, _, hk, rfl, rfl, rfl, hz, by simpa using rv⟩
    have only : Only (fun _ => none) := fun _ => .inl rfl
    exact begun (fun _ => none) only here (fun b u z => nomatch z) (fun b z => absurd rfl z) (fun z => absurd rfl z)
      KX hns hb hbb hlim hg ha hr F hbind (hsp _ only here) (hCX _)
  | none =>
    let H : Hp := fun b => if b = a then some (.frz { cls := .type "list", data := .seq vs.toArray } (.lst (ns.map V.int))) else none
    have Ha : H a = some (.frz { cls := .type "list", data := .seq vs.toArray } (.lst (ns.map V.int))) := if_pos rfl
    have Hn : ∀ {b : Addr}, b ≠ a → H b = none := fun z => if_neg z
    have only : Only H := by
      intro b
      by_cases eb : b = a
      · right
        subst eb
        exact ⟨_, _, Ha⟩
      · left
        exact Hn eb
    have here : SqL K H a (ns.map V.int) := .inl (.inr ⟨_, Ha⟩)
    refine begun H only here ?_ ?_ (fun _ => hk) KX hns hb hbb hlim hg ha hr F hbind (hsp _ only here) (hCX _)
    · intro b u z
      by_cases eb : b = a
      · subst eb
        rw [Ha] at z
        cases z
        exact ⟨ha, by rw [List.length_map]; exact hl, vs, _, rv, ha⟩
      · rw [Hn eb] at z
        cases z
    · intro b z
      by_cases eb : b = a
      · exact eb
      · exact absurd (Hn eb) z
end

theorem walkG {l : PySem.W.OpenLaw} {m n : Nat} {q : Program} {loose : List Str} {XP : (Str → Option Value) → Heap → Prop}
    {YP : World → Heap → Prop} {d : DefRec} {K : Params → PySem.W.Frag} {sp : PySem.W.Frag → Sp} {x : Str}
    (hn : l.most = some m) (hm : m ≤ sizeLine) (hdf : d.params.defaults = []) (hr : Room n callerA)
    (hY : ∀ (w : World) (h : Heap), YP w h → (K w.params).In h)
    (F : ∀ (w : World) (mg : Str → Option Value) (fa : Addr) (h : Heap), (K w.params).In h → h.Ns mainGlobals mg →
      mg d.name = some (.ref fa) → ∃ fd : FuncData, (∀ (s : Shared) (u : Value), BindsTo s fd ⟨[u], []⟩ [(x, u)]) ∧
        ∀ base : Heap, (K w.params).In base → base.Ns mainGlobals mg →
          FnG l.prog w (K w.params) mg base CX0 n fa fd [x] (sp (K w.params)))
    (hsp : ∀ (K : PySem.W.Frag) (H : Hp) (a : Addr) (ns : List Int), ns.length ≤ m →
      (∀ z ∈ ns, Builtin.Int.intBits z ≤ 1048576) → Only H → SqL K H a (ns.map V.int) →
      sp K [.ref a] H (fun v _ => v = .bl true) fun _ _ _ => False) :
    PySem.W.WalkO q loose XP YP l.row.toRowW d [] (fun f vs => PySem.call f vs) := by
  refine Att.attach_callB hn hdf ?_
  intro w s0 s1 mg mb fa o pm cd dc a vs ns G Y ho hd hcd hmg hobj hints hlen hbits hg
  have KX := hY w _ Y
  obtain ⟨fd, hb, hF⟩ := F w mg fa _ KX G.T.g hmg
  exact law_callG KX G.T.g G.T.b G.T.builtins G.T.nolimit hg hobj hints (Nat.le_trans hlen hm) hr hF hb
    (fun H only hS => hsp _ H a ns hlen hbits only hS) fun H e s' z => z.elim
end Gd
end

section
set_option Elab.async false
set_option linter.all false
set_option maxRecDepth 100000
set_option maxHeartbeats 4000000
/-! What the laws draw from: a list of three numbers, of which each draw takes one more. -/
namespace Gd
open PySem PySem.Spec PyProof.Rows L2

/-- at p: what is left of a great number, the seed, how many were drawn, at most S -/
def Feed (H : Hp) (p : Addr) (S : Int) : Prop := ∃ g x s : Int, H p = some (.lst [.int g, .int x, .int s]) ∧ 0 ≤ s ∧ s ≤ S
theorem Feed.le {H : Hp} {p : Addr} {S T : Int} (h : Feed H p S) (l : S ≤ T) : Feed H p T := by
  obtain ⟨g, x, s, e, a, b⟩ := h
  exact ⟨g, x, s, e, a, by omega⟩
theorem Feed.here {H : Hp} {p : Addr} {S g x s : Int} (h0 : 0 ≤ s) (h : s ≤ S) : Feed (upd H p (.lst [.int g, .int x, .int s])) p S :=
  ⟨g, x, s, upd_same, h0, h⟩
theorem Feed.stays {H : Hp} {p q : Addr} {S : Int} {o : HO} (h : Feed H p S) (n : H q = none) : Feed (upd H q o) p S := by
  obtain ⟨g, x, s, e, a, b⟩ := h
  refine ⟨g, x, s, ?_, a, b⟩
  rw [upd_ne (ne_of_none e n)]
  exact e
/-- all is as it was, but at p -/
def Ex1 (p : Addr) (H H' : Hp) : Prop := ∀ a o, a ≠ p → H a = some o → H' a = some o
theorem Ex1.refl (p : Addr) (H : Hp) : Ex1 p H H := fun _ _ _ h => h
theorem Ex1.trans {p : Addr} {H H1 H2 : Hp} (a : Ex1 p H H1) (b : Ex1 p H1 H2) : Ex1 p H H2 := fun x o n h => b x o n (a x o n h)
theorem Ex1.at {p : Addr} {H : Hp} {o : HO} : Ex1 p H (upd H p o) := fun a u n e => by
  rw [upd_ne n]
  exact e
theorem Ex1.new {p q : Addr} {H : Hp} {o : HO} (n : H q = none) : Ex1 p H (upd H q o) := fun a u _ e => by
  rw [upd_ne (ne_of_none e n)]
  exact e

theorem Feed.lst {H : Hp} {p : Addr} {S : Int} (h : Feed H p S) : ∃ xs, H p = some (.lst xs) := by
  obtain ⟨g, x, s, e, _⟩ := h
  exact ⟨_, e⟩
theorem Feed.ne {H : Hp} {p q : Addr} {S : Int} (h : Feed H p S) (n : H q = none) : q ≠ p := fun z => by
  obtain ⟨xs, e⟩ := h.lst
  rw [z, e] at n
  cases n
def spTake : Sp := fun vs H Q _ => ∃ (p : Addr) (m S : Int), vs = [.ref p, .int m] ∧ Feed H p S ∧ 0 < m ∧ m < 1073741824 ∧
  S ≤ 1000000000 ∧ ∀ (r : Int) (H' : Hp), 0 ≤ r → r < m → Feed H' p (S + 1) → Ex1 p H H' → Q (.int r) H'

theorem fmod_in (a : Int) {b : Int} (h : 0 < b) : 0 ≤ a.fmod b ∧ a.fmod b < b :=
  ⟨Int.fmod_nonneg_of_pos a h, Int.fmod_lt_of_pos a h⟩
end Gd
end

section
set_option Elab.async false
set_option linter.all false
set_option maxRecDepth 100000
set_option maxHeartbeats 4000000
/-! Data: numbers, texts, truths, None, tuples of such. -/
namespace Gd
open PySem PySem.Spec PyProof.Rows L2

mutual
def tupOnly : PyData → Bool
  | .none => true
  | .bool _ => true
  | .int _ => true
  | .str _ => true
  | .tuple ds => decide (ds.length ≤ 1000) && tupOnlyAll ds
  | .list _ => false
  | .dict _ => false
def tupOnlyAll : List PyData → Bool
  | [] => true
  | d :: ds => tupOnly d && tupOnlyAll ds
end

/-- tuples stay -/
def Tups (K : PySem.W.Frag) (H H' : Hp) : Prop := ∀ a xs, SqT K H a xs → SqT K H' a xs
theorem Tups.refl {K : PySem.W.Frag} {H : Hp} : Tups K H H := fun _ _ h => h
theorem Tups.trans {K : PySem.W.Frag} {H H1 H2 : Hp} (a : Tups K H H1) (b : Tups K H1 H2) : Tups K H H2 := fun x y h => b x y (a x y h)
theorem Tups.upd_lst {K : PySem.W.Frag} {H : Hp} {D : Addr} {xs ys : List V} (e : H D = some (.lst xs)) : Tups K H (upd H D (.lst ys)) := by
  intro a zs h
  rcases h with (h | ⟨o, h⟩) | h
  · refine .inl (.inl ?_)
    rw [upd_ne (fun z => by rw [z, e] at h; cases h)]
    exact h
  · refine .inl (.inr ⟨o, ?_⟩)
    rw [upd_ne (fun z => by rw [z, e] at h; cases h)]
    exact h
  · exact .inr h
theorem Tups.of_same {K : PySem.W.Frag} {H H' : Hp} (s : Same H H') : Tups K H H' := by
  intro a zs h
  rcases h with (h | ⟨o, h⟩) | h
  · exact .inl (.inl (s _ _ h))
  · exact .inl (.inr ⟨o, s _ _ h⟩)
  · exact .inr h

theorem Tups.new {K : PySem.W.Frag} {H : Hp} {q : Addr} {o : HO} (n : H q = none) : Tups K H (upd H q o) :=
  .of_same fun b u e => by
    rw [upd_ne (ne_of_none e n)]
    exact e
theorem Ex1.tups {K : PySem.W.Frag} {H H' : Hp} {p : Addr} {xs : List V} (x : Ex1 p H H') (e : H p = some (.lst xs)) : Tups K H H' := by
  intro a zs h
  rcases h with (h | ⟨o, h⟩) | h
  · exact .inl (.inl (x _ _ (fun z => by rw [z, e] at h; cases h) h))
  · exact .inl (.inr ⟨o, x _ _ (fun z => by rw [z, e] at h; cases h) h⟩)
  · exact .inr h
section
variable {K : PySem.W.Frag} {H H' : Hp}
mutual
theorem Dp.tups (t : Tups K H H') : ∀ (d : PyData) {v : V}, tupOnly d = true → Dp K H v d → Dp K H' v d
  | .none, _, _, h => by cases h; exact .non
  | .bool _, _, _, h => by cases h; exact .bl _
  | .int _, _, _, h => by cases h; exact .int _
  | .str _, _, _, h => by cases h; exact .str _
  | .tuple ds, _, o, h => by
    cases h with
    | tup a b =>
      simp only [tupOnly, Bool.and_eq_true] at o
      exact .tup (t _ _ a) (DpAll.tups t ds o.2 b)
  | .list _, _, o, _ => by simp [tupOnly] at o
  | .dict _, _, _, h => by cases h
theorem DpAll.tups (t : Tups K H H') : ∀ (ds : List PyData) {vs : List V}, tupOnlyAll ds = true → DpAll K H vs ds → DpAll K H' vs ds
  | [], _, _, h => by cases h; exact .nil
  | d :: ds, _, o, h => by
    simp only [tupOnlyAll, Bool.and_eq_true] at o
    cases h with
    | cons a b => exact .cons (Dp.tups t d o.1 a) (DpAll.tups t ds o.2 b)
end
mutual
theorem Dp.same (s : Same H H') : ∀ (d : PyData) {v : V}, Dp K H v d → Dp K H' v d
  | .none, _, h => by cases h; exact .non
  | .bool _, _, h => by cases h; exact .bl _
  | .int _, _, h => by cases h; exact .int _
  | .str _, _, h => by cases h; exact .str _
  | .tuple ds, _, h => by
    cases h with
    | tup a b => exact .tup (Tups.of_same s _ _ a) (DpAll.same s ds b)
  | .list ds, _, h => by
    cases h with
    | lst a b => exact .lst (s.seq a) (DpAll.same s ds b)
  | .dict _, _, h => by cases h
theorem DpAll.same (s : Same H H') : ∀ (ds : List PyData) {vs : List V}, DpAll K H vs ds → DpAll K H' vs ds
  | [], _, h => by cases h; exact .nil
  | d :: ds, _, h => by
    cases h with
    | cons a b => exact .cons (Dp.same s d a) (DpAll.same s ds b)
end
theorem DpAll.len : ∀ {vs : List V} {ds : List PyData}, DpAll K H vs ds → vs.length = ds.length
  | _, _, .nil => rfl
  | _, _, .cons _ b => congrArg (· + 1) (DpAll.len b)
theorem DpAll.at_ : ∀ {vs : List V} {ds : List PyData} {i : Nat} {v : V}, DpAll K H vs ds → vs[i]? = some v → ∃ d, ds[i]? = some d ∧ Dp K H v d
  | _, _, _, _, .nil, e => by simp at e
  | _, _, 0, _, .cons a _, e => by
    cases Option.some.inj e
    exact ⟨_, rfl, a⟩
  | _, _, i + 1, _, .cons _ b, e => DpAll.at_ (i := i) b e
theorem DpAll.snoc : ∀ {vs : List V} {ds : List PyData} {v : V} {d : PyData}, DpAll K H vs ds → Dp K H v d → DpAll K H (vs ++ [v]) (ds ++ [d])
  | _, _, _, _, .nil, h => .cons h .nil
  | _, _, _, _, .cons a b, h => .cons a (DpAll.snoc b h)
theorem tupOnlyAll_at : ∀ {ds : List PyData} {i : Nat} {d : PyData}, tupOnlyAll ds = true → ds[i]? = some d → tupOnly d = true
  | [], _, _, _, e => by simp at e
  | x :: r, 0, d, o, e => by
    simp only [tupOnlyAll, Bool.and_eq_true] at o
    cases Option.some.inj e
    exact o.1
  | x :: r, i + 1, d, o, e => by
    simp only [tupOnlyAll, Bool.and_eq_true] at o
    exact tupOnlyAll_at (i := i) o.2 e
theorem tupOnlyAll_take : ∀ {ds : List PyData}, tupOnlyAll ds = true → ∀ i : Nat, tupOnlyAll (ds.take i) = true
  | [], _, i => by rw [List.take_nil] <;> rfl
  | x :: r, o, 0 => rfl
  | x :: r, o, i + 1 => by
    simp only [tupOnlyAll, Bool.and_eq_true] at o
    simp only [List.take_succ_cons, tupOnlyAll, Bool.and_eq_true]
    exact ⟨o.1, tupOnlyAll_take o.2 i⟩
theorem depth_at : ∀ {ds : List PyData} {i : Nat} {d : PyData}, ds[i]? = some d → d.depth ≤ PyData.depthAll ds
  | [], _, _, e => by simp at e
  | x :: r, 0, d, e => by
    cases Option.some.inj e
    simp only [PyData.depthAll]
    omega
  | x :: r, i + 1, d, e => by
    have h := depth_at (ds := r) (i := i) e
    simp only [PyData.depthAll]
    omega
end

/-- the built-in class of data -/
def kindN : PyData → String
  | .none => "NoneType"
  | .bool _ => "bool"
  | .int _ => "int"
  | .str _ => "str"
  | .list _ => "list"
  | .tuple _ => "tuple"
  | .dict _ => "dict"
theorem Dp.kind {K : PySem.W.Frag} {H : Hp} {v : V} {d : PyData} (h : Dp K H v d) (o : tupOnly d = true) : TyX K H v (.type (kindN d)) := by
  cases h with
  | non => exact .base .non
  | bl b => exact .base (.bl b)
  | int i => exact .base (.int i)
  | str x => exact .base (.str x)
  | lst _ _ => simp [tupOnly] at o
  | tup a _ =>
    rcases a with (a | ⟨z, a⟩) | ⟨z, its, n, a, c, _⟩
    · exact .base (.tup a)
    · exact .fTuple a
    · exact .kTuple a c
section
theorem kb0 : kitB "NoneType" "list" = some false ∧ kitB "NoneType" "tuple" = some false ∧ kitB "NoneType" "dict" = some false := by decide +kernel
theorem kb1 : kitB "bool" "list" = some false ∧ kitB "bool" "tuple" = some false ∧ kitB "bool" "dict" = some false := by decide +kernel
theorem kb2 : kitB "int" "list" = some false ∧ kitB "int" "tuple" = some false ∧ kitB "int" "dict" = some false := by decide +kernel
theorem kb3 : kitB "str" "list" = some false ∧ kitB "str" "tuple" = some false ∧ kitB "str" "dict" = some false := by decide +kernel
theorem kb4 : kitB "tuple" "list" = some false ∧ kitB "tuple" "tuple" = some true ∧ kitB "tuple" "dict" = some false := by decide +kernel
theorem kind_list {d : PyData} (o : tupOnly d = true) : kitB (kindN d) "list" = some false := by
  cases d with
  | none => exact kb0.1
  | bool b => exact kb1.1
  | int i => exact kb2.1
  | str x => exact kb3.1
  | tuple ds => exact kb4.1
  | list ds => simp [tupOnly] at o
  | dict ds => simp [tupOnly] at o
theorem kind_dict {d : PyData} (o : tupOnly d = true) : kitB (kindN d) "dict" = some false := by
  cases d with
  | none => exact kb0.2.2
  | bool b => exact kb1.2.2
  | int i => exact kb2.2.2
  | str x => exact kb3.2.2
  | tuple ds => exact kb4.2.2
  | list ds => simp [tupOnly] at o
  | dict ds => simp [tupOnly] at o
theorem kind_tuple {d : PyData} (o : tupOnly d = true) (n : ¬ ∃ ds, d = .tuple ds) : kitB (kindN d) "tuple" = some false := by
  cases d with
  | none => exact kb0.2.1
  | bool b => exact kb1.2.1
  | int i => exact kb2.2.1
  | str x => exact kb3.2.1
  | tuple ds => exact absurd ⟨ds, rfl⟩ n
  | list ds => simp [tupOnly] at o
  | dict ds => simp [tupOnly] at o
end
end Gd
end

section
set_option Elab.async false
set_option linter.all false
set_option maxRecDepth 100000
set_option maxHeartbeats 4000000
/-! repr of data, the reading of a promise that is free of texts under way. -/
namespace Gd
open PySem PySem.Spec PyProof.Rows L2

section
variable {K : PySem.W.Frag} {H : Hp}
mutual
theorem Dp.plain : ∀ (d : PyData) {v : V}, Dp K H v d → d.hasDict = false
  | .none, _, _ => by simp only [PyData.hasDict]
  | .bool _, _, _ => by simp only [PyData.hasDict]
  | .int _, _, _ => by simp only [PyData.hasDict]
  | .str _, _, _ => by simp only [PyData.hasDict]
  | .list ds, _, h => by
    cases h with
    | lst _ k =>
      simp only [PyData.hasDict]
      exact DpAll.plain ds k
  | .tuple ds, _, h => by
    cases h with
    | tup _ k =>
      simp only [PyData.hasDict]
      exact DpAll.plain ds k
  | .dict _, _, h => by cases h
theorem DpAll.plain : ∀ (ds : List PyData) {vs : List V}, DpAll K H vs ds → PyData.hasDictAll ds = false
  | [], _, _ => by simp only [PyData.hasDictAll]
  | d :: ds, _, h => by
    cases h with
    | cons a b =>
      simp only [PyData.hasDictAll, Dp.plain d a, DpAll.plain ds b, Bool.or_self]
end
end

/-- repr(x), x data -/
def rRepr (K : PySem.W.Frag) : List V → Hp → VK → Prop := fun xs H Q =>
  ∃ (x : V) (d : PyData), xs = [x] ∧ Dp K H x d ∧ d.showable = true ∧ d.shown.length ≤ sizeLine ∧ d.depth ≤ 60 ∧ Q (.str d.shown) H

section
variable {X : Cx}
theorem call_repr (g : Free X.A) (hu : X.A.units + 64 < cLine) : CallR X (.builtin "repr") (rRepr X.K) := by
  intro pins s σ H xs us Q I r h
  obtain ⟨x, d, rfl, hd, hs, hz, hdp, q⟩ := h
  obtain ⟨u, rfl, ru⟩ := r.one
  have pl := Dp.plain d hd
  obtain ⟨as, rd⟩ := Dp.reads I d x u hd ru
  have fin : ∀ (h' : Heap) (tk tk' : Nat), (∀ b o, s.heap.get? b = some o → h'.get? b = some o) →
      EP X pins σ Q (.str d.shown tk) { s with heap := h', toks := tk' } :=
    fun h' tk tk' k => ⟨.str d.shown, H, I.kept k, ⟨tk, rfl⟩, q⟩
  have fin0 : ∀ (tk tk' : Nat), EP X pins σ Q (.str d.shown tk) { s with toks := tk' } :=
    fun tk tk' => ⟨.str d.shown, H, I.tok tk', ⟨tk, rfl⟩, q⟩
  cases rd with
  | none => exact P.repr_of_none (fin0 _ _)
  | bool b => exact P.repr_of_bool (fin0 _ _)
  | int i t => exact P.repr_of_int (by simpa [PyData.showable] using hs) (fin0 _ _)
  | str z t => exact P.repr_of_str (fin0 _ _) hz
  | list h1 h2 h3 h4 =>
    exact repr_of_reads' (.list h1 h2 h3 h4) hs (PyData.noDict_hsm pl) g (by omega) (fun _ _ e => e) (fun h' u tk k => fin h' u tk k) hz
  | tuple h1 h2 h3 h4 =>
    exact repr_of_reads' (.tuple h1 h2 h3 h4) hs (PyData.noDict_hsm pl) g (by omega) (fun _ _ e => e) (fun h' u tk k => fin h' u tk k) hz
  | dict h1 h2 h3 h4 h5 => simp [PyData.hasDict] at pl
end
end Gd
end

section
set_option Elab.async false
set_option linter.all false
set_option maxRecDepth 100000
set_option maxHeartbeats 4000000
/-! Lists of ints and slabs in the heap; what they show. -/
namespace Gd
open PySem PySem.Spec PyProof.Rows L2
theorem int_shown {i : Int} (h : i.natAbs ≤ 10 ^ 40) : (PyData.int i).shown.length ≤ 100 ∧ i.natAbs.log2 < 1920 ∧ (PyData.int i).weight ≤ 200 := by
  have h1 : i.natAbs < 10 ^ 41 := Nat.lt_of_le_of_lt h (by decide)
  have hl : i.natAbs.log2 < 190 := by
    by_cases z : i.natAbs = 0
    · rw [z]; decide
    · exact (Nat.log2_lt z).mpr (Nat.lt_of_lt_of_le h1 (by decide +kernel))
  refine ⟨?_, by omega, ?_⟩
  · have e := int_text_length_le10 (k := 41) (by decide) h1
    have e2 : (PyData.int i).shown.length = (toString i).length := by
      show (Str.ofString (toString i)).length = _
      rw [PySem.ofString_length]
    omega
  · simp only [PyData.weight]
    split <;> omega
theorem ints_leaves : ∀ {ns : List Int}, (∀ i ∈ ns, i.natAbs ≤ 10 ^ 40) → PyData.leavesShortAll 100 (ns.map .int) = true ∧ PyData.showableAll (ns.map .int) = true ∧ PyData.weightAll (ns.map .int) ≤ 201 * ns.length ∧ PyData.depthAll (ns.map .int) = 0
  | [], _ => ⟨rfl, rfl, Nat.zero_le _, rfl⟩
  | i :: ns, h => by
    obtain ⟨a, b, c, d⟩ := ints_leaves (ns := ns) fun j hj => h j (by simp [hj])
    obtain ⟨e1, e2, e3⟩ := int_shown (h i (by simp))
    refine ⟨?_, ?_, ?_, ?_⟩
    · simp only [List.map_cons, PyData.leavesShortAll, a, Bool.and_true, PyData.leavesShort, decide_eq_true_eq]
      exact e1
    · simp only [List.map_cons, PyData.showableAll, b, Bool.and_true, PyData.showable, decide_eq_true_eq]
      exact e2
    · simp only [List.map_cons, PyData.weightAll, List.length_cons]
      omega
    · simp only [List.map_cons, PyData.depthAll, d, PyData.depth]
      omega
/-- repr of a list of ints is served -/
theorem ints_shown {ns : List Int} (h : ∀ i ∈ ns, i.natAbs ≤ 10 ^ 40) (hl : ns.length ≤ 700) :
    (PyData.list (ns.map .int)).showable = true ∧ (PyData.list (ns.map .int)).shown.length ≤ sizeLine ∧ (PyData.list (ns.map .int)).depth ≤ 60 := by
  obtain ⟨a, b, c, d⟩ := ints_leaves h
  have hs := PyData.shown_le 100 (by decide) (.list (ns.map .int)) (by simpa only [PyData.leavesShort] using a)
  have hw : (PyData.list (ns.map .int)).weight ≤ 201 * ns.length + 1 := by
    simp only [PyData.weight]
    omega
  have z : sizeLine = 16777216 := rfl
  refine ⟨by simpa only [PyData.showable] using b, by omega, ?_⟩
  simp only [PyData.depth, d]
  omega
theorem one_shown {i : Int} (h : i.natAbs ≤ 10 ^ 40) : (PyData.int i).showable = true ∧ (PyData.int i).shown.length ≤ sizeLine ∧ (PyData.int i).depth ≤ 60 := by
  obtain ⟨e1, e2, e3⟩ := int_shown h
  have z : sizeLine = 16777216 := rfl
  refine ⟨by simpa [PyData.showable] using e2, by omega, by simp only [PyData.depth]; omega⟩
theorem ints_dp {K : PySem.W.Frag} {H : Hp} : ∀ ns : List Int, DpAll K H (ns.map V.int) (ns.map .int)
  | [] => .nil
  | i :: ns => .cons (.int i) (ints_dp ns)
theorem list_dp {K : PySem.W.Frag} {H : Hp} {a : Addr} {ns : List Int} (h : SqL K H a (ns.map V.int)) : Dp K H (.ref a) (.list (ns.map .int)) := .lst h (ints_dp ns)

/-! what stays -/
theorem new_same {H : Hp} {q : Addr} {o : HO} (n : H q = none) : Same H (upd H q o) := fun b u e => by
  rw [upd_ne (ne_of_none e n)]
  exact e
/-- a new object may change -/
theorem own_same {H H' : Hp} {q : Addr} {o : HO} (n : H q = none) (s : Same H H') : Same H (upd H' q o) := fun b u e => by
  rw [upd_ne (ne_of_none e n)]
  exact s b u e
theorem same_tup {K : PySem.W.Frag} {H H' : Hp} (s : Same H H') {a : Addr} {xs : List V} (h : SqT K H a xs) : SqT K H' a xs := by
  rcases h with (h | ⟨o, h⟩) | h
  · exact .inl (.inl (s _ _ h))
  · exact .inl (.inr ⟨o, s _ _ h⟩)
  · exact .inr h
/-- slabs at a: a list of pairs -/
def SlabsAt (K : PySem.W.Frag) (H : Hp) (a : Addr) (ss : List (Nat × Int)) : Prop :=
  ∃ bs : List Addr, SqL K H a (bs.map V.ref) ∧ bs.length = ss.length ∧ ∀ (i : Nat) (b : Addr) (s : Nat × Int), bs[i]? = some b → ss[i]? = some s → SqT K H b [.int (s.1 : Nat), .int s.2]
theorem SlabsAt.same {K : PySem.W.Frag} {H H' : Hp} {a : Addr} {ss : List (Nat × Int)} (h : SlabsAt K H a ss) (s : Same H H') : SlabsAt K H' a ss := by
  obtain ⟨bs, h1, h2, h3⟩ := h
  exact ⟨bs, s.seq h1, h2, fun i b t e1 e2 => same_tup s (h3 i b t e1 e2)⟩
theorem map_at {α : Type} {f : α → V} {xs : List α} {i : Nat} {v : V} (h : (xs.map f)[i]? = some v) : ∃ x, xs[i]? = some x ∧ v = f x := by
  rw [List.getElem?_map] at h
  cases e : xs[i]? with
  | none => rw [e] at h; cases h
  | some x => rw [e] at h; exact ⟨x, rfl, (Option.some.inj h).symm⟩
theorem at_of {α : Type} {xs : List α} {i n : Nat} (hl : xs.length = n) (h : i < n) : ∃ x, xs[i]? = some x := ⟨xs[i]'(by omega), List.getElem?_eq_getElem (by omega)⟩
theorem at_lt {α : Type} {xs : List α} {i : Nat} {x : α} (h : xs[i]? = some x) : i < xs.length := (List.getElem?_eq_some_iff.mp h).1
theorem getD_at {l : List Int} {i : Nat} (h : i < l.length) : l[i]? = some (l.getD i 0) := by
  rw [List.getD_eq_getElem?_getD, List.getElem?_eq_getElem h] <;> rfl
theorem ints_at {l : List Int} {i : Nat} (h : i < l.length) : (l.map V.int)[i]? = some (.int (l.getD i 0)) := by
  rw [List.getElem?_map, getD_at h] <;> rfl
theorem ints_atI {l : List Int} {i : Nat} (h : i < l.length) : atI (l.map V.int) ((i : Nat) : Int) = some (.int (l.getD i 0)) := atI_nat (ints_at h)
theorem take_at {α : Type} {xs : List α} {i : Nat} {x : α} (h : xs[i]? = some x) : xs.take (i + 1) = xs.take i ++ [x] := by
  rw [List.take_add_one, h] <;> rfl
theorem map_set {l : List Int} {i : Nat} {v : Int} : (l.map V.int).set i (.int v) = (l.set i v).map V.int := by
  rw [List.map_set]
section
variable {X : Cx}
/-- l[j], j from nought on, in l[j] op= x -/
def rGetL (K : PySem.W.Frag) : V → V → Hp → VK → Prop := fun o i H Q => ∃ (p : Addr) (xs : List V) (j : Nat) (v : V), o = .ref p ∧ i = .int (j : Nat) ∧ SqL K H p xs ∧ xs[j]? = some v ∧ Q v H
theorem get_list : PGet X (rGetL X.K) := by
  intro pins s σ H o i ov iv Q I r1 r2 h
  obtain ⟨p, xs, j, v, rfl, rfl, hq, he, q⟩ := h
  cases r1
  obtain ⟨t, rfl⟩ := r2
  obtain ⟨its, r, pl, hz⟩ := I.list hq
  obtain ⟨u, eu, ru⟩ := r.get he
  have hl := r.length
  have lt := at_lt he
  have zz : sizeLine = 16777216 := rfl
  have hi := at_lt eu
  refine wpAny_getItem_list pl.isList (by omega) (by omega) ?_ ⟨v, H, I, ru, q⟩
  simpa using eu
end
theorem ixN_nat {n j : Nat} (h : j < n) : ixN n (j : Int) = some j := by
  unfold ixN
  rw [if_pos (by omega), if_pos (by omega)] <;> simp
end Gd
end

section
set_option Elab.async false
set_option linter.all false
set_option maxRecDepth 100000
set_option maxHeartbeats 4000000
namespace Gd
open PySem PySem.Spec PyProof.Rows L2
section
variable {X : Cx}
/-- a list beside [] -/
def rL0 (K : PySem.W.Frag) (neg : Bool) : R2 := fun x y H Q => ∃ a b xs, x = .ref a ∧ y = .ref b ∧ SqL K H a xs ∧ SqL K H b [] ∧ Q (.bl (if neg then !xs.isEmpty else xs.isEmpty)) H
theorem op_eqL0 (hu : X.A.units < cLine) : OpR X (compareOp .Eq) (rL0 X.K false) := by
  intro pins s σ H x y v u Q I rx ry h
  obtain ⟨a, b, xs, rfl, rfl, ha, hb, q⟩ := h
  cases rx
  cases ry
  obtain ⟨its, r, pl, _⟩ := I.list ha
  obtain ⟨its2, r2, pl2, _⟩ := I.list hb
  cases r2
  cases r with
  | nil => exact SeqAt.RcAt.lists (e := fun _ => true) pl.isList pl2.isList rfl hu (fun j h1 _ => absurd h1 (by simp)) _ _ _ _ ⟨.bl _, H, I, rfl, q⟩
  | cons _ _ => exact SeqAt.RcAt.lists_lengths pl.isList pl2.isList (by simp) hu _ _ _ _ ⟨.bl _, H, I, rfl, q⟩
theorem op_neL0 (hu : X.A.units < cLine) : OpR X (compareOp .NotEq) (rL0 X.K true) := by
  intro pins s σ H x y v u Q I rx ry h
  obtain ⟨a, b, xs, rfl, rfl, ha, hb, q⟩ := h
  cases rx
  cases ry
  obtain ⟨its, r, pl, _⟩ := I.list ha
  obtain ⟨its2, r2, pl2, _⟩ := I.list hb
  cases r2
  cases r with
  | nil => exact SeqAt.RcNeAt.lists (e := fun _ => true) pl.isList pl2.isList rfl hu (fun j h1 _ => absurd h1 (by simp)) _ _ _ _ ⟨.bl _, H, I, rfl, q⟩
  | cons _ _ => exact SeqAt.RcNeAt.lists_lengths pl.isList pl2.isList (by simp) hu _ _ _ _ ⟨.bl _, H, I, rfl, q⟩
end
/-! what stays through draws -/
theorem ex1_of_same {p : Addr} {H H' : Hp} (s : Same H H') : Ex1 p H H' := fun b u _ e => s b u e
theorem ex1_own {p q : Addr} {H H' : Hp} {o : HO} (n : H q = none) (x : Ex1 p H H') : Ex1 p H (upd H' q o) := fun b u nb e => by
  rw [upd_ne (ne_of_none e n)]
  exact x b u nb e
theorem Feed.off {H : Hp} {p q : Addr} {S : Int} {o : HO} (F : Feed H p S) (n : q ≠ p) : Feed (upd H q o) p S := by
  obtain ⟨g, x, s, e, a, b⟩ := F
  exact ⟨g, x, s, by rw [upd_ne n.symm]; exact e, a, b⟩
theorem Feed.kept {H H' : Hp} {p : Addr} {S : Int} (F : Feed H p S) (s : Same H H') : Feed H' p S := by
  obtain ⟨g, x, z, ep, a, b⟩ := F
  exact ⟨g, x, z, s _ _ ep, a, b⟩
theorem Feed.not {H : Hp} {p q : Addr} {S : Int} (F : Feed H p S) (n : H q = none) : q ≠ p := F.ne n
theorem ex1_tup {K : PySem.W.Frag} {H H' : Hp} {p a : Addr} {S : Int} {xs : List V} (F : Feed H p S) (x : Ex1 p H H') (h : SqT K H a xs) : SqT K H' a xs := by
  obtain ⟨ys, ep⟩ := F.lst
  rcases h with (h | ⟨o, h⟩) | h
  · exact .inl (.inl (x _ _ (fun z => by rw [z, ep] at h; cases h) h))
  · exact .inl (.inr ⟨o, x _ _ (fun z => by rw [z, ep] at h; cases h) h⟩)
  · exact .inr h
theorem ex1_seq {K : PySem.W.Frag} {H H' : Hp} {p a : Addr} {xs : List V} (n : a ≠ p) (x : Ex1 p H H') (h : SqL K H a xs) : SqL K H' a xs := by
  rcases h with (h | ⟨o, h⟩) | h
  · exact .inl (.inl (x _ _ n h))
  · exact .inl (.inr ⟨o, x _ _ n h⟩)
  · exact .inr h
theorem SlabsAt.drawn {K : PySem.W.Frag} {H H' : Hp} {p a : Addr} {S : Int} {ss : List (Nat × Int)} (h : SlabsAt K H a ss) (F : Feed H p S) (n : a ≠ p) (x : Ex1 p H H') : SlabsAt K H' a ss := by
  obtain ⟨bs, h1, h2, h3⟩ := h
  exact ⟨bs, ex1_seq n x h1, h2, fun i b t e1 e2 => ex1_tup F x (h3 i b t e1 e2)⟩
/-- a new object is not p, and was not there before the draws -/
theorem ex1_free {p q : Addr} {H H' : Hp} (x : Ex1 p H H') (n : q ≠ p) (h : H' q = none) : H q = none := by
  cases e : H q with
  | none => rfl
  | some o => rw [x q o n e] at h; cases h
theorem at_list {α : Type} {f : α → V} {xs : List α} {r : Int} (h0 : 0 ≤ r) (h1 : r < xs.length) : ∃ x, x ∈ xs ∧ atI (xs.map f) r = some (f x) := by
  have h2 : r.toNat < xs.length := by omega
  refine ⟨xs[r.toNat], List.getElem_mem h2, ?_⟩
  have e : ((r.toNat : Nat) : Int) = r := by omega
  have z : atI (xs.map f) ((r.toNat : Nat) : Int) = some (f xs[r.toNat]) := atI_nat (by rw [List.getElem?_map, List.getElem?_eq_getElem h2] <;> rfl)
  rw [e] at z
  exact z
end Gd
end

section
set_option Elab.async false
set_option linter.all false
set_option maxRecDepth 100000
set_option maxHeartbeats 4000000
/-! zip(t, l): a tuple beside a list. -/
namespace Gd
open PySem PySem.Spec PyProof.Rows L2

/-- the tuple at a, the list at b, as they stand at each turn -/
def ItTL (K : PySem.W.Frag) (a b : Addr) : It where
  go i H := ∃ (xs ys : List V) (x y : V), SqT K H a xs ∧ SqL K H b ys ∧ xs[i]? = some x ∧ ys[i]? = some y
  yld i H v H' := ∃ T x y, v = .ref T ∧ H T = none ∧ H' = upd H T (.tup [x, y]) ∧ (∀ xs, SqT K H a xs → xs[i]? = some x) ∧ ∀ ys, SqL K H b ys → ys[i]? = some y
  stop i H := ∃ xs ys : List V, SqT K H a xs ∧ SqL K H b ys ∧ ys.length = i ∧ xs.length = i

theorem apN {a b : Nat} (h : ¬ a = b) : (a : Addr) ≠ (b : Addr) := h
theorem apL {x a b : Nat} (h1 : ¬ x = a) (h2 : ¬ x = b) : (x : Addr) ∉ ([a, b] : List Addr) := by
  intro h
  rcases List.mem_cons.mp h with h | h
  · exact h1 h
  · rcases List.mem_cons.mp h with h | h
    · exact h2 h
    · cases h
/-- the five cells of such a zip, the first at n -/
def five (n : Nat) : List Addr := [n + 4, n + 2, n + 3, n, n + 1]
theorem mem5 {n c : Nat} (h : c ∈ five n) : n ≤ c ∧ c < n + 5 := by
  simp only [five, List.mem_cons, List.not_mem_nil, or_false] at h
  omega
theorem in5 {n c : Nat} (h : n ≤ c) (h' : c < n + 5) : c ∈ five n := by
  simp only [five, List.mem_cons, List.not_mem_nil, or_false]
  omega
theorem sep5 {n a b : Nat} (ha : a < n) (hb : b < n) : ZipSep2 (n + 4) (n + 2) (n + 3) n (n + 1) [n, a] [n + 1, b] := by
  constructor
  · exact apN (by omega)
  · exact apN (by omega)
  · exact apN (by omega)
  · exact apN (by omega)
  · simp
  · exact apL (by omega) (by omega)
  · exact apL (by omega) (by omega)
  · exact apN (by omega)
  · simp
  · exact apL (by omega) (by omega)
  · exact apL (by omega) (by omega)
  · exact apL (by omega) (by omega)
  · exact apL (by omega) (by omega)
def St5 (n a b : Nat) (i : Nat) (h : Heap) : Prop :=
  IsZip h (n + 4) (n + 2) (n + 3) .none ∧ IsTupOf2 h (n + 2) (.ref n) (.ref (n + 1)) ∧ (∃ x y, IsTupOf2 h (n + 3) x y) ∧
    h.IsTupleIter n a i ∧ h.IsListIter (n + 1) b i ∧ a < n ∧ b < n ∧ n + 5 ≤ h.objs.size
theorem st5_obj {n a b i : Nat} {h : Heap} (st : St5 n a b i h) {c : Addr} (hc : c ∈ five n) : ∃ o, h.get? c = some o ∧ ∀ v, o.data ≠ .cell v := by
  obtain ⟨hz, hi, ⟨x, y, ho⟩, ⟨o1, e1, _, d1⟩, ⟨o2, e2, _, d2⟩, _⟩ := st
  simp only [five, List.mem_cons, List.not_mem_nil, or_false] at hc
  rcases hc with rfl | rfl | rfl | rfl | rfl
  · exact ⟨_, hz, fun v z => nomatch z⟩
  · exact ⟨_, hi, fun v z => nomatch z⟩
  · exact ⟨_, ho, fun v z => nomatch z⟩
  · exact ⟨o1, e1, fun v z => by rw [d1] at z; cases z⟩
  · exact ⟨o2, e2, fun v z => by rw [d2] at z; cases z⟩
theorem st5_keep {n a b i : Nat} {h h' : Heap} (st : St5 n a b i h) (hs : n + 5 ≤ h'.objs.size) (k : ∀ c ∈ five n, ∀ o, h.get? c = some o → h'.get? c = some o) : St5 n a b i h' := by
  obtain ⟨hz, hi, ⟨x, y, ho⟩, h1, h2, la, lb, _⟩ := st
  have m : ∀ j, j < 5 → n + j ∈ five n := fun j hj => in5 (by omega) (by omega)
  exact ⟨k _ (m 4 (by omega)) _ hz, k _ (m 2 (by omega)) _ hi, ⟨x, y, k _ (m 3 (by omega)) _ ho⟩, h1.at fun o e => k n (m 0 (by omega)) o e, h2.at fun o e => k _ (m 1 (by omega)) o e, la, lb, hs⟩
theorem size_of_get {h : Heap} {n : Nat} {o : Obj} (e : h.get? (n + 4) = some o) : n + 5 ≤ h.objs.size := Heap.lt_size e

theorem turn_TL {P : Program} {w : World} {K : PySem.W.Frag} {elts : List Expr} {kk : Nat} {tpos : Pos} {a b n : Addr} :
    Turn P w K (.Tuple elts kk tpos) (ItTL K a b) (five n) (n + 4) (St5 n a b) where
  mem := in5 (by omega) (by omega)
  obj := fun i h st c hc => st5_obj st hc
  keep := fun i h h' st k => by
    obtain ⟨o, e⟩ : ∃ o, h.get? (n + 4) = some o := ⟨_, st.1⟩
    exact st5_keep st (size_of_get (k _ (in5 (by omega) (by omega)) _ e)) k
  item := by
    intro X hP hw hK hc i pins s σ H E I hf st hg
    subst hP hw hK
    have st0 := st
    obtain ⟨hz, hi, ⟨x0, y0, ho⟩, h1, h2, la, lb, _⟩ := st
    obtain ⟨xs, ys, x, y, qx, qy, hx, hy⟩ := hg
    obtain ⟨as, rv, p, _⟩ := I.tuple qx
    obtain ⟨bs, rv2, p2, _⟩ := I.list qy
    obtain ⟨u, hu, ru⟩ := rv.get hx
    obtain ⟨u2, hu2, ru2⟩ := rv2.get hy
    have hh := I.ok.hd hc
    have hh1 : X.A.in1.handled = none := hh
    have hia : i < as.toArray.size := by
      rw [List.size_toArray]
      exact (List.getElem?_eq_some_iff.mp hu).1
    have hib : i < bs.toArray.size := by
      rw [List.size_toArray]
      exact (List.getElem?_eq_some_iff.mp hu2).1
    refine wpAny_pyNext_zipD2_item (sep5 la lb) (.tuple hh1 n a (Nat.ne_of_lt la) as.toArray) (.list hh1 (n + 1) b (apN (by omega)) bs.toArray) hz hi ho ⟨h1, p⟩ ⟨h2, p2.isList⟩ hia hib ?_
    intro x1 x2 h' tk e1 e2 z' o' g1 g2 hT hsz hk
    have eu : x1 = u := by
      have : as.toArray[i]? = some u := by simpa using hu
      exact Option.some.inj (e1.symm.trans this)
    have eu2 : x2 = u2 := by
      have : bs.toArray[i]? = some u2 := by simpa using hu2
      exact Option.some.inj (e2.symm.trans this)
    subst eu eu2
    have old : ∀ {c o}, s.heap.get? c = some o → c ≠ s.heap.objs.size := fun e => Nat.ne_of_lt (Heap.lt_size e)
    refine ⟨_, rfl, wpAny_letOwnedTupleGo_zip z' fun h3 z3 sb => ?_⟩
    have stay : ∀ c o, c ∉ five n → s.heap.get? c = some o → h3.get? c = some o := fun c o nc e =>
      (sb.2 c (fun q => nc (q ▸ in5 (by omega) (by omega)))).trans (hk c o (fun q => nc (q ▸ in5 (by omega) (by omega))) (fun q => nc (q ▸ in5 (by omega) (by omega)))
        (fun q => nc (q ▸ in5 (by omega) (by omega))) (fun q => nc (q ▸ in5 (by omega) (by omega))) e)
    have t3 : h3.get? s.heap.objs.size = some { cls := .type "tuple", data := .seq #[x1, x2] } := (sb.2 _ (old hz).symm).trans hT
    have fine : ObjOk X.prog X.w (upd H s.heap.objs.size (.tup [x, y])) h3 s.heap.objs.size (.tup [x, y]) :=
      ⟨by show 2 ≤ sizeLine; decide, [x1, x2], .cons ru (.cons ru2 .nil), ⟨_, t3, rfl, _, rfl⟩⟩
    have I3 := I.turnedNew (t' := tk) (ch := five n) stay hf (Nat.le_refl _) fine
    have sz : h3.objs.size = h'.objs.size := sb.1
    have sz2 : n + 5 ≤ s.heap.objs.size := size_of_get hz
    refine ⟨.ref s.heap.objs.size, _, I3, rfl, ⟨_, x, y, rfl, I.hok.fresh (Nat.le_refl _), rfl, fun l hl => ?_, fun l hl => ?_⟩, ⟨z3, ?_, ⟨x1, x2, ?_⟩, ?_, ?_, la, lb, ?_⟩, fun c hcm => ?_⟩
    · rw [I.tuple_inj hl qx]; exact hx
    · rw [I.list_inj hl qy]; exact hy
    · exact (sb.2 _ (apN (by omega))).trans (hk _ _ (apN (by omega)) (apN (by omega)) (apN (by omega)) (apN (by omega)) hi)
    · exact (sb.2 _ (apN (by omega))).trans o'
    · exact g1.1.at fun o q => (sb.2 _ (apN (by omega))).trans q
    · exact g2.1.at fun o q => (sb.2 _ (apN (by omega))).trans q
    · rw [sz, hsz]
      omega
    · have := (mem5 hcm).2
      rw [upd_ne (apN (by omega))]
      exact (hf c hcm).1
  done := by
    intro X hP hw hK hc i pins s σ H E I hf st hg
    subst hP hw hK
    obtain ⟨hz, hi, ⟨x0, y0, ho⟩, h1, h2, la, lb, _⟩ := st
    obtain ⟨xs, ys, qx, qy, ey, ex⟩ := hg
    obtain ⟨as, rv, p, _⟩ := I.tuple qx
    obtain ⟨bs, rv2, p2, _⟩ := I.list qy
    have l1 := rv.length
    have l2 := rv2.length
    have hh := I.ok.hd hc
    have hh1 : X.A.in1.handled = none := hh
    have sa : as.toArray.size = i := by rw [List.size_toArray]; omega
    have sb : bs.toArray.size = i := by rw [List.size_toArray]; omega
    refine wpAny_pyNext_zipD2_end (sep5 la lb) (.tuple hh1 n a (Nat.ne_of_lt la) as.toArray) (.list hh1 (n + 1) b (apN (by omega)) bs.toArray) hz hi ho ⟨h1, p⟩ ⟨h2, p2.isList⟩ (by omega) (by omega) (by omega) ?_
    intro h' tk hk
    refine ⟨rfl, I.turnedL (t' := tk) (ch := five n) (fun c o nc e => ?_) hf⟩
    exact hk c o (fun q => nc (q ▸ in5 (by omega) (by omega))) (fun q => nc (q ▸ in5 (by omega) (by omega))) (fun q => nc (q ▸ in5 (by omega) (by omega))) (fun q => nc (q ▸ in5 (by omega) (by omega))) e
  self := fun A i s Q E st h => wpAny_pyIter_zip st.1 h

def iTL (K : PySem.W.Frag) (ta : TA) : TI := fun σ H R => ta σ H fun vs H1 => ∃ a b xs ys, vs = [.ref a, .ref b] ∧ SqT K H1 a xs ∧ SqL K H1 b ys ∧ xs.length = ys.length ∧ R (ItTL K a b) H1
theorem pi_TL {X : Cx} {e e2 : Expr} {ta : TA} {p pos tpos : Pos} {elts : List Expr} {kk : Nat} (hg : Gl X "zip") (hm : X.mg "zip" = none) (ha : PA X [e, e2] ta)
    (hs : starEach [e, e2] X.env = (false, eval e X.env) :: starEach [e2] X.env := by rfl) (hpl : (backTo pos (starEach [e2] X.env)).any (·.1) = false := by rfl) :
    PI X (.Tuple elts kk tpos) (.Call (.Name "zip" p) [e, e2] [] pos) (iTL X.K ta) := by
  refine ⟨fun pins s σ H R I h => Call_ (ld_blt I hg hm PyProof.Rows.boot_zip (PyProof.Rows.callWith_type1 (thn (ha.run pos pins s σ H _ I h) ?_) hs hpl))⟩
  rintro us s1 ⟨vs, H1, J, r, a, b, xs, ys, rfl, qx, qy, hl, q⟩
  obtain ⟨u1, u2, rfl, r1, r2⟩ := vals2 r
  cases r1
  cases r2
  obtain ⟨as, rv, p1, _⟩ := J.tuple qx
  obtain ⟨bs, rv2, p2, _⟩ := J.list qy
  have la : a < s1.heap.objs.size := by
    obtain ⟨o, e, _⟩ := id p1
    exact Heap.lt_size e
  refine zip_begins2 (begins_tuple a as.toArray) (begins_list b bs.toArray) p1 p2.isList ?_
  intro h' hz hi ho g1 g2 hsz hk
  refine wpAny_pyIter_zip hz ?_
  refine ⟨s1.heap.objs.size + 4, five s1.heap.objs.size, _, _, H1, rfl, J.kept (t' := s1.toks) hk, turn_TL (a := a) (b := b), ?_, fun c hc => ?_, q⟩
  · exact ⟨hz, hi, ⟨_, _, ho⟩, ⟨_, g1, rfl, rfl⟩, ⟨_, g2, rfl, rfl⟩, la, p2.lt, by rw [hsz]; exact Nat.le_refl _⟩
  · have hle := (mem5 hc).1
    exact (J.kept (t' := s1.toks) (fun _ _ z => z)).fpOk hle (J.hok.fresh hle)
end Gd
end

section
set_option Elab.async false
set_option linter.all false
/-! Boxes: slabs of sources, by numbers alone. -/
namespace Bx
abbrev Slab := Nat × Int
def adv (d : List Int) (s : Slab) : List Int := d.set s.1 (d.getD s.1 0 + s.2)
def red (r : List Int) (s : Slab) : List Int := r.set s.1 (r.getD s.1 0 - s.2)
def lft (r : List Int) : List Slab → List Int
  | [] => r
  | s :: ss => lft (red r s) ss
def Leg : List Int → List Slab → Prop
  | _, [] => True
  | r, s :: ss => (0 : Int) ∉ r ∧ s.1 < r.length ∧ 1 ≤ s.2 ∧ s.2 ≤ r.getD s.1 0 ∧ Leg (red r s) ss
/-- all sources stand behind what is done -/
def ge (c d : List Int) : Bool := (c.zip d).all fun p => decide (p.2 ≤ p.1)
def hit (d : List Int) (s : Slab) (c : List Int) : Bool := ge c d && decide (c.getD s.1 0 < d.getD s.1 0 + s.2)
def hits : List Int → List Slab → List Int → Nat → List Nat
  | _, [], _, _ => []
  | d, s :: ss, c, k => if hit d s c then k :: hits (adv d s) ss c (k + 1) else hits (adv d s) ss c (k + 1)
def slabOf (d : List Int) (ss : List Slab) (c : List Int) (k : Nat) : Option Nat := (hits d ss c k).head?
def prod (l : List Int) : Int := l.foldl (· * ·) 1
def cnt (r : List Int) (s : Slab) : Int := s.2 * prod (r.set s.1 1)
def mets : List Int → List Slab → List Int
  | _, [] => []
  | r, s :: ss => cnt r s :: mets (red r s) ss
def dones : List Int → List Slab → List (List Int)
  | _, [] => []
  | d, s :: ss => d :: dones (adv d s) ss

theorem adv_len {d : List Int} {s : Slab} : (adv d s).length = d.length := by simp [adv]
theorem red_len {d : List Int} {s : Slab} : (red d s).length = d.length := by simp [red]
theorem lft_len : ∀ {ss : List Slab} {r : List Int}, (lft r ss).length = r.length
  | [], _ => rfl
  | s :: ss, r => by rw [lft, lft_len, red_len]
theorem getD_set {l : List Int} {i j : Nat} {v : Int} (h : i < l.length) : (l.set i v).getD j 0 = if i = j then v else l.getD j 0 := by
  simp only [List.getD_eq_getElem?_getD, List.getElem?_set]
  by_cases e : i = j
  · subst e
    simp [h]
  · simp [e]
theorem adv_at {d : List Int} {s : Slab} {j : Nat} (h : s.1 < d.length) : (adv d s).getD j 0 = if s.1 = j then d.getD s.1 0 + s.2 else d.getD j 0 := getD_set h
theorem red_at {d : List Int} {s : Slab} {j : Nat} (h : s.1 < d.length) : (red d s).getD j 0 = if s.1 = j then d.getD s.1 0 - s.2 else d.getD j 0 := getD_set h
theorem ge_iff : ∀ {c d : List Int}, c.length = d.length → (ge c d = true ↔ ∀ i, i < d.length → d.getD i 0 ≤ c.getD i 0)
  | [], [], _ => by simp [ge]
  | x :: c, y :: d, h => by
    have ih := ge_iff (c := c) (d := d) (by simpa using h)
    have e : ge (x :: c) (y :: d) = (decide (y ≤ x) && ge c d) := rfl
    rw [e, Bool.and_eq_true, decide_eq_true_eq, ih]
    refine ⟨fun ⟨a, b⟩ i hi => ?_, fun z => ⟨z 0 (by simp), fun i hi => by simpa using z (i + 1) (by simpa using hi)⟩⟩
    cases i with
    | zero => exact a
    | succ i => simpa using b i (by simpa using hi)
  | [], _ :: _, h => by simp at h
  | _ :: _, [], h => by simp at h
/-- what is behind a source stays behind -/
theorem ge_back {c d : List Int} {s : Slab} (hl : c.length = d.length) (hs : s.1 < d.length) (hm : 0 ≤ s.2) (h : ge c (adv d s) = true) : ge c d = true := by
  rw [ge_iff (by rw [adv_len, hl])] at h
  rw [ge_iff hl]
  intro i hi
  have z := h i (by rw [adv_len]; exact hi)
  rw [adv_at hs] at z
  by_cases e : s.1 = i
  · subst e
    rw [if_pos rfl] at z
    omega
  · rwa [if_neg e] at z
/-- whether all slabs name a source and some rows -/
def Fine (n : Nat) (ss : List Slab) : Prop := ∀ s ∈ ss, s.1 < n ∧ 1 ≤ s.2
theorem Leg.fine : ∀ {ss : List Slab} {r : List Int}, Leg r ss → Fine r.length ss
  | [], _, _ => fun s h => nomatch h
  | s :: ss, r, h => by
    obtain ⟨_, a, b, _, k⟩ := h
    intro t ht
    rcases List.mem_cons.mp ht with rfl | ht
    · exact ⟨a, b⟩
    · have := Leg.fine k t ht
      rwa [red_len] at this
theorem hits_none : ∀ {ss : List Slab} {c d : List Int} {k : Nat}, c.length = d.length → Fine d.length ss → ge c d = false → hits d ss c k = []
  | [], _, _, _, _, _, _ => rfl
  | s :: ss, c, d, k, hl, hf, h => by
    obtain ⟨a, b⟩ := hf s (by simp)
    have n1 : hit d s c = false := by
      unfold hit
      rw [h, Bool.false_and]
    have n2 : ge c (adv d s) = false := by
      cases e : ge c (adv d s) with
      | false => rfl
      | true =>
        rw [ge_back hl a (by omega) e] at h
        cases h
    rw [hits, if_neg (by rw [n1]; simp)]
    exact hits_none (by rw [adv_len, hl]) (fun t ht => by rw [adv_len]; exact hf t (by simp [ht])) n2
theorem getD_mem {l : List Int} {i : Nat} (h : i < l.length) : l.getD i 0 ∈ l := by
  rw [List.getD_eq_getElem?_getD, List.getElem?_eq_getElem h]
  exact List.getElem_mem h
theorem mem_getD {l : List Int} {v : Int} (h : v ∈ l) : ∃ i, i < l.length ∧ l.getD i 0 = v := by
  obtain ⟨i, hi, e⟩ := List.mem_iff_getElem.mp h
  exact ⟨i, hi, by rw [List.getD_eq_getElem?_getD, List.getElem?_eq_getElem hi]; exact e⟩
/-- a box: done and left together are the sizes -/
structure Box (z d r : List Int) : Prop where
  ld : d.length = z.length
  lr : r.length = z.length
  sum : ∀ i, i < z.length → d.getD i 0 + r.getD i 0 = z.getD i 0
theorem Box.next {z d r : List Int} {s : Slab} (b : Box z d r) (hs : s.1 < z.length) : Box z (adv d s) (red r s) := by
  refine ⟨by rw [adv_len, b.ld], by rw [red_len, b.lr], fun i hi => ?_⟩
  rw [adv_at (by rw [b.ld]; exact hs), red_at (by rw [b.lr]; exact hs)]
  have h1 := b.sum i hi
  by_cases e : s.1 = i
  · subst e
    rw [if_pos rfl, if_pos rfl]
    omega
  · rw [if_neg e, if_neg e]
    exact h1
theorem zeros_box (z : List Int) : Box z (List.replicate z.length 0) z := by
  refine ⟨by simp, rfl, fun i hi => ?_⟩
  rw [List.getD_eq_getElem?_getD, List.getElem?_replicate]
  simp [hi]
structure Choice (z c : List Int) : Prop where
  len : c.length = z.length
  low : ∀ i, i < z.length → 0 ≤ c.getD i 0
  high : ∀ i, i < z.length → c.getD i 0 < z.getD i 0
/-- each choice behind what is done is met by just one slab -/
theorem hits_one : ∀ {ss : List Slab} {z c d r : List Int} {k : Nat}, Box z d r → Choice z c → ge c d = true → Leg r ss → (0 : Int) ∈ lft r ss → ∃ j, hits d ss c k = [j] ∧ k ≤ j ∧ j < k + ss.length
  | [], z, c, d, r, k, b, hc, hg, _, h0 => by
    exfalso
    obtain ⟨i, hi, e⟩ := mem_getD h0
    have hi : i < r.length := hi
    have e : r.getD i 0 = 0 := e
    rw [b.lr] at hi
    have g := (ge_iff (by rw [hc.len, b.ld])).mp hg i (by rw [b.ld]; exact hi)
    have := b.sum i hi
    have := hc.high i hi
    omega
  | s :: ss, z, c, d, r, k, b, hc, hg, hL, h0 => by
    obtain ⟨n0, a, m1, m2, hL⟩ := hL
    have a' : s.1 < z.length := by rw [← b.lr]; exact a
    have ad : s.1 < d.length := by rw [b.ld]; exact a'
    have hl : c.length = d.length := by rw [hc.len, b.ld]
    have hla : c.length = (adv d s).length := by rw [adv_len, hl]
    have g := (ge_iff hl).mp hg
    by_cases lt : c.getD s.1 0 < d.getD s.1 0 + s.2
    · have n1 : ge c (adv d s) = false := by
        cases e : ge c (adv d s) with
        | false => rfl
        | true =>
          have := (ge_iff hla).mp e s.1 (by rw [adv_len]; exact ad)
          rw [adv_at ad, if_pos rfl] at this
          omega
      have f : Fine (adv d s).length ss := by
        have := Leg.fine hL
        rw [red_len, b.lr, ← b.ld, ← adv_len (s := s)] at this
        exact this
      refine ⟨k, ?_, Nat.le_refl _, by simp only [List.length_cons]; omega⟩
      rw [hits, if_pos (by unfold hit; rw [hg, decide_eq_true lt] <;> rfl), hits_none hla f n1]
    · have n1 : ge c (adv d s) = true := by
        rw [ge_iff hla]
        intro i hi
        rw [adv_len] at hi
        rw [adv_at ad]
        split
        · rename_i e
          rw [← e]
          omega
        · exact g i hi
      obtain ⟨j, e, h1, h2⟩ := hits_one (k := k + 1) (b.next a') hc n1 hL h0
      refine ⟨j, ?_, by omega, by simp only [List.length_cons]; omega⟩
      rw [hits, if_neg (by unfold hit; rw [decide_eq_false lt]; simp)]
      exact e

/-! products -/
theorem foldl_mul : ∀ (l : List Int) (a : Int), l.foldl (· * ·) a = a * prod l
  | [], a => by simp [prod]
  | x :: l, a => by
    show l.foldl (· * ·) (a * x) = a * l.foldl (· * ·) (1 * x)
    rw [foldl_mul l, foldl_mul l (1 * x), Int.one_mul, Int.mul_assoc]
theorem prod_cons (x : Int) (l : List Int) : prod (x :: l) = x * prod l := by
  show l.foldl (· * ·) (1 * x) = _
  rw [foldl_mul, Int.one_mul]
theorem prod_nil : prod [] = 1 := rfl
theorem prod_snoc (l : List Int) (x : Int) : prod (l ++ [x]) = prod l * x := by
  simp [prod, List.foldl_append]
theorem prod_set : ∀ {l : List Int} {i : Nat} {v : Int}, i < l.length → prod (l.set i v) = v * prod (l.set i 1)
  | x :: l, 0, v, _ => by simp [prod_cons]
  | x :: l, i + 1, v, h => by
    have ih := prod_set (l := l) (i := i) (v := v) (by simpa using h)
    simp only [List.set_cons_succ, prod_cons, ih]
    rw [Int.mul_left_comm]
theorem prod_at {l : List Int} {i : Nat} (h : i < l.length) : prod l = l.getD i 0 * prod (l.set i 1) := by
  rw [← prod_set h]
  congr 1
  rw [List.getD_eq_getElem?_getD, List.getElem?_eq_getElem h]
  simp
theorem cnt_diff {r : List Int} {s : Slab} (h : s.1 < r.length) : cnt r s = prod r - prod (red r s) := by
  unfold cnt red
  rw [prod_set (v := r.getD s.1 0 - s.2) h, prod_at h, ← Int.sub_mul]
  congr 1
  omega
theorem prod_zero : ∀ {l : List Int}, (0 : Int) ∈ l → prod l = 0
  | x :: l, h => by
    rw [prod_cons]
    rcases List.mem_cons.mp h with e | h
    · rw [← e, Int.zero_mul]
    · rw [prod_zero h, Int.mul_zero]
theorem sum_mets : ∀ {ss : List Slab} {r : List Int}, Fine r.length ss → (mets r ss).sum = prod r - prod (lft r ss)
  | [], r, _ => by simp [mets, lft]
  | s :: ss, r, h => by
    have f : Fine (red r s).length ss := fun t ht => by rw [red_len]; exact h t (by simp [ht])
    rw [mets, lft, List.sum_cons, sum_mets f, cnt_diff (h s (by simp)).1]
    omega
theorem prod_pos : ∀ {l : List Int}, (∀ x ∈ l, 1 ≤ x) → 1 ≤ prod l
  | [], _ => by simp [prod_nil]
  | x :: l, h => by
    rw [prod_cons]
    have a := h x (by simp)
    have b := prod_pos (l := l) fun y hy => h y (by simp [hy])
    have := Int.mul_le_mul a b (by omega) (by omega)
    omega
theorem prod_le : ∀ {l : List Int} {B : Int}, 1 ≤ B → (∀ x ∈ l, 0 ≤ x ∧ x ≤ B) → 0 ≤ prod l ∧ prod l ≤ B ^ l.length
  | [], B, _, _ => by simp [prod_nil]
  | x :: l, B, hB, h => by
    rw [prod_cons]
    obtain ⟨a, b⟩ := h x (by simp)
    obtain ⟨c, d⟩ := prod_le (l := l) hB fun y hy => h y (by simp [hy])
    refine ⟨Int.mul_nonneg a c, ?_⟩
    rw [List.length_cons, Int.pow_succ, Int.mul_comm]
    exact Int.mul_le_mul d b a (Int.le_trans c d)
/-- all are from 0 to B -/
def In (B : Int) (r : List Int) : Prop := ∀ x ∈ r, 0 ≤ x ∧ x ≤ B
theorem mem_set {l : List Int} {i : Nat} {v x : Int} (h : x ∈ l.set i v) : x = v ∨ x ∈ l := by
  rcases List.mem_or_eq_of_mem_set h with h | h
  · exact .inr h
  · exact .inl h
theorem In.red {B : Int} {r : List Int} {s : Slab} (h : In B r) (hs : s.1 < r.length) (a : 1 ≤ s.2) (b : s.2 ≤ r.getD s.1 0) : In B (red r s) := by
  intro x hx
  rcases mem_set hx with e | hx
  · have := h _ (getD_mem hs)
    omega
  · exact h x hx
theorem cnt_pos {B : Int} {r : List Int} {s : Slab} (h : In B r) (n0 : (0 : Int) ∉ r) (hs : s.1 < r.length) (a : 1 ≤ s.2) : 1 ≤ cnt r s := by
  have p : 1 ≤ prod (r.set s.1 1) := prod_pos fun x hx => by
    rcases mem_set hx with e | hx
    · omega
    · have := h x hx
      have : x ≠ 0 := fun e => n0 (e ▸ hx)
      omega
  have := Int.mul_le_mul a p (by omega) (by omega)
  unfold cnt
  omega
theorem mets_pos : ∀ {ss : List Slab} {B : Int} {r : List Int}, In B r → Leg r ss → ∀ x ∈ mets r ss, 1 ≤ x
  | [], _, _, _, _ => fun x h => nomatch h
  | s :: ss, B, r, h, hL => by
    obtain ⟨n0, a, m1, m2, k⟩ := hL
    intro x hx
    rcases List.mem_cons.mp hx with rfl | hx
    · exact cnt_pos h n0 a m1
    · exact mets_pos (h.red a m1 m2) k x hx
theorem lft_in : ∀ {ss : List Slab} {B : Int} {r : List Int}, In B r → Leg r ss → In B (lft r ss)
  | [], _, _, h, _ => h
  | s :: ss, B, r, h, hL => by
    have k := h.red hL.2.1 hL.2.2.1 hL.2.2.2.1
    exact lft_in (ss := ss) k hL.2.2.2.2
theorem dones_len : ∀ {ss : List Slab} {d : List Int}, (dones d ss).length = ss.length
  | [], _ => rfl
  | s :: ss, d => by simp [dones, dones_len]
theorem mets_len : ∀ {ss : List Slab} {d : List Int}, (mets d ss).length = ss.length
  | [], _ => rfl
  | s :: ss, d => by simp [mets, mets_len]
/-- one more slab -/
theorem lft_snoc : ∀ {ss : List Slab} {r : List Int} {s : Slab}, lft r (ss ++ [s]) = red (lft r ss) s
  | [], _, _ => rfl
  | t :: ss, r, s => lft_snoc (ss := ss)
theorem Leg.snoc : ∀ {ss : List Slab} {r : List Int} {s : Slab}, Leg r ss → (0 : Int) ∉ lft r ss → s.1 < r.length → 1 ≤ s.2 → s.2 ≤ (lft r ss).getD s.1 0 → Leg r (ss ++ [s])
  | [], _, _, _, a, b, c, d => ⟨a, b, c, d, trivial⟩
  | t :: ss, r, s, h, a, b, c, d => ⟨h.1, h.2.1, h.2.2.1, h.2.2.2.1, Leg.snoc (ss := ss) h.2.2.2.2 a (by rw [red_len]; exact b) c d⟩
theorem dones_at : ∀ {ss : List Slab} {d : List Int} {i : Nat} {s : Slab}, ss[i]? = some s → ∃ e, (dones d ss)[i]? = some e ∧ e.length = d.length
  | t :: ss, d, 0, s, h => ⟨d, rfl, rfl⟩
  | t :: ss, d, i + 1, s, h => by
    obtain ⟨e, a, b⟩ := dones_at (ss := ss) (d := adv d t) (i := i) (by simpa using h)
    exact ⟨e, by simpa [dones] using a, by rw [b, adv_len]⟩
end Bx
end

section
set_option Elab.async false
set_option linter.all false
namespace Bx
/-- slabs as far as there are rows, whoever is through -/
def Leg0 : List Int → List Slab → Prop
  | _, [] => True
  | r, s :: ss => s.1 < r.length ∧ 1 ≤ s.2 ∧ s.2 ≤ r.getD s.1 0 ∧ Leg0 (red r s) ss
theorem Leg.weak : ∀ {ss : List Slab} {r : List Int}, Leg r ss → Leg0 r ss
  | [], _, _ => trivial
  | s :: ss, r, h => ⟨h.2.1, h.2.2.1, h.2.2.2.1, Leg.weak (ss := ss) h.2.2.2.2⟩
theorem Leg0.fine : ∀ {ss : List Slab} {r : List Int}, Leg0 r ss → Fine r.length ss
  | [], _, _ => fun s h => nomatch h
  | s :: ss, r, h => by
    obtain ⟨a, b, _, k⟩ := h
    intro t ht
    rcases List.mem_cons.mp ht with rfl | ht
    · exact ⟨a, b⟩
    · have := Leg0.fine k t ht
      rwa [red_len] at this
theorem mets_snoc : ∀ {ss : List Slab} {r : List Int} {s : Slab}, mets r (ss ++ [s]) = mets r ss ++ [cnt (lft r ss) s]
  | [], _, _ => rfl
  | t :: ss, r, s => by
    show cnt r t :: mets (red r t) (ss ++ [s]) = _
    rw [mets_snoc]
    rfl
/-- what holds ahead of each slab -/
theorem Leg0.at_ : ∀ {ss : List Slab} {B : Int} {r : List Int} {i : Nat} {s : Slab}, In B r → Leg0 r ss → ss[i]? = some s →
    In B (lft r (ss.take i)) ∧ s.1 < (lft r (ss.take i)).length ∧ 1 ≤ s.2 ∧ s.2 ≤ (lft r (ss.take i)).getD s.1 0
  | t :: ss, B, r, 0, s, h, k, e => by
    cases Option.some.inj e
    exact ⟨h, k.1, k.2.1, k.2.2.1⟩
  | t :: ss, B, r, i + 1, s, h, k, e => Leg0.at_ (ss := ss) (i := i) (h.red k.1 k.2.1 k.2.2.1) k.2.2.2 (by simpa using e)
theorem Leg0.here : ∀ {ss : List Slab} {r : List Int} {i : Nat} {s : Slab}, Leg0 r ss → ss[i]? = some s →
    s.1 < (lft r (ss.take i)).length ∧ 1 ≤ s.2 ∧ s.2 ≤ (lft r (ss.take i)).getD s.1 0
  | t :: ss, r, 0, s, k, e => by
    cases Option.some.inj e
    exact ⟨k.1, k.2.1, k.2.2.1⟩
  | t :: ss, r, i + 1, s, k, e => Leg0.here (ss := ss) (i := i) k.2.2.2 (by simpa using e)
theorem Leg.at_ : ∀ {ss : List Slab} {r : List Int} {i : Nat} {s : Slab}, Leg r ss → ss[i]? = some s → (0 : Int) ∉ lft r (ss.take i)
  | t :: ss, r, 0, s, k, e => k.1
  | t :: ss, r, i + 1, s, k, e => Leg.at_ (ss := ss) (i := i) k.2.2.2.2 (by simpa using e)
/-- the rows of the others so far -/
def oth (r : List Int) (k j : Nat) : Int := prod ((r.set k 1).take j)
theorem oth_zero (r : List Int) (k : Nat) : oth r k 0 = 1 := rfl
theorem oth_at {r : List Int} {k j : Nat} (h : j < r.length) : oth r k (j + 1) = if j = k then oth r k j else oth r k j * r.getD j 0 := by
  have e : (r.set k 1)[j]? = some (if j = k then 1 else r.getD j 0) := by
    rw [List.getElem?_set]
    by_cases z : k = j
    · subst z
      simp [h]
    · rw [if_neg z, if_neg (fun e => z e.symm), List.getD_eq_getElem?_getD, List.getElem?_eq_getElem h] <;> rfl
  unfold oth
  rw [List.take_add_one, e]
  show prod (_ ++ [_]) = _
  rw [prod_snoc]
  split <;> simp
theorem oth_all (r : List Int) (k : Nat) : oth r k r.length = prod (r.set k 1) := by
  unfold oth
  rw [List.take_of_length_le (by simp)]
end Bx
end

section
set_option Elab.async false
set_option linter.all false
namespace Bx
theorem sum_set : ∀ {l : List Int} {i : Nat} {v : Int}, i < l.length → (l.set i v).sum = l.sum - l.getD i 0 + v
  | x :: l, 0, v, _ => by
    simp only [List.set_cons_zero, List.sum_cons, List.getD_cons_zero]
    omega
  | x :: l, i + 1, v, h => by
    have ih := sum_set (l := l) (i := i) (v := v) (by simpa using h)
    simp only [List.set_cons_succ, List.sum_cons, List.getD_cons_succ, ih]
    omega
theorem sum_red {r : List Int} {s : Slab} (h : s.1 < r.length) : (red r s).sum = r.sum - s.2 := by
  unfold red
  rw [sum_set h]
  omega
theorem In.sum : ∀ {B : Int} {r : List Int}, 0 ≤ B → In B r → 0 ≤ r.sum ∧ r.sum ≤ B * r.length
  | B, [], _, _ => by simp
  | B, x :: r, hB, h => by
    obtain ⟨a, b⟩ := h x (by simp)
    obtain ⟨c, d⟩ := In.sum (r := r) hB fun y hy => h y (by simp [hy])
    simp only [List.sum_cons, List.length_cons]
    refine ⟨by omega, ?_⟩
    have : B * ((r.length + 1 : Nat) : Int) = B * r.length + B := by
      rw [Int.natCast_add, Int.mul_add]
      simp
    omega
theorem In.mono {B C : Int} {r : List Int} (h : In B r) (l : B ≤ C) : In C r := fun x hx => by
  have := h x hx
  omega
theorem fdiv2 (n : Int) : n.fdiv 2 = n / 2 := Int.fdiv_eq_ediv_of_nonneg n (by omega)
end Bx
namespace Bx
def dn (d : List Int) : List Slab → List Int
  | [] => d
  | s :: ss => dn (adv d s) ss
theorem dn_len : ∀ {ss : List Slab} {d : List Int}, (dn d ss).length = d.length
  | [], _ => rfl
  | s :: ss, d => by rw [dn, dn_len, adv_len]
theorem dn_snoc : ∀ {ss : List Slab} {d : List Int} {s : Slab}, dn d (ss ++ [s]) = adv (dn d ss) s
  | [], _, _ => rfl
  | t :: ss, d, s => dn_snoc (ss := ss)
theorem dones_snoc : ∀ {ss : List Slab} {d : List Int} {s : Slab}, dones d (ss ++ [s]) = dones d ss ++ [dn d ss]
  | [], _, _ => rfl
  | t :: ss, d, s => by
    show d :: dones (adv d t) (ss ++ [s]) = _
    rw [dones_snoc]
    rfl
theorem hits_snoc : ∀ {ss : List Slab} {d c : List Int} {s : Slab} {k : Nat}, hits d (ss ++ [s]) c k = hits d ss c k ++ (if hit (dn d ss) s c then [k + ss.length] else [])
  | [], d, c, s, k => by
    show hits d (s :: []) c k = _
    rw [hits, hits, hits, dn]
    split <;> simp
  | t :: ss, d, c, s, k => by
    show hits d (t :: (ss ++ [s])) c k = _
    rw [hits, hits, hits_snoc, dn]
    rw [show k + 1 + ss.length = k + (t :: ss).length by simp only [List.length_cons]; omega]
    split <;> simp
theorem dones_at2 : ∀ {ss : List Slab} {d : List Int} {i : Nat} {s : Slab}, ss[i]? = some s → (dones d ss)[i]? = some (dn d (ss.take i))
  | t :: ss, d, 0, s, h => rfl
  | t :: ss, d, i + 1, s, h => by
    have := dones_at2 (ss := ss) (d := adv d t) (i := i) (by simpa using h)
    simpa [dones, dn] using this
theorem box_take : ∀ {ss : List Slab} {z d r : List Int} (i : Nat), Box z d r → Fine z.length ss → Box z (dn d (ss.take i)) (lft r (ss.take i))
  | _, z, d, r, 0, b, _ => b
  | [], z, d, r, i + 1, b, _ => b
  | s :: ss, z, d, r, i + 1, b, f => by
    simp only [List.take_succ_cons, dn, lft]
    exact box_take (ss := ss) i (b.next (f s (by simp)).1) fun t ht => f t (by simp [ht])
end Bx
namespace Bx
theorem hits_take {ss : List Slab} {d c : List Int} {i : Nat} {s : Slab} (h : ss[i]? = some s) : hits d (ss.take (i + 1)) c 0 = hits d (ss.take i) c 0 ++ (if hit (dn d (ss.take i)) s c then [i] else []) := by
  have lt : i < ss.length := (List.getElem?_eq_some_iff.mp h).1
  rw [List.take_add_one, h]
  show hits d (ss.take i ++ [s]) c 0 = _
  rw [hits_snoc, List.length_take, show 0 + min i ss.length = i by omega]
theorem set_in {B : Int} {r : List Int} {k : Nat} (hB : 1 ≤ B) (h : In B r) : ∀ x ∈ r.set k 1, 0 ≤ x ∧ x ≤ B := fun x hx => by
  rcases mem_set hx with e | hx
  · omega
  · exact h x hx
theorem mets_bound : ∀ {ss : List Slab} {B : Int} {r : List Int}, 1 ≤ B → In B r → Leg0 r ss → ∀ x ∈ mets r ss, 0 ≤ x ∧ x ≤ B * B ^ r.length
  | [], _, _, _, _, _ => fun x h => nomatch h
  | s :: ss, B, r, hB, h, hL => by
    obtain ⟨a, m1, m2, k⟩ := hL
    intro x hx
    rcases List.mem_cons.mp hx with rfl | hx
    · obtain ⟨p0, p1⟩ := prod_le hB (set_in (k := s.1) hB h)
      rw [List.length_set] at p1
      have hb := h _ (getD_mem a)
      unfold cnt
      exact ⟨Int.mul_nonneg (by omega) p0, Int.mul_le_mul (by omega) p1 p0 (by omega)⟩
    · have := mets_bound hB (h.red a m1 m2) k x hx
      rwa [red_len] at this
end Bx
end

section
set_option Elab.async false
set_option linter.all false
namespace Bx
/-! slabs in pieces -/
theorem hits_shift : ∀ {ss : List Slab} {d c : List Int} {k : Nat}, hits d ss c (k + 1) = (hits d ss c k).map (· + 1)
  | [], _, _, _ => rfl
  | s :: ss, d, c, k => by
    rw [hits, hits]
    split
    · rw [List.map_cons, hits_shift]
    · rw [hits_shift]
theorem hits_app2 : ∀ {A B : List Slab} {d c : List Int} {k : Nat}, hits d (A ++ B) c k = hits d A c k ++ hits (dn d A) B c (k + A.length)
  | [], _, _, _, _ => rfl
  | s :: A, B, d, c, k => by
    rw [List.cons_append, hits, hits, hits_app2]
    have e : k + 1 + A.length = k + (s :: A).length := by simp; omega
    rw [e]
    split <;> rfl
theorem mets_app : ∀ {A B : List Slab} {r : List Int}, mets r (A ++ B) = mets r A ++ mets (lft r A) B
  | [], _, _ => rfl
  | s :: A, B, r => by
    rw [List.cons_append, mets, mets, mets_app]
    rfl
theorem lft_app : ∀ {A B : List Slab} {r : List Int}, lft r (A ++ B) = lft (lft r A) B
  | [], _, _ => rfl
  | s :: A, B, r => by
    rw [List.cons_append, lft, lft, lft_app]
theorem dn_app : ∀ {A B : List Slab} {r : List Int}, dn r (A ++ B) = dn (dn r A) B
  | [], _, _ => rfl
  | s :: A, B, r => by
    rw [List.cons_append, dn, dn, dn_app]
theorem leg_app : ∀ {A B : List Slab} {r : List Int}, Leg r (A ++ B) ↔ Leg r A ∧ Leg (lft r A) B
  | [], _, _ => ⟨fun h => ⟨trivial, h⟩, fun h => h.2⟩
  | s :: A, B, r => by
    rw [List.cons_append]
    show (_ ∧ _ ∧ _ ∧ _ ∧ Leg (red r s) (A ++ B)) ↔ (_ ∧ _ ∧ _ ∧ _ ∧ Leg (red r s) A) ∧ Leg (lft (red r s) A) B
    rw [leg_app]
    exact ⟨fun ⟨a, b, c, d, e, f⟩ => ⟨⟨a, b, c, d, e⟩, f⟩, fun ⟨⟨a, b, c, d, e⟩, f⟩ => ⟨a, b, c, d, e, f⟩⟩
theorem set_set (l : List Int) (i : Nat) (v w : Int) : (l.set i v).set i w = l.set i w := by
  rw [List.set_set]
/-- two of one source behind one another, and both in one -/
theorem adv_two {d : List Int} {k : Nat} {x y : Int} (h : k < d.length) : adv (adv d (k, x)) (k, y) = adv d (k, x + y) := by
  unfold adv
  rw [List.set_set, getD_set h, if_pos rfl, Int.add_assoc]
theorem red_two {d : List Int} {k : Nat} {x y : Int} (h : k < d.length) : red (red d (k, x)) (k, y) = red d (k, x + y) := by
  unfold red
  rw [List.set_set, getD_set h, if_pos rfl]
  congr 1
  show d.getD k 0 - x - y = d.getD k 0 - (x + y)
  omega
theorem cnt_two {r : List Int} {k : Nat} {x y : Int} : cnt r (k, x) + cnt (red r (k, x)) (k, y) = cnt r (k, x + y) := by
  unfold cnt red
  rw [List.set_set]
  exact (Int.add_mul ..).symm
theorem hit_two {d c : List Int} {k : Nat} {x y : Int} (hl : c.length = d.length) (h : k < d.length) (x0 : 1 ≤ x) (y0 : 1 ≤ y) : hit d (k, x + y) c = true ↔ hit d (k, x) c = true ∨ hit (adv d (k, x)) (k, y) c = true := by
  have e : (adv d (k, x)).getD k 0 = d.getD k 0 + x := by rw [adv_at h, if_pos rfl]
  unfold hit
  simp only [Bool.and_eq_true, decide_eq_true_eq]
  rw [e]
  constructor
  · rintro ⟨g, l⟩
    by_cases lt : c.getD k 0 < d.getD k 0 + x
    · exact .inl ⟨g, lt⟩
    · refine .inr ⟨?_, by omega⟩
      rw [ge_iff (by rw [adv_len, hl])]
      rw [ge_iff hl] at g
      intro i hi
      rw [adv_len] at hi
      rw [adv_at h]
      split
      · rename_i e
        rw [← e]
        show d.getD k 0 + x ≤ c.getD k 0
        omega
      · exact g i hi
  · rintro (⟨g, l⟩ | ⟨g, l⟩)
    · exact ⟨g, by omega⟩
    · exact ⟨ge_back hl h (by show 0 ≤ x; omega) g, by omega⟩
theorem leg_two {r : List Int} {k : Nat} {x y : Int} {B : List Slab} (x0 : 1 ≤ x) (y0 : 1 ≤ y) : Leg r ((k, x + y) :: B) → Leg r ((k, x) :: (k, y) :: B) := by
  rintro ⟨a, b, c, d, e⟩
  have b : k < r.length := b
  have d : x + y ≤ r.getD k 0 := d
  refine ⟨a, b, x0, by show x ≤ r.getD k 0; omega, ?_, by rw [red_len]; exact b, y0, ?_, ?_⟩
  · intro m
    obtain ⟨i, hi, e2⟩ := mem_getD m
    rw [red_len] at hi
    rw [red_at b] at e2
    split at e2
    · have e2 : r.getD k 0 - x = 0 := e2
      omega
    · exact a (by rw [← e2]; exact getD_mem hi)
  · rw [red_at b, if_pos rfl]
    show y ≤ r.getD k 0 - x
    omega
  · rw [red_two b]
    exact e
theorem leg_join {r : List Int} {k : Nat} {x y : Int} {B : List Slab} (x0 : 1 ≤ x) (y0 : 1 ≤ y) : Leg r ((k, x) :: (k, y) :: B) → Leg r ((k, x + y) :: B) := by
  rintro ⟨a, b, c, d, _, b2, y0, d2, e⟩
  have b : k < r.length := b
  rw [red_at b, if_pos rfl] at d2
  have d2 : y ≤ r.getD k 0 - x := d2
  rw [red_two b] at e
  exact ⟨a, b, by show 1 ≤ x + y; omega, by show x + y ≤ r.getD k 0; omega, e⟩
/-! parted -/
def parted (ss : List Slab) (a : Nat) (k : Nat) (f g : Int) : List Slab := ss.take a ++ (k, f) :: (k, g) :: ss.drop (a + 1)
theorem split_at {ss : List Slab} {a : Nat} {s : Slab} (h : ss[a]? = some s) : ss = ss.take a ++ s :: ss.drop (a + 1) := by
  obtain ⟨l, e⟩ := List.getElem?_eq_some_iff.mp h
  rw [← e, List.getElem_cons_drop, List.take_append_drop]
section
variable {ss : List Slab} {a k : Nat} {f g : Int} {z c : List Int}
theorem parted_leg (h : ss[a]? = some (k, f + g)) (f0 : 1 ≤ f) (g0 : 1 ≤ g) (hL : Leg z ss) : Leg z (parted ss a k f g) := by
  rw [split_at h, leg_app] at hL
  unfold parted
  rw [leg_app]
  exact ⟨hL.1, leg_two f0 g0 hL.2⟩
theorem parted_lft (h : ss[a]? = some (k, f + g)) (hL : Leg z ss) : lft z (parted ss a k f g) = lft z ss := by
  have e := split_at h
  have hk : k < (lft z (ss.take a)).length := by
    rw [e, leg_app] at hL
    exact hL.2.2.1
  conv => rhs; rw [e]
  unfold parted
  rw [lft_app, lft_app, lft, lft, lft, red_two hk]
theorem parted_mets (h : ss[a]? = some (k, f + g)) (hL : Leg z ss) : ∃ X Y x y, mets z (parted ss a k f g) = X ++ x :: y :: Y ∧ X.length = a ∧ mets z ss = X ++ (x + y) :: Y := by
  have e := split_at h
  have hk : k < (lft z (ss.take a)).length := by
    rw [e, leg_app] at hL
    exact hL.2.2.1
  refine ⟨mets z (ss.take a), mets (red (lft z (ss.take a)) (k, f + g)) (ss.drop (a + 1)), cnt (lft z (ss.take a)) (k, f), cnt (red (lft z (ss.take a)) (k, f)) (k, g), ?_, ?_, ?_⟩
  · unfold parted
    rw [mets_app, mets, mets, red_two hk]
  · have := (List.getElem?_eq_some_iff.mp h).1
    rw [mets_len, List.length_take]
    omega
  · conv => lhs; rw [e]
    rw [mets_app, mets, cnt_two]
theorem parted_hits (h : ss[a]? = some (k, f + g)) (f0 : 1 ≤ f) (g0 : 1 ≤ g) (hL : Leg z ss) (h0 : (0 : Int) ∈ lft z ss) (hc : Choice z c) {j j2 : Nat}
    (e1 : hits (List.replicate z.length 0) ss c 0 = [j]) (e2 : hits (List.replicate z.length 0) (parted ss a k f g) c 0 = [j2]) :
    (j < a → j2 = j) ∧ (a < j → j2 = j + 1) ∧ (j = a → j2 = a ∨ j2 = a + 1) := by
  have e := split_at h
  have la : (ss.take a).length = a := by
    have := (List.getElem?_eq_some_iff.mp h).1
    rw [List.length_take]
    omega
  have hk : k < z.length := by
    rw [e, leg_app] at hL
    have := hL.2.2.1
    rwa [lft_len] at this
  have hk2 : k < (dn (List.replicate z.length 0) (ss.take a)).length := by
    rw [dn_len, List.length_replicate]
    exact hk
  have hl : c.length = (dn (List.replicate z.length 0) (ss.take a)).length := by rw [dn_len, List.length_replicate, hc.len]
  have m2 : ∀ i, i ∈ hits (List.replicate z.length 0) (parted ss a k f g) c 0 → j2 = i := fun i hi => by
    rw [e2] at hi
    exact (List.mem_singleton.mp hi).symm
  unfold parted at m2
  rw [hits_app2, hits, hits, la, Nat.zero_add, adv_two hk2] at m2
  rw [e, hits_app2, hits, la, Nat.zero_add] at e1
  have mj : j ∈ hits (List.replicate z.length 0) (ss.take a) c 0 ++ if hit (dn (List.replicate z.length 0) (ss.take a)) (k, f + g) c = true then a :: hits (adv (dn (List.replicate z.length 0) (ss.take a)) (k, f + g)) (ss.drop (a + 1)) c (a + 1) else hits (adv (dn (List.replicate z.length 0) (ss.take a)) (k, f + g)) (ss.drop (a + 1)) c (a + 1) := by
    rw [e1]
    exact List.mem_singleton.mpr rfl
  have bnd : ∀ {A : List Slab} {d : List Int} {p i : Nat}, i ∈ hits d A c p → p ≤ i ∧ i < p + A.length := by
    intro A
    induction A with
    | nil => exact fun h => nomatch h
    | cons s A ih =>
      intro d p i h
      rw [hits] at h
      rw [List.length_cons]
      split at h
      · rcases List.mem_cons.mp h with h | h
        · omega
        · have := ih h
          omega
      · have := ih h
        omega
  rcases List.mem_append.mp mj with mj | mj
  · have b := (bnd mj).2
    have := m2 j (List.mem_append_left _ mj)
    exact ⟨fun _ => this, fun _ => by omega, fun _ => by omega⟩
  · have tail : ∀ {i}, i ∈ hits (adv (dn (List.replicate z.length 0) (ss.take a)) (k, f + g)) (ss.drop (a + 1)) c (a + 1) → (j = i → (j < a → j2 = j) ∧ (a < j → j2 = j + 1) ∧ (j = a → j2 = a ∨ j2 = a + 1)) := by
      intro i hi ei
      have b := (bnd hi).1
      have := m2 (i + 1) (List.mem_append_right _ (by
        have : i + 1 ∈ hits (adv (dn (List.replicate z.length 0) (ss.take a)) (k, f + g)) (ss.drop (a + 1)) c (a + 1 + 1) := by
          rw [hits_shift]
          exact List.mem_map.mpr ⟨i, hi, rfl⟩
        split
        · refine List.mem_cons_of_mem _ ?_
          split
          · exact List.mem_cons_of_mem _ this
          · exact this
        · split
          · exact List.mem_cons_of_mem _ this
          · exact this))
      exact ⟨fun _ => by omega, fun _ => by omega, fun _ => by omega⟩
    split at mj
    · rename_i hh
      rcases List.mem_cons.mp mj with mj | mj
      · rcases (hit_two hl hk2 f0 g0).mp hh with q | q
        · have := m2 a (List.mem_append_right _ (by rw [if_pos q]; exact List.mem_cons_self ..))
          exact ⟨fun _ => by omega, fun _ => by omega, fun _ => .inl this⟩
        · have := m2 (a + 1) (List.mem_append_right _ (by
            rw [if_pos q]
            split
            · exact List.mem_cons_of_mem _ (List.mem_cons_self ..)
            · exact List.mem_cons_self ..))
          exact ⟨fun _ => by omega, fun _ => by omega, fun _ => .inr this⟩
      · exact tail mj rfl
    · exact tail mj rfl
end
/-! a source more -/
theorem getD_app {l : List Int} {x : Int} {i : Nat} (h : i < l.length) : (l ++ [x]).getD i 0 = l.getD i 0 := by
  simp only [List.getD_eq_getElem?_getD, List.getElem?_append_left h]
theorem adv_app {d : List Int} {x : Int} {s : Slab} (h : s.1 < d.length) : adv (d ++ [x]) s = adv d s ++ [x] := by
  unfold adv
  rw [getD_app h, List.set_append_left _ _ h]
theorem red_app {d : List Int} {x : Int} {s : Slab} (h : s.1 < d.length) : red (d ++ [x]) s = red d s ++ [x] := by
  unfold red
  rw [getD_app h, List.set_append_left _ _ h]
theorem ge_app {c d : List Int} {x : Int} (hl : c.length = d.length) (h : 0 ≤ x) : ge (c ++ [x]) (d ++ [0]) = ge c d := by
  unfold ge
  rw [List.zip_append hl, List.all_append]
  simp [h]
theorem hit_app {c d : List Int} {x : Int} {s : Slab} (hl : c.length = d.length) (h : 0 ≤ x) (hs : s.1 < d.length) : hit (d ++ [0]) s (c ++ [x]) = hit d s c := by
  unfold hit
  rw [ge_app hl h, getD_app hs, getD_app (by rw [hl]; exact hs)]
theorem hits_more : ∀ {ss : List Slab} {c d : List Int} {x : Int} {k : Nat}, c.length = d.length → 0 ≤ x → Fine d.length ss → hits (d ++ [0]) ss (c ++ [x]) k = hits d ss c k
  | [], _, _, _, _, _, _, _ => rfl
  | s :: ss, c, d, x, k, hl, h, hf => by
    obtain ⟨a, b⟩ := hf s (by simp)
    rw [hits, hits, hit_app hl h a, adv_app a, hits_more (ss := ss) (by rw [adv_len, hl]) h (fun t ht => by rw [adv_len]; exact hf t (by simp [ht]))]
theorem mets_more : ∀ {ss : List Slab} {r : List Int} {x : Int}, Fine r.length ss → mets (r ++ [x]) ss = (mets r ss).map (· * x)
  | [], _, _, _ => rfl
  | s :: ss, r, x, hf => by
    obtain ⟨a, b⟩ := hf s (by simp)
    rw [mets, mets, red_app a, mets_more (ss := ss) (fun t ht => by rw [red_len]; exact hf t (by simp [ht])), List.map_cons]
    congr 1
    unfold cnt
    rw [List.set_append_left _ _ a, prod_snoc, Int.mul_assoc]
theorem lft_more : ∀ {ss : List Slab} {r : List Int} {x : Int}, Fine r.length ss → lft (r ++ [x]) ss = lft r ss ++ [x]
  | [], _, _, _ => rfl
  | s :: ss, r, x, hf => by
    obtain ⟨a, b⟩ := hf s (by simp)
    rw [lft, lft, red_app a, lft_more (ss := ss) (fun t ht => by rw [red_len]; exact hf t (by simp [ht]))]
theorem leg_more : ∀ {ss : List Slab} {r : List Int} {x : Int}, 1 ≤ x → Leg r ss → Leg (r ++ [x]) ss
  | [], _, _, _, _ => trivial
  | s :: ss, r, x, h, ⟨a, b, c, d, e⟩ => by
    refine ⟨fun m => ?_, by rw [List.length_append]; omega, c, by rw [getD_app b]; exact d, ?_⟩
    · rcases List.mem_append.mp m with m | m
      · exact a m
      · have := List.mem_singleton.mp m
        omega
    · rw [red_app b]
      exact leg_more (ss := ss) h e
end Bx
end

section
set_option Elab.async false
set_option linter.all false
namespace Bx
/-! sources in another order -/
def turnL (o : List Nat) (l : List Int) : List Int := o.map fun i => l.getD i 0
def turnS (o : List Nat) (s : Slab) : Slab := (o.idxOf s.1, s.2)
structure Ord (o : List Nat) (n : Nat) : Prop where
  perm : o.Perm (List.range n)
theorem Ord.len {o : List Nat} {n : Nat} (h : Ord o n) : o.length = n := by rw [h.perm.length_eq, List.length_range]
theorem Ord.nd {o : List Nat} {n : Nat} (h : Ord o n) : o.Nodup := h.perm.nodup_iff.mpr List.nodup_range
theorem Ord.mem {o : List Nat} {n j : Nat} (h : Ord o n) : j ∈ o ↔ j < n := by rw [h.perm.mem_iff, List.mem_range]
theorem Ord.idx {o : List Nat} {n j : Nat} (h : Ord o n) (hj : j < n) : o.idxOf j < n := by
  rw [← h.len]
  exact List.idxOf_lt_length_of_mem (h.mem.mpr hj)
theorem Ord.at_ {o : List Nat} {n j : Nat} (h : Ord o n) (hj : j < n) : o[o.idxOf j]? = some j := by
  have l := List.idxOf_lt_length_of_mem (h.mem.mpr hj)
  rw [List.getElem?_eq_getElem l, List.getElem_idxOf]
theorem Ord.get {o : List Nat} {n i : Nat} (h : Ord o n) (hi : i < n) : ∃ j, o[i]? = some j ∧ j < n ∧ o.idxOf j = i := by
  have l : i < o.length := by rw [h.len]; exact hi
  refine ⟨o[i], List.getElem?_eq_getElem l, h.mem.mp (List.getElem_mem l), ?_⟩
  exact h.nd.idxOf_getElem i l
section
variable {o : List Nat} {n : Nat} (h : Ord o n)
include h
theorem turn_len {l : List Int} : (turnL o l).length = n := by rw [turnL, List.length_map, h.len]
theorem turn_at {l : List Int} {i j : Nat} (e : o[i]? = some j) : (turnL o l).getD i 0 = l.getD j 0 := by
  rw [turnL, List.getD_eq_getElem?_getD, List.getElem?_map, e]
  rfl
theorem turn_set {l : List Int} {j : Nat} {v : Int} (hl : l.length = n) (hj : j < n) : turnL o (l.set j v) = (turnL o l).set (o.idxOf j) v := by
  refine List.ext_getElem? fun i => ?_
  by_cases hi : i < n
  · obtain ⟨t, e, ht, ei⟩ := h.get hi
    rw [List.getElem?_set, turnL, turnL, List.getElem?_map, e, List.length_map, h.len, List.getElem?_map, e]
    show some ((l.set j v).getD t 0) = _
    rw [getD_set (by omega)]
    by_cases z : j = t
    · rw [if_pos z, z, ei, if_pos rfl, if_pos hi]
    · rw [if_neg z, if_neg (fun q => z (by
        have := h.at_ hj
        rw [q, e] at this
        exact (Option.some.inj this).symm))]
      rfl
  · rw [List.getElem?_eq_none (by rw [turn_len h]; omega), List.getElem?_eq_none (by rw [List.length_set, turn_len h]; omega)]
theorem turn_adv {d : List Int} {s : Slab} (hd : d.length = n) (hs : s.1 < n) : adv (turnL o d) (turnS o s) = turnL o (adv d s) := by
  unfold adv
  rw [turn_set h hd hs]
  show (turnL o d).set (o.idxOf s.1) ((turnL o d).getD (o.idxOf s.1) 0 + s.2) = _
  rw [turn_at h (h.at_ hs)]
theorem turn_red {d : List Int} {s : Slab} (hd : d.length = n) (hs : s.1 < n) : red (turnL o d) (turnS o s) = turnL o (red d s) := by
  unfold red
  rw [turn_set h hd hs]
  show (turnL o d).set (o.idxOf s.1) ((turnL o d).getD (o.idxOf s.1) 0 - s.2) = _
  rw [turn_at h (h.at_ hs)]
theorem turn_ge {c d : List Int} (hc : c.length = n) (hd : d.length = n) : ge (turnL o c) (turnL o d) = ge c d := by
  have : ge (turnL o c) (turnL o d) = true ↔ ge c d = true := by
    rw [ge_iff (by rw [turn_len h, turn_len h]), ge_iff (by rw [hc, hd]), turn_len h, hd]
    constructor
    · intro g j hj
      have := g (o.idxOf j) (h.idx hj)
      rwa [turn_at h (h.at_ hj), turn_at h (h.at_ hj)] at this
    · intro g i hi
      obtain ⟨t, e, ht, _⟩ := h.get hi
      rw [turn_at h e, turn_at h e]
      exact g t ht
  cases q : ge c d with
  | true => exact this.mpr q
  | false =>
    cases p : ge (turnL o c) (turnL o d) with
    | true => rw [this.mp p] at q; cases q
    | false => rfl
theorem turn_hit {c d : List Int} {s : Slab} (hc : c.length = n) (hd : d.length = n) (hs : s.1 < n) : hit (turnL o d) (turnS o s) (turnL o c) = hit d s c := by
  unfold hit
  rw [turn_ge h hc hd]
  show (_ && decide ((turnL o c).getD (o.idxOf s.1) 0 < (turnL o d).getD (o.idxOf s.1) 0 + s.2)) = _
  rw [turn_at h (h.at_ hs), turn_at h (h.at_ hs)]
end
theorem turn_hits {o : List Nat} {n : Nat} (h : Ord o n) : ∀ {ss : List Slab} {c d : List Int} {k : Nat}, c.length = n → d.length = n → Fine n ss → hits (turnL o d) (ss.map (turnS o)) (turnL o c) k = hits d ss c k
  | [], _, _, _, _, _, _ => rfl
  | s :: ss, c, d, k, hc, hd, hf => by
    obtain ⟨a, b⟩ := hf s (by simp)
    rw [List.map_cons, hits, hits, turn_hit h hc hd a, turn_adv h hd a, turn_hits h (ss := ss) hc (by rw [adv_len, hd]) (fun t ht => hf t (by simp [ht]))]
theorem prod_perm {a b : List Int} (h : a.Perm b) : prod a = prod b := by
  induction h with
  | nil => rfl
  | cons x _ ih => rw [prod_cons, prod_cons, ih]
  | swap x y l => rw [prod_cons, prod_cons, prod_cons, prod_cons, ← Int.mul_assoc, ← Int.mul_assoc, Int.mul_comm y x]
  | trans _ _ h1 h2 => exact h1.trans h2
theorem range_self : ∀ (l : List Int), (List.range l.length).map (fun i => l.getD i 0) = l := fun l => by
  refine List.ext_getElem? fun i => ?_
  rw [List.getElem?_map]
  by_cases hi : i < l.length
  · rw [List.getElem?_range hi, List.getElem?_eq_getElem hi]
    simp [List.getD_eq_getElem?_getD, List.getElem?_eq_getElem hi]
  · rw [List.getElem?_eq_none (by simp; omega), List.getElem?_eq_none (by omega)]
    rfl
theorem turn_perm {o : List Nat} {n : Nat} (h : Ord o n) {l : List Int} (hl : l.length = n) : (turnL o l).Perm l := by
  have := h.perm.map fun i => l.getD i 0
  rw [← hl, range_self] at this
  exact this
theorem turn_mets {o : List Nat} {n : Nat} (h : Ord o n) : ∀ {ss : List Slab} {r : List Int}, r.length = n → Fine n ss → mets (turnL o r) (ss.map (turnS o)) = mets r ss
  | [], _, _, _ => rfl
  | s :: ss, r, hr, hf => by
    obtain ⟨a, b⟩ := hf s (by simp)
    rw [List.map_cons, mets, mets, turn_red h hr a, turn_mets h (ss := ss) (by rw [red_len, hr]) (fun t ht => hf t (by simp [ht]))]
    congr 1
    unfold cnt
    show s.2 * prod ((turnL o r).set (o.idxOf s.1) 1) = _
    rw [← turn_set h hr a, prod_perm (turn_perm h (by rw [List.length_set, hr]))]
theorem turn_lft {o : List Nat} {n : Nat} (h : Ord o n) : ∀ {ss : List Slab} {r : List Int}, r.length = n → Fine n ss → lft (turnL o r) (ss.map (turnS o)) = turnL o (lft r ss)
  | [], _, _, _ => rfl
  | s :: ss, r, hr, hf => by
    obtain ⟨a, b⟩ := hf s (by simp)
    rw [List.map_cons, lft, lft, turn_red h hr a, turn_lft h (ss := ss) (by rw [red_len, hr]) (fun t ht => hf t (by simp [ht]))]
theorem turn_leg {o : List Nat} {n : Nat} (h : Ord o n) : ∀ {ss : List Slab} {r : List Int}, r.length = n → Leg r ss → Leg (turnL o r) (ss.map (turnS o))
  | [], _, _, _ => trivial
  | s :: ss, r, hr, ⟨a, b, c, d, e⟩ => by
    have hs : s.1 < n := by omega
    refine ⟨fun m => a ((turn_perm h hr).mem_iff.mp m), by rw [turn_len h]; exact h.idx hs, c, ?_, ?_⟩
    · show s.2 ≤ (turnL o r).getD (o.idxOf s.1) 0
      rw [turn_at h (h.at_ hs)]
      exact d
    · rw [turn_red h hr hs]
      exact turn_leg h (ss := ss) (by rw [red_len, hr]) e
theorem turn_zero {o : List Nat} {n : Nat} (h : Ord o n) {l : List Int} (hl : l.length = n) : (0 : Int) ∈ turnL o l ↔ (0 : Int) ∈ l := (turn_perm h hl).mem_iff
theorem turn_zeros {o : List Nat} {n : Nat} (h : Ord o n) : turnL o (List.replicate n 0) = List.replicate n 0 := by
  refine List.ext_getElem? fun i => ?_
  by_cases hi : i < n
  · obtain ⟨t, e, ht, _⟩ := h.get hi
    rw [turnL, List.getElem?_map, e, List.getElem?_replicate, if_pos hi]
    show some ((List.replicate n (0 : Int)).getD t 0) = _
    rw [List.getD_eq_getElem?_getD, List.getElem?_replicate, if_pos ht]
    rfl
  · rw [List.getElem?_eq_none (by rw [turn_len h]; omega), List.getElem?_eq_none (by simp; omega)]
end Bx
end

section
set_option Elab.async false
set_option linter.all false
namespace Bx
/-! neighbours of one source put together -/
def jF (F : List Slab) (s : Slab) : List Slab := match F.getLast? with
  | some t => if t.1 = s.1 then F.dropLast ++ [(s.1, t.2 + s.2)] else F ++ [s]
  | none => F ++ [s]
def jP (F : List Slab) (s : Slab) : Nat := match F.getLast? with
  | some t => if t.1 = s.1 then F.length - 1 else F.length
  | none => F.length
def jnF (T : List Slab) : List Slab := T.foldl jF []
def jnP : List Slab → List Slab → List Nat
  | _, [] => []
  | F, s :: T => jP F s :: jnP (jF F s) T
theorem jnF_snoc {T : List Slab} {s : Slab} : jnF (T ++ [s]) = jF (jnF T) s := by
  unfold jnF
  rw [List.foldl_append]
  rfl
theorem jnP_snoc : ∀ {T F : List Slab} {s : Slab}, jnP F (T ++ [s]) = jnP F T ++ [jP (T.foldl jF F) s]
  | [], _, _ => rfl
  | t :: T, F, s => by
    rw [List.cons_append, jnP, jnP, jnP_snoc]
    rfl
theorem jnP_len : ∀ {T F : List Slab}, (jnP F T).length = T.length
  | [], _ => rfl
  | t :: T, F => by rw [jnP, List.length_cons, List.length_cons, jnP_len]
def accL (C : List Int) (l : List (Nat × Int)) : List Int := l.foldl (fun C p => C.set p.1 (C.getD p.1 0 + p.2)) C
theorem accL_snoc {C : List Int} {l : List (Nat × Int)} {p : Nat × Int} : accL C (l ++ [p]) = (accL C l).set p.1 ((accL C l).getD p.1 0 + p.2) := by
  unfold accL
  rw [List.foldl_append]
  rfl
theorem accL_len {C : List Int} {l : List (Nat × Int)} : (accL C l).length = C.length := by
  induction l generalizing C with
  | nil => rfl
  | cons p l ih =>
    show (accL (C.set p.1 _) l).length = _
    rw [ih, List.length_set]
structure JI (z : List Int) (T F : List Slab) (P : List Nat) : Prop where
  leg : Leg z F
  lf : lft z F = lft z T
  dn : dn (List.replicate z.length 0) F = dn (List.replicate z.length 0) T
  len : P.length = T.length
  low : ∀ (j p : Nat), P[j]? = some p → p < F.length
  mem : ∀ (c : List Int) (j p : Nat), c.length = z.length → j ∈ hits (List.replicate z.length 0) T c 0 → P[j]? = some p → p ∈ hits (List.replicate z.length 0) F c 0
  acc : ∀ N, F.length ≤ N → accL (List.replicate N 0) (P.zip (mets z T)) = mets z F ++ List.replicate (N - F.length) 0
  few : F.length ≤ T.length
theorem hits_low {A : List Slab} : ∀ {d c : List Int} {p i : Nat}, i ∈ hits d A c p → p ≤ i ∧ i < p + A.length := by
  induction A with
  | nil => exact fun h => nomatch h
  | cons s A ih =>
    intro d c p i h
    rw [hits] at h
    rw [List.length_cons]
    split at h
    · rcases List.mem_cons.mp h with h | h
      · omega
      · have := ih h
        omega
    · have := ih h
      omega
theorem set_mid (A : List Int) (x v : Int) (B : List Int) : (A ++ x :: B).set A.length v = A ++ v :: B := by
  rw [List.set_append_right _ _ (Nat.le_refl _), Nat.sub_self, List.set_cons_zero]
theorem getD_mid (A : List Int) (x : Int) (B : List Int) : (A ++ x :: B).getD A.length 0 = x := by
  simp [List.getD_eq_getElem?_getD]
theorem nth_snoc {P : List Nat} {x j p : Nat} (h : (P ++ [x])[j]? = some p) : (j < P.length ∧ P[j]? = some p) ∨ (j = P.length ∧ p = x) := by
  rw [List.getElem?_append] at h
  split at h
  · rename_i l
    exact .inl ⟨l, h⟩
  · rename_i l
    have : j - P.length = 0 := by
      cases e : j - P.length with
      | zero => rfl
      | succ n => rw [e] at h; simp at h
    rw [this] at h
    exact .inr ⟨by omega, (Option.some.inj h).symm⟩
theorem ji_nil (z : List Int) : JI z [] [] [] := by
  refine ⟨trivial, rfl, rfl, rfl, fun j p h => by simp at h, fun c j p _ h => (nomatch h), fun N _ => ?_, Nat.le_refl _⟩
  show List.replicate N (0 : Int) = List.replicate (N - 0) 0
  rw [Nat.sub_zero]
theorem ji_step {z : List Int} {T F : List Slab} {P : List Nat} {s : Slab} (J : JI z T F P) (hL : Leg z (T ++ [s])) : JI z (T ++ [s]) (jF F s) (P ++ [jP F s]) := by
  obtain ⟨k, m⟩ := s
  obtain ⟨hT, n0, kl, m0, mr, _⟩ := leg_app.mp hL
  have kl : k < (lft z T).length := kl
  have kz : k < z.length := by rwa [lft_len] at kl
  have hFs : Leg z (F ++ [(k, m)]) := by
    rw [leg_app, J.lf]
    exact ⟨J.leg, n0, kl, m0, mr, trivial⟩
  have zipS : ∀ q, (P ++ [q]).zip (mets z (T ++ [(k, m)])) = P.zip (mets z T) ++ [(q, cnt (lft z T) (k, m))] := fun q => by
    rw [mets_snoc, List.zip_append (by rw [J.len, mets_len])]
    rfl
  have app : jF F (k, m) = F ++ [(k, m)] → jP F (k, m) = F.length → JI z (T ++ [(k, m)]) (jF F (k, m)) (P ++ [jP F (k, m)]) := fun e1 e2 => by
    rw [e1, e2]
    refine ⟨hFs, by rw [lft_snoc, lft_snoc, J.lf], by rw [dn_snoc, dn_snoc, J.dn], by simp [J.len], fun j p h => ?_, fun c j p hc hj h => ?_, fun N hN => ?_, by simp [J.few]⟩
    · rw [List.length_append]
      rcases nth_snoc h with ⟨_, h⟩ | ⟨_, h⟩
      · have := J.low j p h
        omega
      · simp [h]
    · rw [hits_snoc] at hj ⊢
      rw [J.dn]
      rcases List.mem_append.mp hj with hj | hj
      · have b := (hits_low hj).2
        rcases nth_snoc h with ⟨_, h⟩ | ⟨h, _⟩
        · exact List.mem_append_left _ (J.mem c j p hc hj h)
        · have := J.len
          omega
      · split at hj
        · rename_i hh
          have ej := List.mem_singleton.mp hj
          rcases nth_snoc h with ⟨h, _⟩ | ⟨_, h⟩
          · have := J.len
            omega
          · refine List.mem_append_right _ ?_
            rw [if_pos hh, h, Nat.zero_add]
            exact List.mem_singleton.mpr rfl
        · exact nomatch hj
    · rw [List.length_append, List.length_singleton] at hN
      have a := J.acc N (by omega)
      have e : N - F.length = (N - (F.length + 1)) + 1 := by omega
      rw [e, List.replicate_succ] at a
      have lm : (mets z F).length = F.length := mets_len
      rw [zipS, accL_snoc, a]
      show (mets z F ++ 0 :: List.replicate (N - (F.length + 1)) 0).set F.length ((mets z F ++ 0 :: List.replicate (N - (F.length + 1)) 0).getD F.length 0 + cnt (lft z T) (k, m)) = _
      rw [← lm, set_mid, getD_mid, Int.zero_add, mets_snoc, J.lf, lm, List.length_append, List.length_singleton, List.append_assoc]
      rfl
  cases hg : F.getLast? with
  | none => exact app (by unfold jF; rw [hg]) (by unfold jP; rw [hg])
  | some t =>
    by_cases e : t.1 = k
    · obtain ⟨k2, x⟩ := t
      have e : k2 = k := e
      subst e
      have e1 : jF F (k2, m) = F.dropLast ++ [(k2, x + m)] := by
        unfold jF
        rw [hg]
        show (if k2 = k2 then _ else _) = _
        rw [if_pos rfl]
      have e2 : jP F (k2, m) = F.length - 1 := by
        unfold jP
        rw [hg]
        show (if k2 = k2 then _ else _) = _
        rw [if_pos rfl]
      rw [e1, e2]
      have hF : F = F.dropLast ++ [(k2, x)] := by
        have ne : F ≠ [] := fun q => by rw [q] at hg; cases hg
        have : F.getLast ne = (k2, x) := by
          rw [List.getLast?_eq_some_getLast ne] at hg
          exact Option.some.inj hg
        rw [← this, List.dropLast_concat_getLast ne]
      generalize F.dropLast = G at hF
      have lG : F.length - 1 = G.length := by rw [hF]; simp
      rw [lG]
      have kG : k2 < (lft z G).length := by rw [lft_len]; exact kz
      have kD : k2 < (Bx.dn (List.replicate z.length 0) G).length := by rw [dn_len, List.length_replicate]; exact kz
      have hx : 1 ≤ x := by
        have := J.leg
        rw [hF, leg_app] at this
        exact this.2.2.2.1
      have lf := J.lf
      have ldn := J.dn
      rw [hF, lft_snoc] at lf
      rw [hF, dn_snoc] at ldn
      refine ⟨?_, ?_, ?_, by simp [J.len], fun j p h => ?_, fun c j p hc hj h => ?_, fun N hN => ?_, ?_⟩
      · rw [hF, List.append_assoc] at hFs
        rw [leg_app] at hFs ⊢
        exact ⟨hFs.1, leg_join hx m0 hFs.2⟩
      · rw [lft_snoc, lft_snoc, ← lf, red_two kG]
      · rw [dn_snoc, dn_snoc, ← ldn, adv_two kD]
      · rw [List.length_append, List.length_singleton]
        rcases nth_snoc h with ⟨_, h⟩ | ⟨_, h⟩
        · have := J.low j p h
          rw [hF] at this
          simpa using this
        · omega
      · have two := hit_two (c := c) (d := Bx.dn (List.replicate z.length 0) G) (k := k2) (by rw [dn_len, List.length_replicate, hc]) kD hx m0
        rw [hits_snoc] at hj ⊢
        rcases List.mem_append.mp hj with hj | hj
        · have b := (hits_low hj).2
          rcases nth_snoc h with ⟨_, h⟩ | ⟨h, _⟩
          · have := J.mem c j p hc hj h
            rw [hF, hits_snoc] at this
            rcases List.mem_append.mp this with q | q
            · exact List.mem_append_left _ q
            · split at q
              · rename_i hh
                refine List.mem_append_right _ ?_
                rw [if_pos (two.mpr (.inl hh))]
                exact q
              · exact nomatch q
          · have := J.len
            omega
        · split at hj
          · rename_i hh
            rw [← ldn] at hh
            have ej := List.mem_singleton.mp hj
            rcases nth_snoc h with ⟨h, _⟩ | ⟨_, h⟩
            · have := J.len
              omega
            · refine List.mem_append_right _ ?_
              rw [if_pos (two.mpr (.inr hh)), h, Nat.zero_add]
              exact List.mem_singleton.mpr rfl
          · exact nomatch hj
      · rw [List.length_append, List.length_singleton] at hN
        have a := J.acc N (by rw [hF]; simpa using hN)
        have lm : (mets z G).length = G.length := mets_len
        rw [hF, mets_snoc, List.append_assoc] at a
        have a : accL (List.replicate N 0) (P.zip (mets z T)) = mets z G ++ cnt (lft z G) (k2, x) :: List.replicate (N - (G ++ [(k2, x)]).length) 0 := a
        rw [zipS, accL_snoc, a]
        show (mets z G ++ cnt (lft z G) (k2, x) :: _).set G.length ((mets z G ++ cnt (lft z G) (k2, x) :: _).getD G.length 0 + cnt (lft z T) (k2, m)) = _
        rw [← lm, set_mid, getD_mid, ← lf, cnt_two, mets_snoc, List.append_assoc, List.length_append, List.length_append]
        rfl
      · have := J.few
        rw [hF] at this
        simp only [List.length_append, List.length_singleton] at this ⊢
        omega
    · exact app (by unfold jF; rw [hg]; exact if_neg e) (by unfold jP; rw [hg]; exact if_neg e)
theorem ji_take {z : List Int} {ss : List Slab} (hL : Leg z ss) : ∀ i, i ≤ ss.length → JI z (ss.take i) (jnF (ss.take i)) (jnP [] (ss.take i))
  | 0, _ => by
    rw [List.take_zero]
    exact ji_nil z
  | i + 1, h => by
    have e : ss[i]? = some ss[i] := List.getElem?_eq_getElem h
    have t : ss.take (i + 1) = ss.take i ++ [ss[i]] := by rw [List.take_add_one, e]; rfl
    rw [t, jnF_snoc, jnP_snoc]
    refine ji_step (ji_take hL i (by omega)) ?_
    rw [← t]
    have := hL
    rw [← List.take_append_drop (i + 1) ss, leg_app] at this
    exact this.1
theorem ji_all {z : List Int} {ss : List Slab} (hL : Leg z ss) : JI z ss (jnF ss) (jnP [] ss) := by
  have := ji_take hL ss.length (Nat.le_refl _)
  rwa [List.take_length] at this
end Bx
end

section
set_option Elab.async false
set_option linter.all false
set_option maxRecDepth 100000
/-! Methods within a comprehension: what is done may not name the comprehension's own frame. -/
namespace Gd
open PySem PySem.Spec PyProof.Rows L2
section
variable {X : Cx} {o e : Expr} {es : List Expr} {to : TE} {t : TA} {name : Str} {apos cpos : Pos} {T id : String} {r : V → List V → Hp → VK → Prop} {K : PySem.W.Frag}
theorem pe_bmK (K : PySem.W.Frag) (r : V → List V → Hp → VK → Prop) (pa : PlainAttrs T) (slot : Slot T name id) (hty : typeOf (.builtin id) = pure (.type "method_descriptor")) (hm : MtR X id r) (ho : PE X o to) (ha : PA X (e :: es) t) (hK : X.K = K := by rfl)
    (hbase : attributeBase o name X.env (eval o X.env) = eval o X.env := by rfl)
    (hfew : ((backTo cpos (starEach (e :: es) X.env)).all (fun x => !x.1) && (backToKw cpos (keywordEach [] X.env)).all (fun x => x.1.isSome)
      && decide ((e :: es).length + ([] : List Keyword).length + (if ([] : List Keyword).isEmpty then 0 else 1) < 30)) = true := by rfl)
    (hline : (apos.endLine == cpos.line) = true := by rfl) (hs : starEach (e :: es) X.env = (false, eval e X.env) :: starEach es X.env := by rfl) (hplain : (backTo cpos (starEach es X.env)).any (·.1) = false := by rfl) :
    PE X (.Call (.Attribute o name apos) (e :: es) [] cpos) (tBM K T r to t) := by
  subst hK
  exact pe_bm pa slot hty hm ho ha hbase hfew hline hs hplain
theorem pe_tupleOfK (K : PySem.W.Frag) {a : Expr} {ta : TE} {p pos : Pos} (hg : Gl X "tuple") (hm : X.mg "tuple" = none) (ha : PE X a ta) (hK : X.K = K := by rfl) (na : starEach [a] X.env = (false, eval a X.env) :: starEach [] X.env := by rfl) :
    PE X (.Call (.Name "tuple" p) [a] [] pos) (tThen ta (kTup K)) := by
  subst hK
  exact pe_tupleOf hg hm ha na
theorem call_lenK (K : PySem.W.Frag) (hK : X.K = K := by rfl) : CallR X (.builtin "len") (fun xs H Q => ∃ p ys, xs = [V.ref p] ∧ (SqL K H p ys ∨ SqT K H p ys) ∧ Q (.int ys.length) H) := by
  subst hK
  exact call_len_seq
end
end Gd
end

section
set_option Elab.async false
set_option linter.all false
set_option maxRecDepth 100000
set_option maxHeartbeats 4000000
namespace K27
open PySem PySem.Spec PyProof.Rows L2 Gd
def topS (i : Nat) : Stmt := PySem.Challenge.pw_plansamid_k27_whole_turned_parted_put_to.main.body.getD i (.Pass ⟨0, 0, 0, 0⟩)
abbrev sFeed : Stmt := topS 8
abbrev sTake : Stmt := topS 9
theorem scFeed : FnScope ["_law_script", "_law_k", "_law_cell", "_law_great"] ["_law_script", "_law_k"] (defScope sFeed) :=
  ⟨rfl, rfl, rfl, by decide +kernel, rfl, by decide +kernel, by decide +kernel⟩
theorem scTake : FnScope ["_law_feed_here", "_law_many", "_law_digit", "_law_drawn_here", "_law_mixed"] ["_law_feed_here", "_law_many"] (defScope sTake) :=
  ⟨rfl, rfl, rfl, by decide +kernel, rfl, by decide +kernel, by decide +kernel⟩
section
variable {P : Program} {w : World} {K : PySem.W.Frag} {mg : Str → Option Value} {base : Heap} {f : Addr} {fd : FuncData}
theorem ok_take (F : Fun K "_law_take" "_law_take" sTake f fd) : FnOk P w K mg base CX0 1 f fd ["_law_feed_here", "_law_many"] spTake := by
  refine F.ok scTake (fun vs H Q E h => ?_) (fun cdv A outer s H vs Q E hr h => ?_)
  · obtain ⟨p, m, S, rfl, _⟩ := h
    rfl
  obtain ⟨p, m, S, rfl, ⟨g, x, n, ep, n0, nS⟩, m0, m1, hS, q⟩ := h
  have nd := scTake.nd
  refine ⟨_, pss_cons (ps_if (pt_cmpR op_gt (pe_ix ix_list (pv 0) pe_int (fun _ _ => rfl)) pe_int (nomark _))
      (pss_cons (ps_set (i := 2) nd rfl (.inl rfl) (pe_op op_modN (pe_ix ix_list (pv 0) pe_int (fun _ _ => rfl)) (pv 1)))
      (pss_cons (ps_asg (pe_op op_fdivN (pe_ix ix_list (pv 0) pe_int (fun _ _ => rfl)) (pv 1)) (pg_sub (pv 0) pe_int set_list))
      (pss_one (ps_ret (pv 2))))) pss_nil)
    (pss_cons (ps_set (i := 3) nd rfl (.inl rfl) (pe_op op_add (pe_ix ix_list (pv 0) pe_int (fun _ _ => rfl)) pe_int))
    (pss_cons (ps_asg (pv 3) (pg_sub (pv 0) pe_int set_list))
    (pss_cons (ps_set (i := 4) nd rfl (.inl rfl) (pe_op op_modN (pe_op op_add (pe_op op_add (pe_ix ix_list (pv 0) pe_int (fun _ _ => rfl))
        (pe_op op_mul (pe_op op_mul pe_int (pv 3)) (pv 3))) (pe_op op_mul pe_int (pv 3))) pe_int))
    (pss_cons (ps_set (i := 4) nd rfl (.inl rfl) (pe_op op_modN (pe_op op_add (pe_op op_add (pe_op op_mul (pv 4) (pv 4))
        (pe_op op_mul pe_int (pv 4))) (pv 3)) pe_int))
    (pss_cons (ps_set (i := 4) nd rfl (.inl rfl) (pe_op op_modN (pe_op op_add (pe_op op_mul (pv 4) (pv 4)) (pe_op op_mul pe_int (pv 4))) pe_int))
    (pss_one (ps_ret (pe_op op_modN (pe_op op_fdivN (pv 4) pe_int) (pv 1))))))))), ?_⟩
  have L : SqL K H p [.int g, .int x, .int n] := SqL.of ep
  refine ⟨_, rfl, p, _, 0, .int g, rfl, rfl, L, atI_nat (j := 0) rfl, g, 0, rfl, rfl, _, rfl, ite2 (fun c => ?_) (fun c => ?_)⟩
  · refine ⟨_, rfl, p, _, 0, .int g, rfl, rfl, L, atI_nat (j := 0) rfl, _, rfl, g, m, rfl, rfl, by omega, ?_⟩
    refine ⟨_, rfl, p, _, 0, .int g, rfl, rfl, L, atI_nat (j := 0) rfl, _, rfl, g, m, rfl, rfl, ⟨by omega, by omega⟩, ?_⟩
    refine ⟨_, rfl, p, _, 0, 0, rfl, rfl, ep, rfl, ?_⟩
    refine ⟨_, rfl, ?_⟩
    obtain ⟨r0, r1⟩ := fmod_in g m0
    exact q _ _ r0 r1 (Feed.here (by omega) (by omega)) .at
  · refine ⟨_, rfl, p, _, 2, .int n, rfl, rfl, L, atI_nat (j := 2) rfl, n, 1, rfl, rfl, ?_⟩
    refine ⟨_, rfl, _, rfl, p, _, 2, 2, rfl, rfl, ep, rfl, ?_⟩
    have L2 : SqL K (upd H p (.lst [.int g, .int x, .int (n + 1)])) p [.int g, .int x, .int (n + 1)] := SqL.of upd_same
    refine ⟨_, rfl, p, _, 1, .int x, rfl, rfl, L2, atI_nat (j := 1) rfl, _, rfl, _, _, rfl, rfl, .inl ⟨by omega, by omega⟩, _, rfl, _, _, rfl, rfl, .inr ⟨by omega, by omega⟩, _, _, rfl, rfl,
      _, rfl, _, _, rfl, rfl, .inl ⟨by omega, by omega⟩, _, _, rfl, rfl, _, _, rfl, rfl, by omega, ?_⟩
    obtain ⟨a0, a1⟩ := fmod_in (x + 50021 * (n + 1) * (n + 1) + 39119 * (n + 1)) (b := 2147483629) (by omega)
    dsimp only
    generalize (x + 50021 * (n + 1) * (n + 1) + 39119 * (n + 1)).fmod 2147483629 = m1 at a0 a1 ⊢
    refine ⟨_, rfl, _, rfl, m1, m1, rfl, rfl, .inl ⟨by omega, by omega⟩, _, rfl, _, m1, rfl, rfl, .inl ⟨by omega, by omega⟩, _, _, rfl, rfl, _, rfl, _, _, rfl, rfl, _, _, rfl, rfl, by omega, ?_⟩
    obtain ⟨b0, b1⟩ := fmod_in (m1 * m1 + 62089 * m1 + (n + 1)) (b := 2147483587) (by omega)
    dsimp only
    generalize (m1 * m1 + 62089 * m1 + (n + 1)).fmod 2147483587 = m2 at b0 b1 ⊢
    refine ⟨_, rfl, _, rfl, m2, m2, rfl, rfl, .inl ⟨by omega, by omega⟩, _, rfl, _, m2, rfl, rfl, .inl ⟨by omega, by omega⟩, _, _, rfl, rfl, _, _, rfl, rfl, by omega, ?_⟩
    obtain ⟨c0, c1⟩ := fmod_in (m2 * m2 + 24593 * m2) (b := 2147483563) (by omega)
    dsimp only
    generalize (m2 * m2 + 24593 * m2).fmod 2147483563 = m3 at c0 c1 ⊢
    refine ⟨_, rfl, m3, 64, rfl, rfl, ⟨by omega, by omega⟩, _, rfl, _, m, rfl, rfl, by omega, ?_⟩
    obtain ⟨d0, d1⟩ := fmod_in (m3.fdiv 64) m0
    exact q _ _ d0 d1 (Feed.here (by omega) (by omega)) .at

/-- the seed of turn k -/
def spFeed (K : PySem.W.Frag) : Sp := fun vs H Q _ => ∃ (a : Addr) (ns : List Int) (k : Int), vs = [.ref a, .int k] ∧ SqL K H a (ns.map V.int) ∧
  0 ≤ k ∧ k ≤ 1000 ∧ ∀ (p : Addr) (fs : List V), H p = none → Feed (upd H p (.lst fs)) p 0 → Q (.ref p) (upd H p (.lst fs))
theorem ok_feed (F : Fun K "_law_feed" "_law_feed" sFeed f fd) (ml : mg "len" = none) (ma : mg "abs" = none) :
    FnOk P w K mg base CX0 1 f fd ["_law_script", "_law_k"] (spFeed K) := by
  refine F.ok scFeed (fun vs H Q E h => ?_) (fun cdv A outer s H vs Q E hr h => ?_)
  · obtain ⟨a, ns, k, rfl, _⟩ := h
    rfl
  obtain ⟨a, ns, k, rfl, hS, k0, k1, q⟩ := h
  have nd := scFeed.nd
  refine ⟨_, pss_cons (ps_set (i := 2) nd rfl (.inl rfl) pe_int)
    (C8.pss_cut (ps_if (pt_cmpR op_lt (pv 1) (pe_callB call_len_seq (by rfl) ml PySem.boot_len (pa_cons (pv 0) pa_nil)) (nomark _))
      (pss_one (ps_set (i := 2) nd rfl (.inl rfl) (pe_ix ix_list (pv 0) (pv 1) (fun _ _ => rfl)))) pss_nil)
    (pss_cons (ps_set (i := 3) nd rfl (.inl rfl) (pe_callB call_abs (by rfl) ma (by decide +kernel) (pa_cons (pv 2) pa_nil)))
    (C8.pss_cut (ps_if (pt_cmpR op_lt (pv 3) (pe_op op_pow pe_int pe_int) (nomark _))
      (pss_one (ps_set (i := 3) nd rfl (.inl rfl) pe_int)) pss_nil)
    (pss_one (ps_ret (pe_lst (pa_cons (pv 3) (pa_cons (pe_op op_modN (pe_op op_add (pe_op op_add (pe_op op_mul (pe_op op_modN (pv 2) pe_int) pe_int)
        (pe_op op_mul pe_int (pv 1))) pe_int) pe_int) (pa_cons pe_int pa_nil))))))))), ?_⟩
  refine ⟨fun σ' H' => H' = H ∧ ∃ c : Int, σ' = [some (.ref a), some (.int k), some (.int c), none], ?_, ?_⟩
  · refine ⟨_, rfl, _, rfl, a, _, rfl, .inl hS, _, _, rfl, rfl, _, rfl, ite2 (fun e => ?_) (fun e => ?_)⟩
    · have e' : k < ((ns.map V.int).length : Int) := of_decide_eq_true e
      rw [List.length_map] at e'
      have h2 : k.toNat < ns.length := by omega
      have g : atI (ns.map V.int) ((k.toNat : Nat) : Int) = some (.int ns[k.toNat]) :=
        atI_nat (by rw [List.getElem?_map, List.getElem?_eq_getElem h2] <;> rfl)
      rw [show ((k.toNat : Nat) : Int) = k by omega] at g
      exact ⟨_, rfl, _, rfl, a, _, k, _, rfl, rfl, hS, g, rfl, _, rfl⟩
    · exact ⟨rfl, _, rfl⟩
  rintro σ' H' ⟨rfl, c, rfl⟩
  refine ⟨_, rfl, c, rfl, ?_⟩
  refine ⟨fun σ' H2 => H2 = H' ∧ ∃ b : Int, σ' = [some (.ref a), some (.int k), some (.int c), some (.int b)], ?_, ?_⟩
  · refine ⟨_, rfl, 10, 18, rfl, rfl, ⟨by decide, by decide, by decide⟩, _, _, rfl, rfl, _, rfl, ite2 (fun e => ?_) (fun e => ?_)⟩
    · exact ⟨rfl, _, rfl⟩
    · exact ⟨rfl, _, rfl⟩
  rintro σ' H2 ⟨rfl, b, rfl⟩
  obtain ⟨a0, a1⟩ := fmod_in c (b := 2147483497) (by omega)
  refine ⟨_, rfl, _, rfl, c, _, rfl, rfl, by omega, _, _, rfl, rfl, .inl ⟨by omega, by omega⟩, _, rfl, _, k, rfl, rfl, .inl ⟨by omega, by omega⟩, _, _, rfl, rfl,
    _, _, rfl, rfl, _, _, rfl, rfl, by omega, (by show 3 ≤ sizeLine; decide), fun p hp => ?_⟩
  exact q p _ hp (Feed.here (by omega) (by omega))
end
end K27
end

section
set_option Elab.async false
set_option linter.all false
set_option maxRecDepth 100000
set_option maxHeartbeats 4000000
namespace K27
open PySem PySem.Spec PyProof.Rows L2 Gd Bx
abbrev sIsW : Stmt := topS 1
abbrev sWh : Stmt := topS 3
abbrev sIsSl : Stmt := topS 4
abbrev sOf : Stmt := topS 5
abbrev sMet : Stmt := topS 6
theorem lft_take {ss : List Slab} {r : List Int} {i : Nat} {s : Slab} (h : ss[i]? = some s) : lft r (ss.take (i + 1)) = red (lft r (ss.take i)) s := by
  rw [take_at h, lft_snoc]
theorem fine_at {n : Nat} {ss : List Slab} {i : Nat} {s : Slab} (f : Fine n ss) (h : ss[i]? = some s) : s.1 < n ∧ 1 ≤ s.2 := f s (List.mem_of_getElem? h)
section
variable {P : Program} {w : World} {K : PySem.W.Frag} {mg : Str → Option Value} {base : Heap} {f : Addr} {fd : FuncData}
/-! slab_of -/
theorem walk_TL {a b : Addr} {xs ys : List V} {n : Nat} (hx : xs.length = n) (hy : ys.length = n) :
    Walk (ItTL K a b) n (fun H => SqT K H a xs ∧ SqL K H b ys) (YPair (fun i => xs[i]?) (fun i => ys[i]?)) := by
  subst hx
  refine ⟨fun i _ hi q => ?_, fun _ q => ⟨xs, ys, q.1, q.2, hy, rfl⟩, fun i H v H' _ q y => ?_⟩
  · have h2 : i < ys.length := by omega
    exact ⟨xs, ys, xs[i], ys[i], q.1, q.2, List.getElem?_eq_getElem hi, List.getElem?_eq_getElem h2⟩
  · obtain ⟨T, x, z, h1, h2, h3, h4, h5⟩ := y
    exact ⟨T, x, z, h1, h2, h3, h4 xs q.1, h5 ys q.2⟩
def oi : Option Nat → V
  | none => .non
  | some k => .int (k : Nat)
def spOf (K : PySem.W.Frag) : Sp := fun vs H Q _ => ∃ (b t : Addr) (c : List Int) (ss : List Slab), vs = [.ref b, .ref t] ∧ SlabsAt K H b ss ∧ SqT K H t (c.map V.int) ∧ Fine c.length ss ∧ c.length ≤ 100 ∧
  ∀ H', Same H H' → Q (oi (slabOf (List.replicate c.length 0) ss c 0)) H'
theorem slabOf_step {ss : List Slab} {i : Nat} {s : Slab} {d c : List Int} (h : ss[i]? = some s) :
    slabOf d (ss.drop i) c i = if hit d s c then some i else slabOf (adv d s) (ss.drop (i + 1)) c (i + 1) := by
  have lt := at_lt h
  have e : ss[i] = s := by
    rw [List.getElem?_eq_getElem lt] at h
    exact Option.some.inj h
  rw [List.drop_eq_getElem_cons lt, e]
  unfold slabOf
  rw [hits]
  split <;> rfl
def sign (p : Int × Int) : Bool := decide (p.2 ≤ p.1)
theorem zip_at {c d : List Int} {i : Nat} (hc : i < c.length) (hd : i < d.length) : (c.zip d)[i]? = some (c.getD i 0, d.getD i 0) := by
  rw [List.getElem?_zip_eq_some]
  exact ⟨getD_at hc, getD_at hd⟩
abbrev nOf : List Str := ["slabs", "positions", "done", "number", "source", "many", "yet", "position", "first"]
theorem scOf : FnScope nOf ["slabs", "positions"] (defScope sOf) :=
  ⟨rfl, rfl, rfl, by decide +kernel, rfl, by decide +kernel, by decide +kernel⟩
theorem ok_of (F : Fun K "slab_of" "slab_of" sOf f fd) (me : mg "enumerate" = none) (ma : mg "all" = none) (mz : mg "zip" = none) : FnOk P w K mg base CX0 1 f fd ["slabs", "positions"] (spOf K) := by
  refine F.ok scOf (fun vs H Q E h => ?_) (fun cdv A outer s H vs Q E hr h => ?_)
  · obtain ⟨a, b, r, ss, rfl, _⟩ := h
    rfl
  obtain ⟨b, t, c, ss, rfl, hb, ht, hf, hc, q⟩ := h
  have nd := scOf.nd
  have zl : sizeLine = 16777216 := rfl
  refine ⟨_, pss_cons (ps_setLc (i := 2) (own := [("position", 7)]) (g := gName 7) (tt := tYes) rfl nd rfl rfl (by rfl) (pi_tup (pv 1)) (blkOk_by (N := nOf) (sc := defScope sOf) (by decide +kernel))
        (fun _ _ _ _ _ => pg_name (i := 7) nd rfl (Or.inl rfl)) (fun _ _ _ _ _ => pts_nil) (fun _ _ _ _ _ => pe_int))
    (pss_cons (ps_for PassesOwn.never rfl (pi_enum (by rfl) me (pa_cons (pv 0) pa_nil))
        (pg_tup rfl (pgs_cons (pg_name (i := 3) nd rfl (.inl rfl)) (pgs_cons (pg_tup rfl (pgs_cons (pg_name (i := 4) nd rfl (.inl rfl)) (pgs_cons (pg_name (i := 5) nd rfl (.inl rfl)) pgs_nil))) pgs_nil)))
      (pss_cons (ps_set (i := 6) nd rfl (.inl rfl) (pe_callB (cr_all rfl) (by rfl) ma (by decide +kernel) (pa_cons
          (pe_lc (own := [("position", 7), ("first", 8)]) (g := gTup K 2 (gCons (gName 7) (gCons (gName 8) gNil))) (tt := tYes) rfl nd (pi_TL (by rfl) mz (pa_cons (pv 1) (pa_cons (pv 2) pa_nil))) (blkOk_by (N := nOf) (sc := defScope sOf) (by decide +kernel))
            (fun _ _ _ _ _ => by exact pg_tup rfl (pgs_cons (pg_name (i := 7) nd rfl (Or.inl rfl)) (pgs_cons (pg_name (i := 8) nd rfl (Or.inl rfl)) pgs_nil)))
            (fun _ _ _ _ _ => pts_nil) (fun _ _ _ _ _ => pe_cmpR op_ge (pv 7) (pv 8) (nomark _))) pa_nil)))
      (pss_cons (ps_augS (pv 2) (pv 4) get_list (pv 5) ip_add set_list)
      (pss_one (ps_if (PW.pt (pw_and (pt_val (pv 6)) (pw_and1 (pt_cmpR op_lt (pe_ix ix_tup (pv 1) (pv 4) (fun _ _ => rfl)) (pe_ix ix_list (pv 2) (pv 4) (fun _ _ => rfl)) (nomark _)))))
        (pss_one (ps_ret (pv 3))) pss_nil)))))
    (pss_one (ps_ret pe_non))), ?_⟩
  refine ⟨_, rfl, t, rfl, ⟨_, ht⟩, fun l nl => ?_⟩
  refine lc_it walk_tup (fun i H1 => Same H H1 ∧ H1 l = some (.lst ((List.replicate i (0 : Int)).map V.int))) ⟨new_same nl, upd_same⟩ (fun i H1 _ h => same_tup h.1 ht) ?_ ?_
  · rintro i x H1 H2 hi ⟨s1, el⟩ ⟨rfl, ex⟩
    refine ⟨rfl, ?_⟩
    refine ⟨_, el, by rw [List.length_map] at hi; rw [List.length_map, List.length_replicate]; omega, own_same nl s1, ?_⟩
    rw [upd_same, List.replicate_succ', List.map_append]
    rfl
  rintro H1 ⟨s1, el⟩
  rw [List.length_map] at el
  obtain ⟨bs, hbs, lb, tb⟩ := hb
  refine ⟨_, rfl, b, _, rfl, s1.seq hbs, ?_⟩
  refine for_it walk_enum (fun i σ H2 => Same H H2 ∧ (∃ d : List Int, H2 l = some (.lst (d.map V.int)) ∧ d.length = c.length ∧ slabOf (List.replicate c.length 0) ss c 0 = slabOf d (ss.drop i) c i) ∧
      ∃ y3 y4 y5 y6 y7 y8, σ = [some (.ref b), some (.ref t), some (.ref l), y3, y4, y5, y6, y7, y8])
    ⟨s1, ⟨_, el, List.length_replicate, rfl⟩, none, none, none, none, none, none, rfl⟩ (fun i σ H2 _ h => h.1.seq hbs) ?_ ?_
  · rintro i x σ H2 H3 hi ⟨s2, ⟨d, ed, ld, hd⟩, y3, y4, y5, y6, y7, y8, rfl⟩ ⟨T, x1, x2, rfl, nT, rfl, ei, ex⟩
    cases ei
    obtain ⟨b1, e1, rfl⟩ := map_at ex
    obtain ⟨u, eu⟩ := at_of lb.symm (at_lt e1)
    obtain ⟨u1, u2⟩ := fine_at hf eu
    have j3 := new_same (o := .tup [.int ((i : Nat) : Int), .ref b1]) nT
    have s3 := s2.trans j3
    have tt := same_tup s3 (tb i b1 u e1 eu)
    refine ⟨T, _, rfl, SqT.of upd_same, rfl, _, _, rfl, _, _, rfl, ⟨b1, _, rfl, tt, rfl, _, _, rfl, _, _, rfl, rfl, ?_⟩⟩
    have ed3 := j3 _ _ ed
    refine ⟨rfl, ?_⟩
    generalize upd H2 T (.tup [.int ((i : Nat) : Int), .ref b1]) = H4 at j3 s3 tt ed3 ⊢
    refine ⟨_, rfl, _, rfl, t, l, _, _, rfl, same_tup s3 ht, SqL.of ed3, by rw [List.length_map, List.length_map, ld], fun m nm => ?_⟩
    refine lc_it (walk_TL (n := c.length) (List.length_map ..) (by rw [List.length_map, ld])) (fun i H5 => Same H4 H5 ∧ H5 m = some (.lst ((((c.zip d).map sign).take i).map V.bl))) ⟨new_same nm, by rw [List.take_zero]; exact upd_same⟩
      (fun i H5 _ h => ⟨same_tup (s3.trans h.1) ht, h.1.seq (SqL.of ed3)⟩) ?_ ?_
    · rintro j x H5 H6 hj ⟨s5, em⟩ ⟨T2, x1, x2, rfl, nT2, rfl, ea, eb⟩
      have ea := (ints_at (l := c) hj).symm.trans ea
      have eb := (ints_at (l := d) (i := j) (by omega)).symm.trans eb
      cases ea
      cases eb
      have j6 := new_same (o := .tup [.int (c.getD j 0), .int (d.getD j 0)]) nT2
      have em6 := j6 _ _ em
      refine ⟨T2, _, rfl, SqT.of upd_same, rfl, _, _, rfl, _, _, rfl, rfl, rfl, ?_⟩
      refine ⟨_, rfl, _, rfl, _, _, rfl, rfl, _, em6, ?_, own_same nm (s5.trans j6), ?_⟩
      · rw [List.length_map, List.length_take]
        omega
      · rw [upd_same, take_at (x := sign (c.getD j 0, d.getD j 0)) (by rw [List.getElem?_map, zip_at hj (by omega)] <;> rfl), List.map_append]
        rfl
    rintro H5 ⟨s5, em⟩
    have lz : ((c.zip d).map sign).length = c.length := by rw [List.length_map, List.length_zip]; omega
    rw [← lz, List.take_length] at em
    refine ⟨m, _, rfl, SqL.of em, ?_⟩
    have eg : ((c.zip d).map sign).all id = ge c d := by
      rw [List.all_map]
      rfl
    rw [eg]
    have s35 := s3.trans s5
    have ed5 := s5 _ _ ed3
    refine ⟨_, rfl, _, rfl, l, _, u.1, _, rfl, rfl, SqL.of ed5, ints_at (by omega), ?_⟩
    refine ⟨_, rfl, _, _, rfl, rfl, ?_⟩
    refine ⟨l, _, _, u.1, rfl, rfl, ed5, ixN_nat (by rw [List.length_map]; omega), ?_⟩
    have e6 : upd H5 l (.lst ((d.map V.int).set u.1 (.int (d.getD u.1 0 + u.2)))) l = some (.lst ((adv d u).map V.int)) := by
      rw [upd_same, map_set]
      rfl
    have s6 := own_same (o := .lst ((d.map V.int).set u.1 (.int (d.getD u.1 0 + u.2)))) nl s35
    have hst := slabOf_step (d := d) (c := c) eu
    have la : (adv d u).length = c.length := by rw [adv_len, ld]
    have on : hit d u c = false → (Same H (upd H5 l (.lst ((d.map V.int).set u.1 (.int (d.getD u.1 0 + u.2))))) ∧ (∃ d' : List Int, upd H5 l (.lst ((d.map V.int).set u.1 (.int (d.getD u.1 0 + u.2)))) l = some (.lst (d'.map V.int)) ∧ d'.length = c.length ∧
        slabOf (List.replicate c.length 0) ss c 0 = slabOf d' (ss.drop (i + 1)) c (i + 1))) := fun e => by
      refine ⟨s6, adv d u, e6, la, ?_⟩
      rw [hd, hst, e] <;> rfl
    have up : d.getD u.1 0 + u.2 = (adv d u).getD u.1 0 := by rw [adv_at (by omega), if_pos rfl]
    refine ⟨_, rfl, _, rfl, ite2 (fun g => ?_) (fun g => ?_)⟩
    · refine ⟨_, rfl, _, rfl, t, _, _, _, rfl, rfl, same_tup s6 ht, ints_atI u1, _, rfl, _, rfl, l, _, _, _, rfl, rfl, SqL.of e6, ints_atI (by omega), _, _, rfl, rfl, _, rfl, ite2 (fun lt => ?_) (fun lt => ?_)⟩
      · have lt := of_decide_eq_true lt
        refine ⟨_, rfl, ?_⟩
        have z := q _ s6
        rw [hd, hst, if_pos (by unfold hit; rw [g, up, decide_eq_true lt] <;> rfl)] at z
        exact z
      · have lt := of_decide_eq_false (Bool.eq_false_iff.mpr lt)
        obtain ⟨a1, a2⟩ := on (by unfold hit; rw [up, decide_eq_false lt, Bool.and_false])
        exact ⟨a1, a2, _, _, _, _, _, _, rfl⟩
    · obtain ⟨a1, a2⟩ := on (by unfold hit; rw [Bool.eq_false_iff.mpr g, Bool.false_and])
      exact ⟨a1, a2, _, _, _, _, _, _, rfl⟩
  · rintro σ H2 ⟨s2, ⟨d, ed, ld, hd⟩, y3, y4, y5, y6, y7, y8, rfl⟩
    have z := q _ s2
    rw [List.length_map, lb, List.drop_length] at hd
    rw [hd] at z
    exact z
end
end K27
end

section
set_option Elab.async false
set_option linter.all false
set_option maxRecDepth 100000
set_option maxHeartbeats 4000000
namespace K27
open PySem PySem.Spec PyProof.Rows L2 Gd Bx
abbrev nMet : List Str := ["sizes", "slabs", "rest", "met", "source", "many", "choices", "other", "rows"]
theorem scMet : FnScope nMet ["sizes", "slabs"] (defScope sMet) :=
  ⟨rfl, rfl, rfl, by decide +kernel, rfl, by decide +kernel, by decide +kernel⟩
def spMet (K : PySem.W.Frag) : Sp := fun vs H Q _ => ∃ (a b : Addr) (r : List Int) (ss : List Slab), vs = [.ref a, .ref b] ∧ SqL K H a (r.map V.int) ∧ SlabsAt K H b ss ∧ In 1000000 r ∧ Leg0 r ss ∧ ss.length ≤ 100000 ∧
  ∀ l H', Same H H' → H l = none → H' l = some (.lst ((mets r ss).map V.int)) → Q (.ref l) H'
theorem mets_take {ss : List Slab} {r : List Int} {i : Nat} {s : Slab} (h : ss[i]? = some s) : mets r (ss.take (i + 1)) = mets r (ss.take i) ++ [cnt (lft r (ss.take i)) s] := by
  rw [take_at h, mets_snoc]
section
variable {P : Program} {w : World} {K : PySem.W.Frag} {mg : Str → Option Value} {base : Heap} {f : Addr} {fd : FuncData}
theorem ok_met (F : Fun K "met_by" "met_by" sMet f fd) (ml : mg "list" = none) (me : mg "enumerate" = none) : FnOk P w K mg base CX0 1 f fd ["sizes", "slabs"] (spMet K) := by
  refine F.ok scMet (fun vs H Q E h => ?_) (fun cdv A outer s H vs Q E hr h => ?_)
  · obtain ⟨a, b, r, ss, rfl, _⟩ := h
    rfl
  obtain ⟨a, b, r, ss, rfl, ha, hb, hB, hL, hlen, q⟩ := h
  have nd := scMet.nd
  have zl : sizeLine = 16777216 := rfl
  refine ⟨_, pss_cons (ps_set (i := 2) nd rfl (.inl rfl) (pe_callTy call_list_of (by rfl) ml (by decide +kernel) (pa_cons (pv 0) pa_nil)))
    (pss_cons (ps_set (i := 3) nd rfl (.inl rfl) (pe_lst pa_nil))
    (pss_cons (ps_for PassesOwn.never rfl (pi_list (pv 1)) (pg_tup rfl (pgs_cons (pg_name (i := 4) nd rfl (.inl rfl)) (pgs_cons (pg_name (i := 5) nd rfl (.inl rfl)) pgs_nil)))
      (pss_cons (ps_set (i := 6) nd rfl (.inl rfl) (pv 5))
      (pss_cons (ps_for PassesOwn.never rfl (pi_enum (by rfl) me (pa_cons (pv 2) pa_nil)) (pg_tup rfl (pgs_cons (pg_name (i := 7) nd rfl (.inl rfl)) (pgs_cons (pg_name (i := 8) nd rfl (.inl rfl)) pgs_nil)))
        (pss_one (ps_if (pt_cmpR op_ne (pv 7) (pv 4) (nomark _)) (pss_one (ps_set (i := 6) nd rfl (.inl rfl) (pe_op op_mul (pv 6) (pv 8)))) pss_nil)))
      (pss_cons (ps_expr (pe_bm PySem.F.plainAttrs_list PySem.F.slot_list_append PySem.F.type_list_append mt_append (pv 3) (pa_cons (pv 6) pa_nil)))
      (pss_one (ps_augS (pv 2) (pv 4) get_list (pv 5) ip_sub set_list))))))
    (pss_one (ps_ret (pv 3))))), ?_⟩
  refine ⟨_, rfl, a, _, rfl, .inl ha, fun l nl => ?_⟩
  have s0 := new_same (o := .lst (r.map V.int)) nl
  refine ⟨by decide, fun m nm => ?_⟩
  have nml : m ≠ l := fun e => by rw [e, upd_same] at nm; cases nm
  have nm0 : H m = none := s0.free nm
  obtain ⟨bs, hbs, lb, tb⟩ := hb
  have s1 := s0.trans (new_same (o := .lst []) nm)
  refine ⟨_, rfl, b, rfl, ⟨_, s1.seq hbs⟩, ?_⟩
  refine for_it walk_list (fun i σ H1 => Same H H1 ∧ H1 l = some (.lst ((lft r (ss.take i)).map V.int)) ∧ H1 m = some (.lst ((mets r (ss.take i)).map V.int)) ∧
      ∃ y4 y5 y6 y7 y8, σ = [some (.ref a), some (.ref b), some (.ref l), some (.ref m), y4, y5, y6, y7, y8])
    ⟨s1, ?_, upd_same, none, none, none, none, none, rfl⟩ (fun i σ H1 _ h => h.1.seq hbs) ?_ ?_
  · rw [upd_ne nml.symm]
    exact upd_same
  · rintro i x σ H1 H2 hi ⟨s1, el, em, y4, y5, y6, y7, y8, rfl⟩ ⟨rfl, ex⟩
    obtain ⟨b1, e1, rfl⟩ := map_at ex
    obtain ⟨t, et⟩ := at_of lb.symm (at_lt e1)
    obtain ⟨hI, t1, t2, t3⟩ := Leg0.at_ hB hL et
    have tt := same_tup s1 (tb i b1 t e1 et)
    have i_lt := at_lt et
    refine ⟨b1, _, rfl, tt, rfl, _, _, rfl, _, _, rfl, rfl, ?_⟩
    refine ⟨_, rfl, ?_⟩
    refine ⟨_, rfl, l, _, rfl, SqL.of el, ?_⟩
    generalize hR : lft r (ss.take i) = R at *
    refine for_it walk_enum (fun j σ H3 => Same H2 H3 ∧ ∃ y7 y8, σ = [some (.ref a), some (.ref b), some (.ref l), some (.ref m), some (.int ((t.1 : Nat) : Int)), some (.int t.2), some (.int (t.2 * oth R t.1 j)), y7, y8])
      ⟨fun _ _ e => e, _, _, by rw [oth_zero, Int.mul_one] <;> rfl⟩ (fun j σ H3 _ h => h.1.seq (SqL.of el)) ?_ ?_
    · rintro j x σ H3 H4 hj ⟨s3, y7, y8, rfl⟩ ⟨T, x1, x2, rfl, nT, rfl, ei, ej⟩
      cases ei
      rw [List.length_map] at hj
      have ej := (ints_at hj).symm.trans ej
      cases ej
      have hx := hI _ (Bx.getD_mem hj)
      refine ⟨T, _, rfl, SqT.of upd_same, rfl, _, _, rfl, _, _, rfl, rfl, ?_⟩
      refine ⟨_, rfl, _, rfl, rfl, _, rfl, ite2 (fun e => ?_) (fun e => ?_)⟩
      · have ne : ¬ j = t.1 := fun z => by
          subst z
          simp at e
        refine ⟨_, rfl, _, rfl, _, _, rfl, rfl, .inr ⟨by omega, by omega⟩, ?_⟩
        refine ⟨s3.trans (new_same nT), some (.int ((j : Nat) : Int)), some (.int (R.getD j 0)), ?_⟩
        rw [oth_at hj, if_neg ne, ← Int.mul_assoc]
        rfl
      · have ne : j = t.1 := by
          by_cases z : j = t.1
          · exact z
          · exfalso
            refine e ?_
            rw [decide_eq_false (fun y => z (by have := V.int.inj y; omega))] <;> rfl
        refine ⟨s3.trans (new_same nT), some (.int ((j : Nat) : Int)), some (.int (R.getD j 0)), ?_⟩
        rw [oth_at hj, if_pos ne]
        rfl
    · rintro σ H3 ⟨s3, y7, y8, rfl⟩
      rw [List.length_map, oth_all]
      have em3 := s3 _ _ em
      have el3 := s3 _ _ el
      refine ⟨_, rfl, .inl ⟨rfl, _, SqL.of em3⟩, _, rfl, m, _, _, rfl, rfl, em3, ?_, ?_⟩
      · rw [List.length_map, mets_len, List.length_take]
        omega
      have s4 := own_same (o := .lst ((mets r (ss.take i)).map V.int ++ [.int (t.2 * prod (R.set t.1 1))])) nm0 (s1.trans s3)
      have el4 : upd H3 m (.lst ((mets r (ss.take i)).map V.int ++ [.int (t.2 * prod (R.set t.1 1))])) l = some (.lst (R.map V.int)) := by
        rw [upd_ne nml.symm]
        exact el3
      refine ⟨_, rfl, _, rfl, l, _, t.1, _, rfl, rfl, SqL.of el4, ints_at (by omega), ?_⟩
      refine ⟨_, rfl, _, _, rfl, rfl, ?_⟩
      refine ⟨l, _, _, t.1, rfl, rfl, el4, ixN_nat (by rw [List.length_map]; omega), ?_⟩
      refine ⟨own_same nl s4, ?_, ?_, _, _, _, _, _, rfl⟩
      · rw [lft_take et, hR, upd_same, map_set]
        rfl
      · rw [upd_ne nml, upd_same, mets_take et, hR, List.map_append]
        rfl
  · rintro σ H1 ⟨s1, el, em, y4, y5, y6, y7, y8, rfl⟩
    refine ⟨_, rfl, q m H1 s1 nm0 ?_⟩
    rw [em, List.length_map, lb, List.take_length]

/-! is_whole, _is_slab, are_whole -/
theorem scIsW : FnScope ["thing"] ["thing"] (defScope sIsW) := ⟨rfl, rfl, rfl, by decide +kernel, rfl, by decide +kernel, by decide +kernel⟩
theorem scIsSl : FnScope ["rest", "thing", "source", "many"] ["rest", "thing"] (defScope sIsSl) := ⟨rfl, rfl, rfl, by decide +kernel, rfl, by decide +kernel, by decide +kernel⟩
theorem scWh : FnScope ["sizes", "thing", "rest", "slab", "source", "many"] ["sizes", "thing"] (defScope sWh) := ⟨rfl, rfl, rfl, by decide +kernel, rfl, by decide +kernel, by decide +kernel⟩
def spIsW : Sp := fun vs H Q _ => ∃ i : Int, vs = [.int i] ∧ Q (.bl true) H
theorem ok_isw (F : Fun K "is_whole" "is_whole" sIsW f fd) (mi : mg "isinstance" = none) (mt : mg "int" = none) (mb : mg "bool" = none) : FnOk P w K mg base CX0 1 f fd ["thing"] spIsW := by
  refine F.ok scIsW (fun vs H Q E h => ?_) (fun cdv A outer s H vs Q E hr h => ?_)
  · obtain ⟨i, rfl, _⟩ := h
    rfl
  obtain ⟨i, rfl, q⟩ := h
  have nd := scIsW.nd
  refine ⟨_, pss_one (ps_ret (pe_and (pe_callB call_isi (by rfl) mi (by decide +kernel) (pa_cons (pv 0) (pa_cons (pe_bltn (v := .ty "int") (by rfl) mt (by decide +kernel) rfl) pa_nil)))
    (pe_one (pe_not (pe_callB call_isi (by rfl) mi (by decide +kernel) (pa_cons (pv 0) (pa_cons (pe_bltn (v := .ty "bool") (by rfl) mb (by decide +kernel) rfl) pa_nil))))))), ?_⟩
  refine ⟨_, rfl, _, _, _, _, true, rfl, .ty _, .base (.int i), kit_ty (by decide +kernel), _, rfl, ?_⟩
  refine iteT ?_
  refine ⟨_, rfl, _, _, _, _, false, rfl, .ty _, .base (.int i), kit_ty (by decide +kernel), _, rfl, ?_⟩
  exact q
def spIsSl (K : PySem.W.Frag) : Sp := fun vs H Q _ => ∃ (a b : Addr) (r : List Int) (t : Slab), vs = [.ref a, .ref b] ∧ SqL K H a (r.map V.int) ∧ SqT K H b [.int (t.1 : Nat), .int t.2] ∧ t.1 < r.length ∧ 1 ≤ t.2 ∧ t.2 ≤ r.getD t.1 0 ∧ Q (.bl true) H
theorem tup_ty {H : Hp} {b : Addr} {xs : List V} (h : SqT K H b xs) : TyX K H (.ref b) (.type "tuple") := by
  rcases h with (a | ⟨z, a⟩) | ⟨z, its, n, a, c, _⟩
  · exact .base (.tup a)
  · exact .fTuple a
  · exact .kTuple a c
theorem lst_ty {H : Hp} {b : Addr} {xs : List V} (h : SqL K H b xs) : TyX K H (.ref b) (.type "list") := by
  rcases h with (a | ⟨z, a⟩) | ⟨z, its, n, a, c, _⟩
  · exact .base (.lst a)
  · exact .base (.frz a)
  · exact .kList a c
variable {fW fS : Addr} {dW dS : FuncData}
theorem ok_issl (F : Fun K "_is_slab" "_is_slab" sIsSl f fd) (mi : mg "isinstance" = none) (mt : mg "tuple" = none) (ml : mg "len" = none)
    (FW : Fun K "is_whole" "is_whole" sIsW fW dW) (GW : FnOk P w K mg base CX0 1 fW dW ["thing"] spIsW) (bW : Binds K dW ["thing"] []) (gW : mg "is_whole" = some (.ref fW)) :
    FnOk P w K mg base CX0 2 f fd ["rest", "thing"] (spIsSl K) := by
  refine F.ok scIsSl (fun vs H Q E h => ?_) (fun cdv A outer s H vs Q E hr h => ?_)
  · obtain ⟨a, b, r, t, rfl, _⟩ := h
    rfl
  obtain ⟨a, b, r, t, rfl, ha, hb, t1, t2, t3, q⟩ := h
  have nd := scIsSl.nd
  refine ⟨_, pss_cons (ps_if (PW.pt (pw_or (pt_not (pt_val (pe_callB call_isi (by rfl) mi (by decide +kernel) (pa_cons (pv 1) (pa_cons (pe_bltn (v := .ty "tuple") (by rfl) mt (by decide +kernel) rfl) pa_nil)))))
      (pw_or1 (pt_cmpR op_ne (pe_callB call_len_seq (by rfl) ml PySem.boot_len (pa_cons (pv 1) pa_nil)) pe_int (nomark _))))) pss_never pss_nil)
    (pss_cons (ps_asg (pv 1) (pg_tup rfl (pgs_cons (pg_name (i := 2) nd rfl (.inl rfl)) (pgs_cons (pg_name (i := 3) nd rfl (.inl rfl)) pgs_nil))))
    (pss_cons (ps_if (PW.pt (pw_or (pt_not (pt_val (pe_call GW hr (by rfl) gW FW.kp bW .nil pass0 (pa_cons (pv 2) pa_nil))))
      (pw_or (pt_not (pt_val (pe_call GW hr (by rfl) gW FW.kp bW .nil pass0 (pa_cons (pv 3) pa_nil))))
      (pw_or1 (pt_not (pt_chain op_le op_lt pe_int (pv 2) (pe_callB call_len_seq (by rfl) ml PySem.boot_len (pa_cons (pv 0) pa_nil)))))))) pss_never pss_nil)
    (pss_one (ps_ret (pe_chain op_le op_le pe_int (pv 3) (pe_ix ix_list (pv 0) (pv 2) (fun _ _ => rfl))))))), ?_⟩
  refine ⟨_, rfl, _, _, _, _, true, rfl, .ty _, tup_ty hb, kit_ty (by decide +kernel), _, rfl, ?_⟩
  refine iteF ?_
  refine ⟨_, rfl, b, _, rfl, .inr hb, rfl, _, rfl, ?_⟩
  refine iteF ?_
  refine ⟨_, rfl, b, _, rfl, hb, rfl, _, _, rfl, _, _, rfl, rfl, ?_⟩
  refine ⟨_, rfl, _, rfl, _, rfl, ?_⟩
  refine iteF ?_
  refine ⟨_, rfl, _, rfl, _, rfl, ?_⟩
  refine iteF ?_
  refine ⟨_, rfl, _, _, rfl, rfl, _, rfl, ?_⟩
  rw [decide_eq_true (show (0 : Int) ≤ ((t.1 : Nat) : Int) by omega)]
  refine iteT ?_
  refine ⟨_, rfl, a, _, rfl, .inl ha, _, _, rfl, rfl, _, rfl, ?_⟩
  rw [decide_eq_true (show ((t.1 : Nat) : Int) < (((r.map V.int).length : Nat) : Int) by rw [List.length_map]; omega)]
  refine iteF ?_
  refine ⟨_, rfl, _, _, rfl, rfl, _, rfl, ?_⟩
  rw [decide_eq_true t2]
  refine iteT ?_
  refine ⟨_, rfl, _, rfl, a, _, _, _, rfl, rfl, ha, ints_atI t1, _, _, rfl, rfl, ?_⟩
  show Q (.bl (decide (t.2 ≤ r.getD t.1 0))) H
  rw [decide_eq_true t3]
  exact q
end
end K27
end

section
set_option Elab.async false
set_option linter.all false
set_option maxRecDepth 100000
set_option maxHeartbeats 4000000
namespace K27
open PySem PySem.Spec PyProof.Rows L2 Gd Bx
theorem flat_ints : ∀ r : List Int, (r.map V.int).all flatV = true
  | [] => rfl
  | x :: r => flat_ints r
theorem in_ints (k : Int) : ∀ r : List Int, inV (.int k) (r.map V.int) = decide (k ∈ r)
  | [] => rfl
  | x :: r => by
    have ih := in_ints k r
    show ((x == k) || inV (.int k) (r.map V.int)) = _
    rw [ih]
    by_cases e : x = k
    · subst e
      simp
    · rw [beq_false_of_ne e, Bool.false_or]
      simp [List.mem_cons, Ne.symm e]
def spWh (K : PySem.W.Frag) : Sp := fun vs H Q _ => ∃ (a b : Addr) (r : List Int) (ss : List Slab), vs = [.ref a, .ref b] ∧ SqL K H a (r.map V.int) ∧ SlabsAt K H b ss ∧ Leg r ss ∧
  ∀ H', Same H H' → Q (.bl (decide ((0 : Int) ∈ lft r ss))) H'
section
variable {P : Program} {w : World} {K : PySem.W.Frag} {mg : Str → Option Value} {base : Heap} {f fS : Addr} {fd dS : FuncData}
theorem ok_wh (F : Fun K "are_whole" "are_whole" sWh f fd) (mi : mg "isinstance" = none) (ml : mg "list" = none)
    (FS : Fun K "_is_slab" "_is_slab" sIsSl fS dS) (GS : FnOk P w K mg base CX0 2 fS dS ["rest", "thing"] (spIsSl K)) (bS : Binds K dS ["rest", "thing"] []) (gS : mg "_is_slab" = some (.ref fS)) :
    FnOk P w K mg base CX0 3 f fd ["sizes", "thing"] (spWh K) := by
  refine F.ok scWh (fun vs H Q E h => ?_) (fun cdv A outer s H vs Q E hr h => ?_)
  · obtain ⟨a, b, r, t, rfl, _⟩ := h
    rfl
  obtain ⟨a, b, r, ss, rfl, ha, hb, hL, q⟩ := h
  have nd := scWh.nd
  have hf := hL.fine
  refine ⟨_, pss_cons (ps_if (pt_not (pt_val (pe_callB call_isi (by rfl) mi (by decide +kernel) (pa_cons (pv 1) (pa_cons (pe_bltn (v := .ty "list") (by rfl) ml (by decide +kernel) rfl) pa_nil))))) pss_never pss_nil)
    (pss_cons (ps_set (i := 2) nd rfl (.inl rfl) (pe_callTy call_list_of (by rfl) ml (by decide +kernel) (pa_cons (pv 0) pa_nil)))
    (pss_cons (ps_for PassesOwn.never rfl (pi_list (pv 1)) (pg_name (i := 3) nd rfl (.inl rfl))
      (pss_cons (ps_if (PW.pt (pw_or (pt_cmpR op_in_seq pe_int (pv 2) (by with_unfolding_all rfl)) (pw_or1 (pt_not (pt_val (pe_call GS hr (by rfl) gS FS.kp bS .nil pass0 (pa_cons (pv 2) (pa_cons (pv 3) pa_nil)))))))) pss_never pss_nil)
      (pss_cons (ps_asg (pv 3) (pg_tup rfl (pgs_cons (pg_name (i := 4) nd rfl (.inl rfl)) (pgs_cons (pg_name (i := 5) nd rfl (.inl rfl)) pgs_nil))))
      (pss_one (ps_augS (pv 2) (pv 4) get_list (pv 5) ip_sub set_list)))))
    (pss_one (ps_ret (pe_cmpR op_in_seq pe_int (pv 2) (by with_unfolding_all rfl)))))), ?_⟩
  obtain ⟨bs, hbs, lb, tb⟩ := hb
  refine ⟨_, rfl, _, _, _, _, true, rfl, .ty _, lst_ty hbs, kit_ty (by decide +kernel), _, rfl, ?_⟩
  refine iteF ?_
  refine ⟨_, rfl, a, _, rfl, .inl ha, fun l nl => ?_⟩
  refine ⟨_, rfl, b, rfl, ⟨_, (new_same nl).seq hbs⟩, ?_⟩
  refine for_it walk_list (fun i σ H1 => Same H H1 ∧ H1 l = some (.lst ((lft r (ss.take i)).map V.int)) ∧ ∃ x y z, σ = [some (.ref a), some (.ref b), some (.ref l), x, y, z])
    ⟨new_same nl, upd_same, none, none, none, rfl⟩ (fun i σ H1 _ h => h.1.seq hbs) ?_ ?_
  · rintro i x σ H1 H2 hi ⟨s1, el, x0, y0, z0, rfl⟩ ⟨rfl, ex⟩
    obtain ⟨b1, e1, rfl⟩ := map_at ex
    obtain ⟨t, et⟩ := at_of lb.symm (at_lt e1)
    have n0 := hL.at_ et
    have ll : (lft r (ss.take i)).length = r.length := lft_len
    have tt := same_tup s1 (tb i b1 t e1 et)
    have t3 : t.1 < (lft r (ss.take i)).length ∧ 1 ≤ t.2 ∧ t.2 ≤ (lft r (ss.take i)).getD t.1 0 := Leg0.here hL.weak et
    refine ⟨_, rfl, l, _, rfl, .inl (SqL.of el), rfl, flat_ints _, _, rfl, ?_⟩
    have n1 : inV (.int 0) ((lft r (ss.take i)).map V.int) = false := (in_ints 0 _).trans (decide_eq_false n0)
    refine ite2 (fun e => absurd (n1.symm.trans e) Bool.false_ne_true) (fun _ => ?_)
    refine ⟨_, rfl, _, rfl, l, b1, _, t, rfl, SqL.of el, tt, t3.1, t3.2.1, t3.2.2, _, rfl, ?_⟩
    refine iteF ?_
    refine ⟨_, rfl, b1, _, rfl, tt, rfl, _, _, rfl, _, _, rfl, rfl, ?_⟩
    refine ⟨_, rfl, _, rfl, l, _, t.1, _, rfl, rfl, SqL.of el, ints_at t3.1, ?_⟩
    refine ⟨_, rfl, _, _, rfl, rfl, ?_⟩
    refine ⟨l, _, _, t.1, rfl, rfl, el, ixN_nat (by rw [List.length_map]; exact t3.1), ?_⟩
    refine ⟨own_same nl s1, ?_, _, _, _, rfl⟩
    rw [lft_take et, upd_same, map_set]
    rfl
  · rintro σ H1 ⟨s1, el, x0, y0, z0, rfl⟩
    rw [List.length_map, lb, List.take_length] at el
    refine ⟨_, rfl, l, _, rfl, .inl (SqL.of el), rfl, flat_ints _, ?_⟩
    have z := q H1 s1
    rw [← in_ints] at z
    exact z
end
end K27
end

section
set_option Elab.async false
set_option linter.all false
set_option maxRecDepth 100000
set_option maxHeartbeats 4000000
namespace K27
open PySem PySem.Spec PyProof.Rows L2 Gd Bx
abbrev sSizes : Stmt := topS 10
abbrev sWhole : Stmt := topS 11
abbrev sDrawn : Stmt := topS 12
abbrev sProd : Stmt := topS 13
abbrev nSizes : List Str := ["_law_feed_here", "_law_most", "_law_found", "_law_k", "_law_some"]
theorem scSizes : FnScope nSizes ["_law_feed_here", "_law_most"] (defScope sSizes) :=
  ⟨rfl, rfl, rfl, by decide +kernel, rfl, by decide +kernel, by decide +kernel⟩
def spSizes : Sp := fun vs H Q _ => ∃ (p : Addr) (S : Int), vs = [.ref p, .int 60] ∧ Feed H p S ∧ S ≤ 100000000 ∧
  ∀ (l : Addr) (z : List Int) (H' : Hp), Ex1 p H H' → Feed H' p (S + 10) → H l = none → H' l = some (.lst (z.map V.int)) → 1 ≤ z.length → z.length ≤ 3 → In 60 z → Q (.ref l) H'
section
variable {P : Program} {w : World} {K : PySem.W.Frag} {mg : Str → Option Value} {base : Heap} {f fT : Addr} {fd dT : FuncData}
theorem ok_sizes (F : Fun K "_law_sizes" "_law_sizes" sSizes f fd) (mr : mg "range" = none) (FT : Fun K "_law_take" "_law_take" sTake fT dT) (bT : Binds K dT ["_law_feed_here", "_law_many"] []) (gT : mg "_law_take" = some (.ref fT)) :
    FnOk P w K mg base CX0 2 f fd ["_law_feed_here", "_law_most"] spSizes := by
  have G : FnOk P w K mg base CX0 1 fT dT ["_law_feed_here", "_law_many"] spTake := ok_take FT
  refine F.ok scSizes (fun vs H Q E h => ?_) (fun cdv A outer s H vs Q E hr h => ?_)
  · obtain ⟨p, S, rfl, _⟩ := h
    rfl
  obtain ⟨p, S, rfl, hF, hS, q⟩ := h
  have nd := scSizes.nd
  have zl : sizeLine = 16777216 := rfl
  refine ⟨_, pss_cons (ps_set (i := 2) nd rfl (.inl rfl) (pe_lst pa_nil))
    (pss_cons (ps_for PassesOwn.never rfl (pi_range1 (by rfl) mr (pa_cons (pe_ix ix_list (pe_lst (pa_cons pe_int (pa_cons pe_int (pa_cons pe_int (pa_cons pe_int pa_nil)))))
          (pe_call G hr (by rfl) gT FT.kp bT .nil pass0 (pa_cons (pv 0) (pa_cons pe_int pa_nil))) (fun _ _ => rfl)) pa_nil)) (pg_name (i := 3) nd rfl (.inl rfl))
      (pss_cons (ps_set (i := 4) nd rfl (.inl rfl) (pe_lst (pa_cons pe_int (pa_cons pe_int (pa_cons pe_int (pa_cons pe_int (pa_cons pe_int (pa_cons (pv 1)
          (pa_cons (pe_call G hr (by rfl) gT FT.kp bT .nil pass0 (pa_cons (pv 0) (pa_cons (pe_op op_add (pv 1) pe_int) pa_nil)))
          (pa_cons (pe_ix ix_list (pe_lst (pa_cons pe_int (pa_cons pe_int (pa_cons pe_int (pa_cons pe_int pa_nil))))) (pe_call G hr (by rfl) gT FT.kp bT .nil pass0 (pa_cons (pv 0) (pa_cons pe_int pa_nil))) (fun _ _ => rfl)) pa_nil))))))))))
      (pss_one (ps_expr (pe_bm PySem.F.plainAttrs_list PySem.F.slot_list_append PySem.F.type_list_append mt_append (pv 2)
        (pa_cons (pe_ix ix_list (pv 4) (pe_call G hr (by rfl) gT FT.kp bT .nil pass0 (pa_cons (pv 0) (pa_cons pe_int pa_nil))) (fun _ _ => rfl)) pa_nil))))))
    (pss_one (ps_ret (pv 2)))), ?_⟩
  refine ⟨by decide, fun l nl => ?_⟩
  have nlp := hF.not nl
  refine ⟨(by show 4 ≤ sizeLine; decide), fun l2 nl2 => ?_⟩
  have f1 := (hF.stays (o := .lst []) nl).stays (o := .lst [.int 2, .int 3, .int 1, .int 3]) nl2
  have x1 : Ex1 p H (upd (upd H l (.lst [])) l2 (.lst [.int 2, .int 3, .int 1, .int 3])) := (Ex1.new nl).trans (Ex1.new nl2)
  have n2l : l2 ≠ l := fun e => by rw [e, upd_same] at nl2; cases nl2
  refine ⟨_, rfl, p, 4, S, rfl, f1, by decide, by decide, by omega, fun k H2 k0 k1 hF2 x2 => ?_⟩
  have e2 : H2 l2 = some (.lst [.int 2, .int 3, .int 1, .int 3]) := x2 _ _ (f1.lst.elim fun ys ey => fun z => by
    have n := hF.not (q := l2) (by rw [upd_ne n2l] at nl2; exact nl2)
    exact n z) upd_same
  obtain ⟨n, hn, en⟩ := at_list (f := V.int) (xs := [2, 3, 1, 3]) k0 (by simpa using k1)
  have nb : 1 ≤ n ∧ n ≤ 3 := by
    simp only [List.mem_cons, List.not_mem_nil, or_false] at hn
    omega
  refine ⟨l2, _, k, .int n, rfl, rfl, SqL.of e2, en, n, rfl, by omega, by omega, ?_⟩
  have el2 : H2 l = some (.lst []) := x2 _ _ nlp (by rw [upd_ne n2l.symm]; exact upd_same)
  refine for_it walk_range (fun i σ H3 => Ex1 p H H3 ∧ Feed H3 p (S + 1 + 3 * i) ∧ (∃ z : List Int, H3 l = some (.lst (z.map V.int)) ∧ z.length = i ∧ In 60 z) ∧ ∃ y3 y4, σ = [some (.ref p), some (.int 60), some (.ref l), y3, y4])
    ⟨x1.trans x2, hF2.le (by omega), ⟨[], el2, rfl, fun x h => nomatch h⟩, none, none, rfl⟩ (fun _ _ _ _ _ => trivial) ?_ ?_
  · rintro i x σ H3 H4 hi ⟨x3, f3, ⟨z, ez, lz, hz⟩, y3, y4, rfl⟩ ⟨rfl, rfl⟩
    have hi3 : i < 3 := by omega
    refine ⟨_, rfl, _, rfl, _, rfl, _, _, rfl, rfl, p, 61, _, rfl, f3, by decide, by decide, by omega, fun a H5 a0 a1 f5 x5 => ?_⟩
    refine ⟨(by show 4 ≤ sizeLine; decide), fun l3 nl3 => ?_⟩
    have f6 := f5.stays (o := .lst [.int 6, .int 7, .int 9, .int 0]) nl3
    refine ⟨_, rfl, p, 4, _, rfl, f6, by decide, by decide, by omega, fun b H7 b0 b1 f7 x7 => ?_⟩
    obtain ⟨c, hc, ec⟩ := at_list (f := V.int) (xs := [6, 7, 9, 0]) b0 (by simpa using b1)
    refine ⟨l3, _, b, .int c, rfl, rfl, SqL.of (x7 _ _ (f5.not nl3) upd_same), ec, ?_⟩
    refine ⟨(by show 8 ≤ sizeLine; decide), fun l4 nl4 => ?_⟩
    have f8 := f7.stays (o := .lst [.int 2, .int 3, .int 1, .int 4, .int 5, .int 60, .int a, .int c]) nl4
    have x48 : Ex1 p H4 (upd H7 l4 (.lst [.int 2, .int 3, .int 1, .int 4, .int 5, .int 60, .int a, .int c])) := ((x5.trans (Ex1.new nl3)).trans x7).trans (Ex1.new nl4)
    have el8 := x48 _ _ nlp ez
    refine ⟨_, rfl, .inl ⟨rfl, _, SqL.of el8⟩, ?_⟩
    refine ⟨_, rfl, _, rfl, p, 8, _, rfl, f8, by decide, by decide, by omega, fun d H9 d0 d1 f9 x9 => ?_⟩
    obtain ⟨g, hg, eg⟩ := at_list (f := V.int) (xs := [2, 3, 1, 4, 5, 60, a, c]) d0 (by simpa using d1)
    have gb : 0 ≤ g ∧ g ≤ 60 := by
      simp only [List.mem_cons, List.not_mem_nil, or_false] at hg hc
      omega
    refine ⟨l4, _, d, .int g, rfl, rfl, SqL.of (x9 _ _ (f7.not nl4) upd_same), eg, ?_⟩
    have el9 := x9 _ _ nlp el8
    refine ⟨l, _, _, rfl, rfl, el9, by rw [List.length_map]; omega, ?_⟩
    refine ⟨ex1_own nl (x3.trans (x48.trans x9)), (f9.le (by omega)).off nlp, ⟨z ++ [g], ?_, by simp [lz], ?_⟩, _, _, rfl⟩
    · rw [upd_same, List.map_append]
      rfl
    · intro y hy
      rcases List.mem_append.mp hy with hy | hy
      · exact hz y hy
      · rw [List.mem_singleton.mp hy]
        exact gb
  · rintro σ H3 ⟨x3, f3, ⟨z, ez, lz, hz⟩, y3, y4, rfl⟩
    exact ⟨_, rfl, q l z H3 x3 (f3.le (by omega)) nl ez (by omega) (by omega) hz⟩
end
end K27
end

section
set_option Elab.async false
set_option linter.all false
set_option maxRecDepth 100000
set_option maxHeartbeats 4000000
namespace K27
open PySem PySem.Spec PyProof.Rows L2 Gd Bx
/-- slabs in a list that is tracked -/
def SlabsL (K : PySem.W.Frag) (H : Hp) (a : Addr) (ss : List Slab) : Prop :=
  ∃ bs : List Addr, H a = some (.lst (bs.map V.ref)) ∧ bs.length = ss.length ∧ ∀ (i : Nat) (b : Addr) (s : Nat × Int), bs[i]? = some b → ss[i]? = some s → SqT K H b [.int (s.1 : Nat), .int s.2]
theorem SlabsL.at_ {K : PySem.W.Frag} {H : Hp} {a : Addr} {ss : List Slab} (h : SlabsL K H a ss) : SlabsAt K H a ss := by
  obtain ⟨bs, h1, h2, h3⟩ := h
  exact ⟨bs, SqL.of h1, h2, h3⟩
theorem SlabsL.tups {K : PySem.W.Frag} {H H' : Hp} {a : Addr} {ss : List Slab} (h : SlabsL K H a ss) (t : Tups K H H') (e : H' a = H a) : SlabsL K H' a ss := by
  obtain ⟨bs, h1, h2, h3⟩ := h
  exact ⟨bs, e.trans h1, h2, fun i b s e1 e2 => t _ _ (h3 i b s e1 e2)⟩
theorem SlabsL.drawn {K : PySem.W.Frag} {H H' : Hp} {p a : Addr} {S : Int} {ss : List Slab} (h : SlabsL K H a ss) (F : Feed H p S) (n : a ≠ p) (x : Ex1 p H H') : SlabsL K H' a ss := by
  obtain ⟨bs, h1, h2, h3⟩ := h
  exact ⟨bs, x _ _ n h1, h2, fun i b s e1 e2 => ex1_tup F x (h3 i b s e1 e2)⟩
theorem snoc_at {α : Type} {xs : List α} {x y : α} {i : Nat} (h : (xs ++ [x])[i]? = some y) : xs[i]? = some y ∨ (i = xs.length ∧ y = x) := by
  rw [List.getElem?_append] at h
  by_cases c : i < xs.length
  · rw [if_pos c] at h
    exact .inl h
  · rw [if_neg c] at h
    have e : i - xs.length = 0 := by
      cases z : i - xs.length with
      | zero => rfl
      | succ n => rw [z] at h; simp at h
    rw [e] at h
    exact .inr ⟨by omega, (Option.some.inj h).symm⟩
/-- found.append((k, g)) -/
theorem SlabsL.push {K : PySem.W.Frag} {H : Hp} {a b : Addr} {ss : List Slab} {k : Nat} {g : Int} (h : SlabsL K H a ss) (nb : H b = none) :
    ∃ xs : List V, upd H b (.tup [.int (k : Nat), .int g]) a = some (.lst xs) ∧ xs.length = ss.length ∧
      SlabsL K (upd (upd H b (.tup [.int (k : Nat), .int g])) a (.lst (xs ++ [.ref b]))) a (ss ++ [(k, g)]) := by
  obtain ⟨bs, h1, h2, h3⟩ := h
  have ne : a ≠ b := ne_of_none h1 nb
  have e1 : upd H b (.tup [.int (k : Nat), .int g]) a = some (.lst (bs.map V.ref)) := by
    rw [upd_ne ne]
    exact h1
  refine ⟨_, e1, by rw [List.length_map, h2], bs ++ [b], ?_, by simp [h2], ?_⟩
  · rw [upd_same, List.map_append]
    rfl
  · intro i c s ec es
    have T := Tups.upd_lst (K := K) (ys := bs.map V.ref ++ [.ref b]) e1
    rcases snoc_at ec with ec | ⟨ei, ec⟩
    · rcases snoc_at es with es | ⟨ej, es⟩
      · exact T _ _ (same_tup (new_same nb) (h3 i c s ec es))
      · have := at_lt ec
        omega
    · rcases snoc_at es with es | ⟨ej, es⟩
      · have := at_lt es
        omega
      · rw [ec, es]
        exact T _ _ (SqT.of upd_same)
abbrev nWhole : List Str := ["_law_feed_here", "_law_sizes_here", "_law_rest", "_law_lead", "_law_found", "_law_some", "_law_many"]
theorem scWhole : FnScope nWhole ["_law_feed_here", "_law_sizes_here"] (defScope sWhole) :=
  ⟨rfl, rfl, rfl, by decide +kernel, rfl, by decide +kernel, by decide +kernel⟩
def spWhole (K : PySem.W.Frag) : Sp := fun vs H Q _ => ∃ (p a : Addr) (S : Int) (z : List Int), vs = [.ref p, .ref a] ∧ Feed H p S ∧ S ≤ 100000000 ∧ H a = some (.lst (z.map V.int)) ∧ a ≠ p ∧ 1 ≤ z.length ∧ z.length ≤ 3 ∧ In 60 z ∧
  ∀ (l : Addr) (ss : List Slab) (H' : Hp), Ex1 p H H' → Feed H' p (S + 720) → H l = none → SlabsL K H' l ss → Leg z ss → (0 : Int) ∈ lft z ss → ss.length ≤ 180 → Q (.ref l) H'
section
variable {P : Program} {w : World} {K : PySem.W.Frag} {mg : Str → Option Value} {base : Heap} {f fT : Addr} {fd dT : FuncData}
theorem ok_whole (F : Fun K "_law_whole" "_law_whole" sWhole f fd) (ml : mg "list" = none) (mn : mg "len" = none) (mm : mg "min" = none) (FT : Fun K "_law_take" "_law_take" sTake fT dT) (bT : Binds K dT ["_law_feed_here", "_law_many"] []) (gT : mg "_law_take" = some (.ref fT)) :
    FnOk P w K mg base CX0 2 f fd ["_law_feed_here", "_law_sizes_here"] (spWhole K) := by
  have G : FnOk P w K mg base CX0 1 fT dT ["_law_feed_here", "_law_many"] spTake := ok_take FT
  refine F.ok scWhole (fun vs H Q E h => ?_) (fun cdv A outer s H vs Q E hr h => ?_)
  · obtain ⟨p, a, S, z, rfl, _⟩ := h
    rfl
  obtain ⟨p, a, S, z, rfl, hF, hS, ea, nap, l1, l3, hz, q⟩ := h
  have nd := scWhole.nd
  have zl : sizeLine = 16777216 := rfl
  obtain ⟨sz0, sz1⟩ := In.sum (by omega) hz
  refine ⟨_, pss_cons (ps_set (i := 2) nd rfl (.inl rfl) (pe_callTy call_list_of (by rfl) ml (by decide +kernel) (pa_cons (pv 1) pa_nil)))
    (pss_cons (ps_set (i := 3) nd rfl (.inl rfl) pe_int)
    (pss_cons (ps_set (i := 4) nd rfl (.inl rfl) (pe_lst pa_nil))
    (pss_cons (ps_while PassesOwn.never (pt_cmpR op_notIn_seq pe_int (pv 2) (by with_unfolding_all rfl))
      (C8.pss_cut (ps_if (pt_cmpR op_gt (pe_call G hr (by rfl) gT FT.kp bT .nil pass0 (pa_cons (pv 0) (pa_cons pe_int pa_nil))) pe_int (nomark _))
        (pss_one (ps_set (i := 3) nd rfl (.inl rfl) (pe_call G hr (by rfl) gT FT.kp bT .nil pass0 (pa_cons (pv 0) (pa_cons (pe_callB call_len_seq (by rfl) mn PySem.boot_len (pa_cons (pv 2) pa_nil)) pa_nil))))) pss_nil)
      (pss_cons (ps_set (i := 5) nd rfl (.inl rfl) (pe_lst (pa_cons pe_int (pa_cons (pe_callB (call_min2 rfl) (by rfl) mm (by decide +kernel) (pa_cons pe_int (pa_cons (pe_ix ix_list (pv 2) (pv 3) (fun _ _ => rfl)) pa_nil)))
          (pa_cons pe_int (pa_cons (pe_op op_fdivN (pe_op op_add (pe_ix ix_list (pv 2) (pv 3) (fun _ _ => rfl)) pe_int) pe_int)
          (pa_cons (pe_op op_add pe_int (pe_call G hr (by rfl) gT FT.kp bT .nil pass0 (pa_cons (pv 0) (pa_cons (pe_ix ix_list (pv 2) (pv 3) (fun _ _ => rfl)) pa_nil))))
          (pa_cons (pe_ix ix_list (pv 2) (pv 3) (fun _ _ => rfl)) pa_nil))))))))
      (pss_cons (ps_set (i := 6) nd rfl (.inl rfl) (pe_ix ix_list (pv 5) (pe_call G hr (by rfl) gT FT.kp bT .nil pass0 (pa_cons (pv 0) (pa_cons pe_int pa_nil))) (fun _ _ => rfl)))
      (pss_cons (ps_expr (pe_bm PySem.F.plainAttrs_list PySem.F.slot_list_append PySem.F.type_list_append mt_append (pv 4) (pa_cons (pe_tup (pa_cons (pv 3) (pa_cons (pv 6) pa_nil))) pa_nil)))
      (pss_one (ps_asg (pe_op op_sub (pe_ix ix_list (pv 2) (pv 3) (fun _ _ => rfl)) (pv 6)) (pg_sub (pv 2) (pv 3) set_list))))))))
    (pss_one (ps_ret (pv 4)))))), ?_⟩
  refine ⟨_, rfl, a, _, rfl, .inl (SqL.of ea), fun l nl => ?_⟩
  have nlp := hF.not nl
  refine ⟨by decide, fun m nm => ?_⟩
  have nml : m ≠ l := fun e => by rw [e, upd_same] at nm; cases nm
  have nm0 : H m = none := by rw [upd_ne nml] at nm; exact nm
  have nmp := hF.not nm0
  refine ⟨fun μ σ H1 => ∃ (ss : List Slab) (k : Nat) (y5 y6 : Option V), μ = (lft z ss).sum.toNat ∧ Ex1 p H H1 ∧ Feed H1 p (S + 4 * ss.length) ∧ H1 l = some (.lst ((lft z ss).map V.int)) ∧ SlabsL K H1 m ss ∧ Leg z ss ∧ k < z.length ∧
      (ss.length : Int) + (lft z ss).sum ≤ z.sum ∧ σ = [some (.ref p), some (.ref a), some (.ref l), some (.int (k : Nat)), some (.ref m), y5, y6], ⟨_, [], 0, none, none, rfl, (Ex1.new nl).trans (Ex1.new nm), ?_, ?_, ?_, trivial, l1, by simp [lft], rfl⟩, ?_⟩
  · exact ((hF.stays nl).stays nm).le (by simp)
  · rw [upd_ne nml.symm]
    exact upd_same
  · exact ⟨[], upd_same, rfl, fun i b s e => nomatch e⟩
  rintro μ σ H1 ⟨ss, k, y5, y6, rfl, x1, f1, el, em, hL, hk, hsum, rfl⟩
  have hI := lft_in hz hL
  have ll : (lft z ss).length = z.length := lft_len
  obtain ⟨s0, s1⟩ := In.sum (by omega) hI
  have hn : (ss.length : Int) ≤ 180 := by
    have : (z.length : Int) ≤ 3 := by omega
    omega
  refine ⟨_, rfl, l, _, rfl, .inl (SqL.of el), rfl, flat_ints _, _, rfl, ?_⟩
  refine ite2 (fun e => ?_) (fun e => ?_)
  · have e : (!inV (.int 0) ((lft z ss).map V.int)) = true := e
    rw [in_ints] at e
    have n0 : (0 : Int) ∉ lft z ss := by simpa using e
    refine ⟨fun σ' H' => ∃ (ss' : List Slab) (k : Nat) (y5 y6 : Option V), Ex1 p H H' ∧ Feed H' p (S + 4 * ss'.length) ∧ H' l = some (.lst ((lft z ss').map V.int)) ∧ SlabsL K H' m ss' ∧ Leg z ss' ∧ k < z.length ∧
      (ss'.length : Int) + (lft z ss').sum ≤ z.sum ∧ (lft z ss').sum < (lft z ss).sum ∧ 0 ≤ (lft z ss').sum ∧ σ' = [some (.ref p), some (.ref a), some (.ref l), some (.int (k : Nat)), some (.ref m), y5, y6], ?_, ?_⟩
    · rintro σ' H' ⟨ss', k', y5', y6', a1, a2, a3, a4, a5, a6, a7, a8, a9, rfl⟩
      exact ⟨_, by omega, ss', k', y5', y6', rfl, a1, a2, a3, a4, a5, a6, a7, rfl⟩
    refine ⟨fun σ' H' => Ex1 p H1 H' ∧ Feed H' p (S + 4 * ss.length + 2) ∧ ∃ k : Nat, k < z.length ∧ σ' = [some (.ref p), some (.ref a), some (.ref l), some (.int (k : Nat)), some (.ref m), y5, y6], ?_, ?_⟩
    · refine ⟨_, rfl, p, 3, _, rfl, f1, by decide, by decide, by omega, fun b H2 b0 b1 f2 x2 => ?_⟩
      refine ⟨_, _, rfl, rfl, _, rfl, ite2 (fun c => ?_) (fun c => ?_)⟩
      · refine ⟨_, rfl, _, rfl, l, _, rfl, .inl (SqL.of (x2 _ _ nlp el)), p, _, _, rfl, f2, ?_, ?_, by omega, fun d H3 d0 d1 f3 x3 => ?_⟩
        · rw [List.length_map]; omega
        · rw [List.length_map]; omega
        · rw [List.length_map] at d1
          refine ⟨x2.trans x3, f3.le (by omega), d.toNat, by omega, ?_⟩
          rw [show ((d.toNat : Nat) : Int) = d by omega]
          rfl
      · exact ⟨x2, f2.le (by omega), k, hk, rfl⟩
    rintro σ2 H2 ⟨x2, f2, k, hk, rfl⟩
    have el2 := x2 _ _ nlp el
    have em2 := em.drawn f1 nmp x2
    have hkl : k < (lft z ss).length := by omega
    have gk := hI _ (Bx.getD_mem hkl)
    have gk1 : 1 ≤ (lft z ss).getD k 0 := by
      have : (lft z ss).getD k 0 ≠ 0 := fun e => n0 (e ▸ Bx.getD_mem hkl)
      omega
    generalize hR : (lft z ss).getD k 0 = R at *
    have at2 : atI ((lft z ss).map V.int) ((k : Nat) : Int) = some (.int R) := by
      rw [← hR]
      exact ints_atI hkl
    refine ⟨_, rfl, _, rfl, l, _, _, _, rfl, rfl, SqL.of el2, at2, _, _, rfl, ?_⟩
    refine ⟨_, rfl, _, rfl, l, _, _, _, rfl, rfl, SqL.of el2, at2, _, _, rfl, rfl, _, _, rfl, rfl, ⟨by omega, by omega⟩, ?_⟩
    refine ⟨_, rfl, _, rfl, _, rfl, l, _, _, _, rfl, rfl, SqL.of el2, at2, p, R, _, rfl, f2, by omega, by omega, by omega, fun c H3 c0 c1 f3 x3 => ?_⟩
    have el3 := x3 _ _ nlp el2
    refine ⟨_, _, rfl, rfl, _, rfl, _, rfl, l, _, _, _, rfl, rfl, SqL.of el3, at2, ?_⟩
    refine ⟨(by show 6 ≤ sizeLine; decide), fun o no => ?_⟩
    have f4 := f3.stays (o := .lst [.int 1, .int (if R < 2 then R else 2), .int 1, .int ((R + 1).fdiv 2), .int (1 + c), .int R]) no
    refine ⟨_, rfl, _, rfl, p, 6, _, rfl, f4, by decide, by decide, by omega, fun d H5 d0 d1 f5 x5 => ?_⟩
    obtain ⟨g, hg, eg⟩ := at_list (f := V.int) (xs := [1, if R < 2 then R else 2, 1, (R + 1).fdiv 2, 1 + c, R]) d0 (by simpa using d1)
    have gb : 1 ≤ g ∧ g ≤ R := by
      rw [fdiv2] at hg
      simp only [List.mem_cons, List.not_mem_nil, or_false] at hg
      split at hg <;> omega
    refine ⟨o, _, d, .int g, rfl, rfl, SqL.of (x5 _ _ (f3.not no) upd_same), eg, ?_⟩
    have x35 : Ex1 p H2 H5 := (x3.trans (Ex1.new no)).trans x5
    have el5 := x35 _ _ nlp el2
    have em5 := em2.drawn f2 nmp x35
    obtain ⟨bs, ebs, _⟩ := id em5
    refine ⟨_, rfl, .inl ⟨rfl, _, SqL.of ebs⟩, _, rfl, _, rfl, (by show 2 ≤ sizeLine; decide), fun b nb => ?_⟩
    obtain ⟨xs, exs, lxs, em6⟩ := em5.push (k := k) (g := g) nb
    refine ⟨m, xs, _, rfl, rfl, exs, by rw [lxs]; omega, ?_⟩
    have nbl : l ≠ b := ne_of_none el5 nb
    have el6 : upd (upd H5 b (.tup [.int (k : Nat), .int g])) m (.lst (xs ++ [.ref b])) l = some (.lst ((lft z ss).map V.int)) := by
      rw [upd_ne nml.symm, upd_ne nbl]
      exact el5
    refine ⟨_, rfl, _, rfl, l, _, _, _, rfl, rfl, SqL.of el6, at2, _, rfl, _, _, rfl, rfl, ?_⟩
    refine ⟨_, rfl, _, rfl, l, _, _, k, rfl, rfl, el6, ixN_nat (by rw [List.length_map]; exact hkl), ?_⟩
    have eR : lft z (ss ++ [(k, g)]) = red (lft z ss) (k, g) := lft_snoc
    have esum : (lft z (ss ++ [(k, g)])).sum = (lft z ss).sum - g := by rw [eR, sum_red hkl]
    have hL2 : Leg z (ss ++ [(k, g)]) := hL.snoc n0 hk gb.1 (by show g ≤ (lft z ss).getD k 0; rw [hR]; exact gb.2)
    have hI2 := In.sum (by omega) (lft_in hz hL2)
    refine ⟨ss ++ [(k, g)], k, _, _, ?_, ?_, ?_, ?_, hL2, hk, ?_, ?_, hI2.1, rfl⟩
    · exact ex1_own nl (ex1_own nm0 (((x1.trans x2).trans x35).trans (Ex1.new nb)))
    · refine (((f5.stays nb).off nmp).off nlp).le ?_
      simp only [List.length_append, List.length_singleton]
      omega
    · rw [upd_same, eR, map_set]
      show some (HO.lst (((lft z ss).set k (R - g)).map V.int)) = _
      rw [← hR]
      rfl
    · refine em6.tups (Tups.upd_lst el6) ?_
      rw [upd_ne nml]
    · rw [esum]
      simp only [List.length_append, List.length_singleton]
      omega
    · rw [esum]
      omega
  · have e : ¬ ((!inV (.int 0) ((lft z ss).map V.int)) = true) := e
    rw [in_ints] at e
    have n0 : (0 : Int) ∈ lft z ss := by simpa using e
    exact ⟨_, rfl, q m ss H1 x1 (f1.le (by omega)) nm0 em hL n0 (by omega)⟩
end
end K27
end

section
set_option Elab.async false
set_option linter.all false
set_option maxRecDepth 100000
set_option maxHeartbeats 4000000
namespace K27
open PySem PySem.Spec PyProof.Rows L2 Gd Bx
/-- choices of positions in a list -/
def ChoicesL (K : PySem.W.Frag) (H : Hp) (a : Addr) (cs : List (List Int)) : Prop :=
  ∃ bs : List Addr, H a = some (.lst (bs.map V.ref)) ∧ bs.length = cs.length ∧ ∀ (i : Nat) (b : Addr) (c : List Int), bs[i]? = some b → cs[i]? = some c → SqT K H b (c.map V.int)
theorem ChoicesL.tups {K : PySem.W.Frag} {H H' : Hp} {a : Addr} {cs : List (List Int)} (h : ChoicesL K H a cs) (t : Tups K H H') (e : H' a = H a) : ChoicesL K H' a cs := by
  obtain ⟨bs, h1, h2, h3⟩ := h
  exact ⟨bs, e.trans h1, h2, fun i b s e1 e2 => t _ _ (h3 i b s e1 e2)⟩
theorem ChoicesL.drawn {K : PySem.W.Frag} {H H' : Hp} {p a : Addr} {S : Int} {cs : List (List Int)} (h : ChoicesL K H a cs) (F : Feed H p S) (n : a ≠ p) (x : Ex1 p H H') : ChoicesL K H' a cs := by
  obtain ⟨bs, h1, h2, h3⟩ := h
  exact ⟨bs, x _ _ n h1, h2, fun i b s e1 e2 => ex1_tup F x (h3 i b s e1 e2)⟩
theorem ChoicesL.push {K : PySem.W.Frag} {H : Hp} {a b : Addr} {cs : List (List Int)} {c : List Int} (h : ChoicesL K H a cs) (hb : SqT K H b (c.map V.int)) :
    ∃ xs : List V, H a = some (.lst xs) ∧ xs.length = cs.length ∧ ChoicesL K (upd H a (.lst (xs ++ [.ref b]))) a (cs ++ [c]) := by
  obtain ⟨bs, h1, h2, h3⟩ := h
  refine ⟨_, h1, by rw [List.length_map, h2], bs ++ [b], ?_, by simp [h2], ?_⟩
  · rw [upd_same, List.map_append]
    rfl
  · intro i y s ec es
    have T := Tups.upd_lst (K := K) (ys := bs.map V.ref ++ [.ref b]) h1
    rcases snoc_at ec with ec | ⟨ei, ec⟩
    · rcases snoc_at es with es | ⟨ej, es⟩
      · exact T _ _ (h3 i y s ec es)
      · have := at_lt ec
        omega
    · rcases snoc_at es with es | ⟨ej, es⟩
      · have := at_lt es
        omega
      · rw [ec, es]
        exact T _ _ hb
abbrev nDrawn : List Str := ["_law_feed_here", "_law_sizes_here", "_law_found", "_law_k", "_law_size"]
theorem scDrawn : FnScope nDrawn ["_law_feed_here", "_law_sizes_here"] (defScope sDrawn) :=
  ⟨rfl, rfl, rfl, by decide +kernel, rfl, by decide +kernel, by decide +kernel⟩
def spDrawn (K : PySem.W.Frag) : Sp := fun vs H Q _ => ∃ (p a : Addr) (S : Int) (z : List Int), vs = [.ref p, .ref a] ∧ Feed H p S ∧ S ≤ 100000000 ∧ H a = some (.lst (z.map V.int)) ∧ a ≠ p ∧ 1 ≤ z.length ∧ z.length ≤ 3 ∧ In 60 z ∧
  ∀ (l : Addr) (cs : List (List Int)) (H' : Hp), Ex1 p H H' → Feed H' p (S + 30) → H l = none → ChoicesL K H' l cs → (∀ c ∈ cs, Choice z c) → cs.length ≤ 12 → Q (.ref l) H'
theorem choice_zero {z : List Int} (n0 : (0 : Int) ∉ z) (h : In 60 z) : Choice z (List.replicate z.length 0) := by
  refine ⟨by simp, fun i hi => ?_, fun i hi => ?_⟩
  · rw [List.getD_eq_getElem?_getD, List.getElem?_replicate, if_pos hi]
    simp
  · rw [List.getD_eq_getElem?_getD, List.getElem?_replicate, if_pos hi]
    have h1 := Bx.getD_mem hi
    have h2 := h _ h1
    have : z.getD i 0 ≠ 0 := fun e => n0 (e ▸ h1)
    simp only [Option.getD_some]
    omega
theorem map_getD {z : List Int} {f : Int → Int} {i : Nat} (hi : i < z.length) : (z.map f).getD i 0 = f (z.getD i 0) := by
  rw [List.getD_eq_getElem?_getD, List.getElem?_map, List.getD_eq_getElem?_getD, List.getElem?_eq_getElem hi] <;> rfl
theorem choice_last {z : List Int} (n0 : (0 : Int) ∉ z) (h : In 60 z) : Choice z (z.map fun x => x - 1) := by
  refine ⟨by simp, fun i hi => ?_, fun i hi => ?_⟩
  · rw [map_getD hi]
    have h1 := Bx.getD_mem hi
    have h2 := h _ h1
    have : z.getD i 0 ≠ 0 := fun e => n0 (e ▸ h1)
    omega
  · rw [map_getD hi]
    omega
section
variable {P : Program} {w : World} {K : PySem.W.Frag} {mg : Str → Option Value} {base : Heap} {f fT : Addr} {fd dT : FuncData}
theorem ok_drawn (F : Fun K "_law_drawn" "_law_drawn" sDrawn f fd) (mt : mg "tuple" = none) (mn : mg "len" = none) (mr : mg "range" = none) (FT : Fun K "_law_take" "_law_take" sTake fT dT) (bT : Binds K dT ["_law_feed_here", "_law_many"] []) (gT : mg "_law_take" = some (.ref fT)) :
    FnOk P w K mg base CX0 2 f fd ["_law_feed_here", "_law_sizes_here"] (spDrawn K) := by
  have G : FnOk P w K mg base CX0 1 fT dT ["_law_feed_here", "_law_many"] spTake := ok_take FT
  refine F.ok scDrawn (fun vs H Q E h => ?_) (fun cdv A outer s H vs Q E hr h => ?_)
  · obtain ⟨p, a, S, z, rfl, _⟩ := h
    rfl
  obtain ⟨p, a, S, z, rfl, hF, hS, ea, nap, l1, l3, hz, q⟩ := h
  have nd := scDrawn.nd
  have zl : sizeLine = 16777216 := rfl
  refine ⟨_, pss_cons (ps_if (pt_cmpR op_in_seq pe_int (pv 1) (by with_unfolding_all rfl)) (pss_one (ps_ret (pe_lst pa_nil))) pss_nil)
    (pss_cons (ps_set (i := 2) nd rfl (.inl rfl) (pe_lst (pa_cons (pe_tupleOf (by rfl) mt (pe_op op_rep (pe_lst (pa_cons pe_int pa_nil)) (pe_callB call_len_seq (by rfl) mn PySem.boot_len (pa_cons (pv 1) pa_nil))))
        (pa_cons (pe_tupleOf (by rfl) mt (pe_lc (own := [("_law_size", 4)]) (g := gName 4) (tt := tYes) rfl nd (pi_list (pv 1)) (blkOk_by (N := nDrawn) (sc := defScope sDrawn) (by decide +kernel))
            (fun _ _ _ _ _ => pg_name (i := 4) nd rfl (Or.inl rfl)) (fun _ _ _ _ _ => pts_nil) (fun _ _ _ _ _ => pe_op op_sub (pv 4) pe_int))) pa_nil))))
    (pss_cons (ps_for PassesOwn.never rfl (pi_range1 (by rfl) mr (pa_cons pe_int pa_nil)) (pg_name (i := 3) nd rfl (.inl rfl))
      (pss_one (ps_expr (pe_bm PySem.F.plainAttrs_list PySem.F.slot_list_append PySem.F.type_list_append mt_append (pv 2)
        (pa_cons (pe_tupleOf (by rfl) mt (pe_lc (own := [("_law_size", 4)]) (g := gName 4) (tt := tYes) rfl nd (pi_list (pv 1)) (blkOk_by (N := nDrawn) (sc := defScope sDrawn) (by decide +kernel))
            (fun _ _ _ _ _ => pg_name (i := 4) nd rfl (Or.inl rfl)) (fun _ _ _ _ _ => pts_nil) (fun _ _ _ _ _ => pe_call G hr (by rfl) gT FT.kp bT .nil pass0 (pa_cons (pv 0) (pa_cons (pv 4) pa_nil))))) pa_nil)))))
    (pss_one (ps_ret (pv 2))))), ?_⟩
  refine ⟨_, rfl, a, _, rfl, .inl (SqL.of ea), rfl, flat_ints _, _, rfl, ?_⟩
  refine ite2 (fun e => ?_) (fun e => ?_)
  · refine ⟨by decide, fun l nl => ?_⟩
    exact q l [] _ (Ex1.new nl) ((hF.stays nl).le (by omega)) nl ⟨[], upd_same, rfl, fun i b s e => nomatch e⟩ (fun c h => nomatch h) (by simp)
  have e : ¬ (inV (.int 0) (z.map V.int) = true) := e
  rw [in_ints] at e
  have n0 : (0 : Int) ∉ z := by simpa using e
  have hz1 : ∀ i, i < z.length → 1 ≤ z.getD i 0 ∧ z.getD i 0 ≤ 60 := fun i hi => by
    have h1 := Bx.getD_mem hi
    have h2 := hz _ h1
    have : z.getD i 0 ≠ 0 := fun e => n0 (e ▸ h1)
    omega
  -- the first choice
  refine ⟨(by show 1 ≤ sizeLine; decide), fun l1' nl1 => ?_⟩
  have x1 : Same H (upd H l1' (.lst [.int 0])) := new_same nl1
  refine ⟨_, rfl, a, _, rfl, .inl (x1.seq (SqL.of ea)), ?_⟩
  refine ⟨l1', _, _, rfl, rfl, upd_same, by omega, by rw [List.length_map]; omega, by rw [List.length_map]; simp only [List.length_singleton]; omega, fun l2 nl2 => ?_⟩
  have erep : (List.replicate (((z.map V.int).length : Nat) : Int).toNat [V.int 0]).flatten = (List.replicate z.length (0 : Int)).map V.int := by
    rw [List.length_map, Int.toNat_natCast]
    induction z.length with
    | zero => rfl
    | succ n ih => rw [List.replicate_succ, List.flatten_cons, ih, List.replicate_succ, List.map_cons] <;> rfl
  rw [erep]
  have x2 := x1.trans (new_same (o := .lst ((List.replicate z.length (0 : Int)).map V.int)) nl2)
  refine .inl ⟨l2, _, rfl, SqL.of upd_same, fun t1 nt1 => ?_⟩
  have x3 := x2.trans (new_same (o := .tup ((List.replicate z.length (0 : Int)).map V.int)) nt1)
  generalize hH3 : upd (upd (upd H l1' (.lst [.int 0])) l2 (.lst ((List.replicate z.length (0 : Int)).map V.int))) t1 (.tup ((List.replicate z.length (0 : Int)).map V.int)) = H3 at x3 ⊢
  have et1 : SqT K H3 t1 ((List.replicate z.length (0 : Int)).map V.int) := by
    rw [← hH3]
    exact SqT.of upd_same
  -- the last one
  refine ⟨_, rfl, a, rfl, ⟨_, x3.seq (SqL.of ea)⟩, fun l4 nl4 => ?_⟩
  refine lc_it walk_list (fun i H4 => Same H3 H4 ∧ H4 l4 = some (.lst (((z.map fun x => x - 1).take i).map V.int))) ⟨new_same nl4, by rw [List.take_zero]; exact upd_same⟩ (fun i H4 _ h => (x3.trans h.1).seq (SqL.of ea)) ?_ ?_
  · rintro i x H4 H5 hi ⟨s4, e4⟩ ⟨rfl, ex⟩
    rw [List.length_map] at hi
    have ex := (ints_at hi).symm.trans ex
    cases ex
    refine ⟨rfl, ?_⟩
    refine ⟨_, rfl, _, _, rfl, rfl, ?_⟩
    refine ⟨_, e4, by rw [List.length_map, List.length_take, List.length_map]; omega, own_same nl4 s4, ?_⟩
    rw [upd_same, take_at (x := z.getD i 0 - 1) (by rw [List.getElem?_map, Gd.getD_at hi] <;> rfl), List.map_append]
    rfl
  rintro H4 ⟨s4, e4⟩
  rw [List.length_map, List.take_of_length_le (by simp)] at e4
  refine .inl ⟨l4, _, rfl, SqL.of e4, fun t2 nt2 => ?_⟩
  have s5 := s4.trans (new_same (o := .tup ((z.map fun x => x - 1).map V.int)) nt2)
  refine ⟨(by show 2 ≤ sizeLine; decide), fun m nm => ?_⟩
  have s6 := s5.trans (new_same (o := .lst [.ref t1, .ref t2]) nm)
  have s06 := x3.trans s6
  have nm0 : H m = none := (x3.trans s5).free nm
  have nmp := hF.not nm0
  refine ⟨10, rfl, by decide, by decide, ?_⟩
  refine for_it walk_range (fun i σ H7 => Ex1 p H H7 ∧ Feed H7 p (S + 3 * i) ∧ (∃ cs : List (List Int), ChoicesL K H7 m cs ∧ cs.length = i + 2 ∧ ∀ c ∈ cs, Choice z c) ∧ ∃ y3 y4, σ = [some (.ref p), some (.ref a), some (.ref m), y3, y4])
    ⟨ex1_of_same s06, (hF.kept s06).le (by omega), ⟨[List.replicate z.length 0, z.map fun x => x - 1], ⟨[t1, t2], upd_same, rfl, ?_⟩, rfl, ?_⟩, none, none, rfl⟩ (fun _ _ _ _ _ => trivial) ?_ ?_
  · intro i b c eb ec
    match i, eb, ec with
    | 0, eb, ec =>
      cases eb
      cases ec
      exact same_tup s6 et1
    | 1, eb, ec =>
      cases eb
      cases ec
      exact same_tup (new_same nm) (SqT.of upd_same)
    | i + 2, eb, ec => simp at eb
  · intro c hc
    simp only [List.mem_cons, List.not_mem_nil, or_false] at hc
    rcases hc with rfl | rfl
    · exact choice_zero n0 hz
    · exact choice_last n0 hz
  · rintro i x σ H7 H8 hi ⟨x7, f7, ⟨cs, hcs, lcs, ocs⟩, y3, y4, rfl⟩ ⟨rfl, rfl⟩
    have ea8 := x7 _ _ nap ea
    obtain ⟨bs0, ebs0, _⟩ := id hcs
    refine ⟨_, rfl, .inl ⟨rfl, _, SqL.of ebs0⟩, ?_⟩
    refine ⟨_, rfl, a, rfl, ⟨_, SqL.of ea8⟩, fun l9 nl9 => ?_⟩
    have n9p := f7.not nl9
    refine lc_it walk_list (fun j H9 => Ex1 p H8 H9 ∧ Feed H9 p (S + 3 * i + j) ∧ ∃ c : List Int, H9 l9 = some (.lst (c.map V.int)) ∧ c.length = j ∧ ∀ k, k < j → 0 ≤ c.getD k 0 ∧ c.getD k 0 < z.getD k 0)
      ⟨Ex1.new nl9, (f7.stays nl9).le (by omega), [], upd_same, rfl, fun k hk => absurd hk (by omega)⟩ (fun j H9 _ h => SqL.of (h.1 _ _ nap ea8)) ?_ ?_
    · rintro j x H9 H10 hj ⟨x9, f9, c, e9, lc, oc⟩ ⟨rfl, ex⟩
      rw [List.length_map] at hj
      have ex := (ints_at hj).symm.trans ex
      cases ex
      obtain ⟨b1, b2⟩ := hz1 j hj
      refine ⟨rfl, ?_⟩
      refine ⟨_, rfl, _, rfl, p, _, _, rfl, f9, by omega, by omega, by omega, fun r H11 r0 r1 f11 x11 => ?_⟩
      refine ⟨_, x11 _ _ n9p e9, by rw [List.length_map]; omega, ex1_own nl9 (x9.trans x11), (f11.off n9p).le (by omega), c ++ [r], ?_, by simp [lc], ?_⟩
      · rw [upd_same, List.map_append]
        rfl
      · intro k hk
        rw [List.getD_eq_getElem?_getD, List.getElem?_append]
        by_cases ck : k < c.length
        · rw [if_pos ck, ← List.getD_eq_getElem?_getD]
          exact oc k (by omega)
        · rw [if_neg ck, show k - c.length = 0 by omega]
          rw [show k = j by omega]
          exact ⟨r0, r1⟩
    rintro H9 ⟨x9, f9, c, e9, lc, oc⟩
    rw [List.length_map] at lc oc f9
    refine .inl ⟨l9, _, rfl, SqL.of e9, fun t nt => ?_⟩
    have x10 : Ex1 p H8 (upd H9 t (.tup (c.map V.int))) := x9.trans (Ex1.new nt)
    obtain ⟨xs, exs, lxs, hcs2⟩ := (hcs.drawn f7 nmp x10).push (b := t) (c := c) (SqT.of upd_same)
    refine ⟨m, xs, _, rfl, rfl, exs, by rw [lxs]; omega, ?_⟩
    refine ⟨ex1_own nm0 (x7.trans x10), ((f9.stays nt).off nmp).le (by omega), ⟨cs ++ [c], hcs2, by simp [lcs], ?_⟩, _, _, rfl⟩
    intro d hd
    rcases List.mem_append.mp hd with hd | hd
    · exact ocs d hd
    · rw [List.mem_singleton.mp hd]
      exact ⟨lc, fun k hk => (oc k hk).1, fun k hk => (oc k hk).2⟩
  · rintro σ H7 ⟨x7, f7, ⟨cs, hcs, lcs, ocs⟩, y3, y4, rfl⟩
    exact ⟨_, rfl, q m cs H7 x7 (f7.le (by omega)) nm0 hcs ocs (by omega)⟩

theorem scProd : FnScope ["_law_numbers", "_law_found", "_law_number"] ["_law_numbers"] (defScope sProd) :=
  ⟨rfl, rfl, rfl, by decide +kernel, rfl, by decide +kernel, by decide +kernel⟩
def spProd (K : PySem.W.Frag) : Sp := fun vs H Q _ => ∃ (a : Addr) (z : List Int), vs = [.ref a] ∧ SqL K H a (z.map V.int) ∧ (∀ x ∈ z, x.natAbs ≤ 1000000) ∧ Q (.int (prod z)) H
theorem ok_prod (F : Fun K "_law_product" "_law_product" sProd f fd) : FnOk P w K mg base CX0 1 f fd ["_law_numbers"] (spProd K) := by
  refine F.ok scProd (fun vs H Q E h => ?_) (fun cdv A outer s H vs Q E hr h => ?_)
  · obtain ⟨a, z, rfl, _⟩ := h
    rfl
  obtain ⟨a, z, rfl, ha, hz, q⟩ := h
  have nd := scProd.nd
  refine ⟨_, pss_cons (ps_set (i := 1) nd rfl (.inl rfl) pe_int)
    (pss_cons (ps_for PassesOwn.never rfl (pi_list (pv 0)) (pg_name (i := 2) nd rfl (.inl rfl)) (pss_one (ps_set (i := 1) nd rfl (.inl rfl) (pe_op op_mul (pv 1) (pv 2)))))
    (pss_one (ps_ret (pv 1)))), ?_⟩
  refine ⟨_, rfl, a, rfl, ⟨_, ha⟩, ?_⟩
  refine for_it walk_list (fun i σ H1 => H1 = H ∧ ∃ y, σ = [some (.ref a), some (.int (prod (z.take i))), y]) ⟨rfl, none, rfl⟩ (fun i σ H1 _ h => by rw [h.1]; exact ha) ?_ ?_
  · rintro i x σ H1 H2 hi ⟨rfl, y, rfl⟩ ⟨rfl, ex⟩
    rw [List.length_map] at hi
    have ex := (ints_at hi).symm.trans ex
    cases ex
    have b := hz _ (Bx.getD_mem hi)
    refine ⟨_, rfl, _, rfl, _, _, rfl, rfl, .inr ⟨by omega, by omega⟩, rfl, some (.int (z.getD i 0)), ?_⟩
    rw [take_at (Gd.getD_at hi), prod_snoc]
    rfl
  · rintro σ H1 ⟨rfl, y, rfl⟩
    rw [List.length_map, List.take_length]
    exact ⟨_, rfl, q⟩
end
end K27
end

section
set_option Elab.async false
set_option linter.all false
set_option maxRecDepth 100000
set_option maxHeartbeats 4000000
namespace K27
open PySem PySem.Spec PyProof.Rows L2 Gd Bx
def vI (i : Nat) : V := .int ((i : Nat) : Int)
abbrev sOrder : Stmt := topS 14
abbrev nOrder : List Str := ["_law_feed_here", "_law_many", "_law_some", "_law_k"]
theorem scOrder : FnScope nOrder ["_law_feed_here", "_law_many"] (defScope sOrder) := ⟨rfl, rfl, rfl, by decide +kernel, rfl, by decide +kernel, by decide +kernel⟩
theorem walk_upto {n : Nat} : Walk (Itr 0 n) n (fun _ => True) (YFn fun i => .int ((i : Nat) : Int)) :=
  walk_range.mono (fun _ _ => trivial) (fun i H x H' _ _ y => ⟨y.1, y.2.trans (by show V.int (0 + ((i : Nat) : Int)) = V.int ((i : Nat) : Int); rw [Int.zero_add])⟩)
def spOrder : Sp := fun vs H Q _ => ∃ (p : Addr) (S : Int) (n : Nat), vs = [.ref p, .int ((n : Nat) : Int)] ∧ Feed H p S ∧ S ≤ 100000000 ∧ 1 ≤ n ∧ n ≤ 3 ∧
  ∀ (l : Addr) (o : List Nat) (H' : Hp), Ex1 p H H' → Feed H' p (S + 3) → H l = none → H' l = some (.lst (o.map vI)) → Ord o n → Q (.ref l) H'
theorem rg_vI (n : Nat) : rgV 0 ((n : Nat) : Int) = (List.range n).map vI := by
  unfold rgV
  rw [Int.sub_zero, Int.toNat_natCast]
  refine List.map_congr_left fun i _ => ?_
  show V.int (0 + ((i : Nat) : Int)) = V.int ((i : Nat) : Int)
  rw [Int.zero_add]
theorem erase_map {α β : Type} (f : α → β) : ∀ (l : List α) (k : Nat), (l.map f).eraseIdx k = (l.eraseIdx k).map f
  | [], _ => rfl
  | x :: l, 0 => rfl
  | x :: l, k + 1 => by
    show f x :: (l.map f).eraseIdx k = f x :: (l.eraseIdx k).map f
    rw [erase_map f l k]
theorem cons_erase : ∀ {l : List Nat} {k : Nat} (h : k < l.length), (l[k] :: l.eraseIdx k).Perm l
  | x :: l, 0, _ => List.Perm.refl _
  | x :: l, k + 1, h => by
    have hk : k < l.length := by simpa using h
    exact (List.Perm.swap x l[k] _).trans ((cons_erase hk).cons x)
theorem pop_perm {out rest : List Nat} {k n : Nat} (h : k < rest.length) (p : (out ++ rest).Perm (List.range n)) : ((out ++ [rest[k]]) ++ rest.eraseIdx k).Perm (List.range n) := by
  refine List.Perm.trans ?_ p
  rw [List.append_assoc]
  exact (cons_erase h).append_left out
section
variable {P : Program} {w : World} {K : PySem.W.Frag} {mg : Str → Option Value} {base : Heap} {f fT : Addr} {fd dT : FuncData}
theorem ok_order (F : Fun K "_law_order" "_law_order" sOrder f fd) (ml : mg "list" = none) (mr : mg "range" = none) (mn : mg "len" = none) (FT : Fun K "_law_take" "_law_take" sTake fT dT) (bT : Binds K dT ["_law_feed_here", "_law_many"] []) (gT : mg "_law_take" = some (.ref fT)) :
    FnOk P w K mg base CX0 2 f fd ["_law_feed_here", "_law_many"] spOrder := by
  have G : FnOk P w K mg base CX0 1 fT dT ["_law_feed_here", "_law_many"] spTake := ok_take FT
  refine F.ok scOrder (fun vs H Q E h => ?_) (fun cdv A outer s H vs Q E hr h => ?_)
  · obtain ⟨p, S, n, rfl, _⟩ := h
    rfl
  obtain ⟨p, S, n, rfl, hF, hS, n1, n3, q⟩ := h
  have nd := scOrder.nd
  have zl : sizeLine = 16777216 := rfl
  refine ⟨_, pss_cons (ps_set (i := 2) nd rfl (.inr rfl) (pe_listRg rfl (by rfl) ml (prg_1 (by rfl) mr (pv 1))))
    (pss_one (ps_ret (pe_lc (own := [("_law_k", 3)]) (g := gName 3) (tt := tYes) rfl nd (pi_range1 (by rfl) mr (pa_cons (pv 1) pa_nil)) (blkOk_by (N := nOrder) (sc := defScope sOrder) (by decide +kernel))
      (fun _ _ _ _ _ => pg_name (i := 3) nd rfl (Or.inl rfl)) (fun _ _ _ _ _ => pts_nil)
      (fun _ _ _ _ _ => pe_bmK K rPopAt PySem.F.plainAttrs_list PySem.F.slot_list_pop PySem.F.type_list_pop mt_popAt (pv 2)
        (pa_cons (pe_call G hr (by rfl) gT FT.kp bT .nil pass0 (pa_cons (pv 0) (pa_cons (pe_callB (call_lenK K) (by rfl) mn PySem.boot_len (pa_cons (pv 2) pa_nil)) pa_nil))) pa_nil))))), ?_⟩
  refine ⟨_, rfl, _, rfl, RgOk.of_le (by omega) (by omega) (by omega) (by omega), fun s ns => ?_⟩
  rw [rg_vI]
  have nsp := hF.not ns
  have f1 := hF.stays (o := .lst ((List.range n).map vI)) ns
  have x1 : Ex1 p H (upd H s (.lst ((List.range n).map vI))) := Ex1.new ns
  refine ⟨_, rfl, _, rfl, by omega, by omega, fun D nD => ?_⟩
  have nDp := f1.not nD
  have nDs : D ≠ s := fun e => by rw [e, upd_same] at nD; cases nD
  have nD0 : H D = none := by rw [upd_ne nDs] at nD; exact nD
  refine lc_it walk_upto (fun j H9 => Ex1 p H H9 ∧ Feed H9 p (S + j) ∧ ∃ out rest : List Nat, H9 s = some (.lst (rest.map vI)) ∧ H9 D = some (.lst (out.map vI)) ∧ (out ++ rest).Perm (List.range n) ∧ out.length = j)
    ⟨x1.trans (Ex1.new nD), (f1.stays nD).le (by omega), [], List.range n, by rw [upd_ne nDs.symm]; exact upd_same, upd_same, List.Perm.refl _, rfl⟩ (fun _ _ _ _ => trivial) ?_ ?_
  · rintro j x H9 H10 hj ⟨x9, f9, out, rest, es, eD, pm, lo⟩ ⟨rfl, rfl⟩
    rw [Int.toNat_natCast] at hj
    have ll := pm.length_eq
    rw [List.length_append, List.length_range, lo] at ll
    refine ⟨rfl, ?_⟩
    refine ⟨_, rfl, .inl ⟨rfl, _, SqL.of es⟩, ?_⟩
    refine ⟨_, rfl, _, rfl, s, _, rfl, .inl (SqL.of es), ?_⟩
    refine ⟨p, _, _, rfl, f9, by rw [List.length_map]; omega, by rw [List.length_map]; omega, by omega, fun r H11 r0 r1 f11 x11 => ?_⟩
    rw [List.length_map] at r1
    have es11 := x11 _ _ nsp es
    have hk : r.toNat < rest.length := by omega
    refine ⟨s, _, r, r.toNat, _, rfl, rfl, es11, by omega, by omega, seqIndex_of r0 (by rw [List.length_map]; exact r1), by rw [List.getElem?_map, List.getElem?_eq_getElem hk] <;> rfl, ?_⟩
    have e12 : upd H11 s (.lst ((rest.map vI).eraseIdx r.toNat)) D = some (.lst (out.map vI)) := by
      rw [upd_ne nDs]
      exact x11 _ _ nDp eD
    refine ⟨_, e12, by rw [List.length_map]; omega, ?_, ?_, out ++ [rest[r.toNat]], rest.eraseIdx r.toNat, ?_, ?_, pop_perm hk pm, by simp [lo]⟩
    · exact ex1_own nD0 (ex1_own ns (x9.trans x11))
    · exact ((f11.off nsp).off nDp).le (by omega)
    · rw [upd_ne nDs.symm, upd_same, erase_map]
    · rw [upd_same, List.map_append]
      rfl
  rintro H9 ⟨x9, f9, out, rest, es, eD, pm, lo⟩
  rw [Int.toNat_natCast] at lo f9
  have ll := pm.length_eq
  rw [List.length_append, List.length_range, lo] at ll
  have e0 : rest = [] := List.eq_nil_of_length_eq_zero (by omega)
  rw [e0, List.append_nil] at pm
  exact q D out H9 x9 (f9.le (by omega)) nD0 eD ⟨pm⟩
end
end K27
end

section
set_option Elab.async false
set_option linter.all false
set_option maxRecDepth 100000
set_option maxHeartbeats 8000000
namespace K27
open PySem PySem.Spec PyProof.Rows L2 Gd Bx
theorem zeros_ge {z c : List Int} (h : Choice z c) : ge c (List.replicate z.length 0) = true := by
  rw [ge_iff (by rw [h.len, List.length_replicate])]
  intro j hj
  rw [List.length_replicate] at hj
  rw [List.getD_eq_getElem?_getD, List.getElem?_replicate, if_pos hj]
  exact h.low j hj
theorem of_one {z c : List Int} {ss : List Slab} (hL : Leg z ss) (h0 : (0 : Int) ∈ lft z ss) (h : Choice z c) : ∃ j, hits (List.replicate z.length 0) ss c 0 = [j] ∧ slabOf (List.replicate c.length 0) ss c 0 = some j ∧ j < ss.length := by
  obtain ⟨j, ej, j0, j1⟩ := hits_one (k := 0) (zeros_box z) h (zeros_ge h) hL h0
  refine ⟨j, ej, ?_, by omega⟩
  unfold slabOf
  rw [h.len, ej]
  rfl
theorem ints_same {K : PySem.W.Frag} {H : Hp} : ∀ ns : List Int, Paired (EqV K H 1) (ns.map V.int) (ns.map V.int)
  | [] => .nil
  | n :: ns => .cons (.inl ⟨rfl, rfl⟩) (ints_same ns)
theorem flat_vI : ∀ o : List Nat, (o.map vI).all flatV = true
  | [] => rfl
  | x :: o => flat_vI o
theorem eq_vI (a b : Nat) : eqV (vI a) (vI b) = decide (a = b) := by
  show (((a : Nat) : Int) == ((b : Nat) : Int)) = _
  by_cases h : a = b
  · rw [h]
    simp
  · rw [decide_eq_false h]
    simp
    omega
theorem vI_at {o : List Nat} {i j : Nat} (h : o[i]? = some j) : (o.map vI)[i]? = some (vI j) := by
  rw [List.getElem?_map, h]
  rfl
abbrev sTurned : Stmt := topS 15
abbrev nTurned : List Str := ["_law_order_here", "_law_sizes_here", "_law_slabs", "_law_drawn_ones", "_law_others", "_law_turned", "_law_choice", "_law_source", "_law_lead", "_law_many"]
theorem scTurned : FnScope nTurned ["_law_order_here", "_law_sizes_here", "_law_slabs", "_law_drawn_ones"] (defScope sTurned) := ⟨rfl, rfl, rfl, by decide +kernel, rfl, by decide +kernel, by decide +kernel⟩
def spTurned (K : PySem.W.Frag) : Sp := fun vs H Q _ => ∃ (e a m d : Addr) (o : List Nat) (z : List Int) (ss : List Slab) (cs : List (List Int)), vs = [.ref e, .ref a, .ref m, .ref d] ∧ SqL K H e (o.map vI) ∧ SqL K H a (z.map V.int) ∧ SlabsAt K H m ss ∧ ChoicesL K H d cs ∧
  Ord o z.length ∧ In 60 z ∧ Leg z ss ∧ (0 : Int) ∈ lft z ss ∧ ss.length ≤ 180 ∧ 1 ≤ z.length ∧ z.length ≤ 3 ∧ (∀ c ∈ cs, Choice z c) ∧ ∀ H', Same H H' → Q (.bl true) H'
theorem turn_take {o : List Nat} {l : List Int} {i j : Nat} (h : o[i]? = some j) : turnL o l = turnL o l ∧ (turnL (o.take (i + 1)) l) = turnL (o.take i) l ++ [l.getD j 0] := by
  refine ⟨rfl, ?_⟩
  unfold turnL
  rw [List.take_add_one, h, List.map_append]
  rfl
section
variable {P : Program} {w : World} {K : PySem.W.Frag} {mg : Str → Option Value} {base : Heap} {f fO fM fA : Addr} {fd dO dM dA : FuncData}
theorem ok_turned (F : Fun K "_law_turned_right" "_law_turned_right" sTurned f fd) (mt : mg "tuple" = none)
    (FO : Fun K "slab_of" "slab_of" sOf fO dO) (GO : FnOk P w K mg base CX0 1 fO dO ["slabs", "positions"] (spOf K)) (bO : Binds K dO ["slabs", "positions"] []) (gO : mg "slab_of" = some (.ref fO))
    (FM : Fun K "met_by" "met_by" sMet fM dM) (GM : FnOk P w K mg base CX0 1 fM dM ["sizes", "slabs"] (spMet K)) (bM : Binds K dM ["sizes", "slabs"] []) (gM : mg "met_by" = some (.ref fM))
    (FA : Fun K "are_whole" "are_whole" sWh fA dA) (GA : FnOk P w K mg base CX0 3 fA dA ["sizes", "thing"] (spWh K)) (bA : Binds K dA ["sizes", "thing"] []) (gA : mg "are_whole" = some (.ref fA)) :
    FnOk P w K mg base CX0 4 f fd ["_law_order_here", "_law_sizes_here", "_law_slabs", "_law_drawn_ones"] (spTurned K) := by
  refine F.ok scTurned (fun vs H Q E h => ?_) (fun cdv A outer s H vs Q E hr h => ?_)
  · obtain ⟨e, a, m, d, o, z, ss, cs, rfl, _⟩ := h
    rfl
  obtain ⟨e, a, m, d, o, z, ss, cs, rfl, he, ha, hm, hd, ho, hz, hL, h0, hlen, l1, l3, hcs, q⟩ := h
  have nd := scTurned.nd
  have zl : sizeLine = 16777216 := rfl
  have hr1 := hr.mono (show 1 ≤ 3 by decide)
  have hf := hL.fine
  refine ⟨_, pss_cons (ps_setLc (i := 4) (own := [("_law_source", 7)]) (g := gName 7) (tt := tYes) rfl nd rfl rfl (by rfl) (pi_list (pv 0)) (blkOk_by (N := nTurned) (sc := defScope sTurned) (by decide +kernel))
        (fun _ _ _ _ _ => pg_name (i := 7) nd rfl (Or.inl rfl)) (fun _ _ _ _ _ => pts_nil) (fun _ _ _ _ _ => pe_ix (r := rIxL K) ix_list (pv 1) (pv 7) (fun _ _ => rfl)))
    (pss_cons (ps_setLc (i := 5) (own := [("_law_lead", 8), ("_law_many", 9)]) (g := gTup K 2 (gCons (gName 8) (gCons (gName 9) gNil))) (tt := tYes) rfl nd rfl rfl (by rfl) (pi_list (pv 2)) (blkOk_by (N := nTurned) (sc := defScope sTurned) (by decide +kernel))
        (fun _ _ _ _ _ => by exact pg_tup rfl (pgs_cons (pg_name (i := 8) nd rfl (Or.inl rfl)) (pgs_cons (pg_name (i := 9) nd rfl (Or.inl rfl)) pgs_nil))) (fun _ _ _ _ _ => pts_nil)
        (fun _ _ _ _ _ => pe_tup (pa_cons (pe_bmK K (rIndex K) PySem.F.plainAttrs_list PySem.F.slot_list_index PySem.F.type_list_index mt_index (pv 0) (pa_cons (pv 8) pa_nil)) (pa_cons (pv 9) pa_nil))))
    (pss_cons (ps_for PassesOwn.never rfl (pi_list (pv 3)) (pg_name (i := 6) nd rfl (.inr rfl))
      (pss_one (ps_if (pt_cmpR op_ne (pe_call GO hr1 (by rfl) gO FO.kp bO .nil pass0 (pa_cons (pv 5) (pa_cons (pe_tupleOf (by rfl) mt
            (pe_lc (own := [("_law_source", 7)]) (g := gName 7) (tt := tYes) rfl nd (pi_list (pv 0)) (blkOk_by (N := nTurned) (sc := defScope sTurned) (by decide +kernel))
              (fun _ _ _ _ _ => pg_name (i := 7) nd rfl (Or.inl rfl)) (fun _ _ _ _ _ => pts_nil) (fun _ _ _ _ _ => pe_ix (r := rIxT K) ix_tup (pv 6) (pv 7) (fun _ _ => rfl)))) pa_nil)))
          (pe_call GO hr1 (by rfl) gO FO.kp bO .nil pass0 (pa_cons (pv 2) (pa_cons (pv 6) pa_nil))) (nomark _)) pss_never pss_nil)))
    (pss_one (ps_ret (pe_and (pe_cmpR (op_eqV hr.units) (pe_call GM hr1 (by rfl) gM FM.kp bM .nil pass0 (pa_cons (pv 4) (pa_cons (pv 5) pa_nil))) (pe_call GM hr1 (by rfl) gM FM.kp bM .nil pass0 (pa_cons (pv 1) (pa_cons (pv 2) pa_nil))) (nomark _))
      (pe_one (pe_cmpR op_is_bl (pe_call GA hr (by rfl) gA FA.kp bA .nil pass0 (pa_cons (pv 4) (pa_cons (pv 5) pa_nil))) pe_bl (nomark _)))))))), ?_⟩
  refine ⟨_, rfl, e, rfl, ⟨_, he⟩, fun D nD => ?_⟩
  refine lc_it walk_list (fun i H1 => Same H H1 ∧ H1 D = some (.lst ((turnL (o.take i) z).map V.int))) ⟨new_same nD, by rw [List.take_zero]; exact upd_same⟩ (fun i H1 _ h => h.1.seq he) ?_ ?_
  · rintro i x H1 H2 hi ⟨s1, eD⟩ ⟨rfl, ex⟩
    obtain ⟨j, ej, rfl⟩ := map_at ex
    have hj := ho.mem.mp (List.mem_of_getElem? ej)
    refine ⟨rfl, ?_⟩
    refine ⟨_, rfl, _, rfl, a, _, _, _, rfl, rfl, s1.seq ha, ints_atI hj, ?_⟩
    refine ⟨_, eD, by rw [List.length_map, turnL, List.length_map, List.length_take]; have := ho.len; omega, own_same nD s1, ?_⟩
    rw [upd_same, (turn_take ej).2, List.map_append]
    rfl
  rintro H1 ⟨s1, eD⟩
  rw [List.length_map, List.take_length] at eD
  obtain ⟨ms, hms, lms, tms⟩ := id hm
  refine ⟨_, rfl, m, rfl, ⟨_, s1.seq hms⟩, fun D2 nD2 => ?_⟩
  have s2 := s1.trans (new_same (o := .lst []) nD2)
  have nD20 : H D2 = none := s1.free nD2
  refine lc_it walk_list (fun i H3 => Same H1 H3 ∧ SlabsL K H3 D2 ((ss.take i).map (turnS o))) ⟨new_same nD2, by rw [List.take_zero]; exact ⟨[], upd_same, rfl, fun i b s e => nomatch e⟩⟩ (fun i H3 _ h => (s1.trans h.1).seq hms) ?_ ?_
  · rintro i x H3 H4 hi ⟨s3, hD2⟩ ⟨rfl, ex⟩
    obtain ⟨b1, e1, rfl⟩ := map_at ex
    obtain ⟨u, eu⟩ := at_of lms.symm (at_lt e1)
    obtain ⟨u1, u2⟩ := fine_at hf eu
    have s13 := s1.trans s3
    refine ⟨_, _, rfl, same_tup s13 (tms i b1 u e1 eu), rfl, _, _, rfl, _, _, rfl, rfl, rfl, ?_⟩
    refine ⟨_, rfl, .inl ⟨rfl, _, s13.seq he⟩, _, rfl, e, _, vI u.1, o.idxOf u.1, vI u.1, rfl, rfl, s13.seq he, rfl, flat_vI _, vI_at (ho.at_ u1), by rw [eq_vI, decide_eq_true rfl], fun k z' hk ez => ?_, ?_⟩
    · obtain ⟨t, et, rfl⟩ := map_at ez
      rw [eq_vI]
      refine decide_eq_false fun q => ?_
      subst q
      have l := at_lt et
      have : o[k] = u.1 := by
        rw [List.getElem?_eq_getElem l] at et
        exact Option.some.inj et
      have := ho.nd.idxOf_getElem k l
      rw [‹o[k] = u.1›] at this
      omega
    refine ⟨_, rfl, (by show 2 ≤ sizeLine; decide), fun b nb => ?_⟩
    obtain ⟨xs, exs, lxs, hD3⟩ := hD2.push (k := o.idxOf u.1) (g := u.2) nb
    refine ⟨xs, exs, by rw [lxs, List.length_map, List.length_take]; omega, own_same nD2 (s3.trans (new_same nb)), ?_⟩
    rw [take_at eu, List.map_append]
    exact hD3
  rintro H3 ⟨s3, hD2⟩
  rw [List.length_map, lms, List.take_length] at hD2
  have s03 := s1.trans s3
  have eD3 := s3 _ _ eD
  obtain ⟨cb, hcb, lcb, tcb⟩ := hd
  have hL2 : Leg (turnL o z) (ss.map (turnS o)) := turn_leg ho rfl hL
  have lz2 : (turnL o z).length = z.length := turn_len ho
  refine ⟨_, rfl, d, rfl, ⟨_, SqL.of (s03 _ _ hcb)⟩, ?_⟩
  refine for_it walk_list (fun i σ H4 => Same H3 H4 ∧ ∃ y6, σ = [some (.ref e), some (.ref a), some (.ref m), some (.ref d), some (.ref D), some (.ref D2), y6, none, none, none])
    ⟨fun _ _ e => e, none, rfl⟩ (fun i σ H4 _ h => SqL.of ((s03.trans h.1) _ _ hcb)) ?_ ?_
  · rintro i x σ H4 H5 hi ⟨s4, y6, rfl⟩ ⟨rfl, ex⟩
    obtain ⟨t, et, rfl⟩ := map_at ex
    obtain ⟨ch, ech⟩ := at_of lcb.symm (at_lt et)
    have hch := hcs ch (List.mem_of_getElem? ech)
    have s04 := s03.trans s4
    have tt := same_tup s04 (tcb i t ch et ech)
    obtain ⟨j, ej, oj, hj⟩ := of_one hL h0 hch
    refine ⟨_, rfl, _, rfl, e, rfl, ⟨_, s04.seq he⟩, fun D3 nD3 => ?_⟩
    refine lc_it walk_list (fun i H6 => Same H5 H6 ∧ H6 D3 = some (.lst ((turnL (o.take i) ch).map V.int))) ⟨new_same nD3, by rw [List.take_zero]; exact upd_same⟩ (fun i H6 _ h => (s04.trans h.1).seq he) ?_ ?_
    · rintro i x H6 H7 hi ⟨s6, eD6⟩ ⟨rfl, ex⟩
      obtain ⟨k, ek, rfl⟩ := map_at ex
      have hk := ho.mem.mp (List.mem_of_getElem? ek)
      refine ⟨rfl, ?_⟩
      refine ⟨_, rfl, _, rfl, t, _, _, _, rfl, rfl, same_tup s6 tt, ints_atI (by rw [hch.len]; exact hk), ?_⟩
      refine ⟨_, eD6, by rw [List.length_map, turnL, List.length_map, List.length_take]; have := ho.len; omega, own_same nD3 s6, ?_⟩
      rw [upd_same, (turn_take ek).2, List.map_append]
      rfl
    rintro H6 ⟨s6, eD6⟩
    rw [List.length_map, List.take_length] at eD6
    refine .inl ⟨D3, _, rfl, SqL.of eD6, fun T nT => ?_⟩
    have s46 := s6.trans (new_same (o := .tup ((turnL o ch).map V.int)) nT)
    refine ⟨D2, T, turnL o ch, _, rfl, hD2.at_.same (s4.trans s46), SqT.of upd_same, by rw [turn_len ho, ← lz2]; exact hL2.fine, by rw [turn_len ho]; omega, fun H7 s7 => ?_⟩
    have eT : slabOf (List.replicate (turnL o ch).length 0) (ss.map (turnS o)) (turnL o ch) 0 = some j := by
      unfold slabOf
      rw [turn_len ho, ← turn_zeros ho, turn_hits ho hch.len List.length_replicate hf, ej]
      rfl
    rw [eT]
    have s07 := (s04.trans s46).trans s7
    refine ⟨_, rfl, _, rfl, m, t, ch, ss, rfl, hm.same s07, same_tup (s46.trans s7) tt, by rw [hch.len]; exact hf, by rw [hch.len]; omega, fun H8 s8 => ?_⟩
    rw [oj]
    refine ⟨rfl, _, rfl, ?_⟩
    rw [decide_eq_true rfl]
    refine iteF ?_
    exact ⟨((s4.trans s46).trans s7).trans s8, _, rfl⟩
  · rintro σ H4 ⟨s4, y6, rfl⟩
    have eD4 := s4 _ _ eD3
    have hD4 := hD2.at_.same s4
    have hz2 : In 60 (turnL o z) := fun x hx => hz x ((turn_perm ho rfl).mem_iff.mp hx)
    refine ⟨_, rfl, _, rfl, D, D2, _, _, rfl, SqL.of eD4, hD4, hz2.mono (by omega), hL2.weak, by rw [List.length_map]; omega, fun c1 H5 s5 n5 e5 => ?_⟩
    have s05 := (s03.trans s4).trans s5
    refine ⟨_, rfl, _, rfl, a, m, z, ss, rfl, s05.seq ha, hm.same s05, hz.mono (by omega), hL.weak, by omega, fun c2 H6 s6 n6 e6 => ?_⟩
    rw [turn_mets ho rfl hf] at e5
    refine ⟨1, by decide, .inl ⟨c1, c2, _, _, rfl, rfl, SqL.of (s6 _ _ e5), SqL.of e6, ints_same _⟩, _, rfl, ?_⟩
    refine iteT ?_
    have s56 := s5.trans s6
    refine ⟨_, rfl, _, rfl, D, D2, _, _, rfl, SqL.of (s56 _ _ eD4), hD4.same s56, hL2, fun H7 s7 => ?_⟩
    refine ⟨_, _, rfl, rfl, ?_⟩
    have e0 : decide ((0 : Int) ∈ lft (turnL o z) (ss.map (turnS o))) = true := decide_eq_true (by
      rw [turn_lft ho rfl hf, turn_zero ho lft_len]
      exact h0)
    rw [e0]
    exact q _ (s05.trans (s6.trans s7))
end
end K27
end

section
set_option Elab.async false
set_option linter.all false
set_option maxRecDepth 100000
set_option maxHeartbeats 8000000
namespace K27
open PySem PySem.Spec PyProof.Rows L2 Gd Bx
theorem cut_take (xs : List V) (k : Nat) : cutV xs none (some ((k : Nat) : Int)) = xs.take k := by
  unfold cutV
  rw [HT.sIx_none, HT.sIx_nat, List.drop_zero, Nat.sub_zero]
  by_cases h : k ≤ xs.length
  · rw [Nat.min_eq_left h]
  · rw [Nat.min_eq_right (by omega), List.take_of_length_le (Nat.le_refl _), List.take_of_length_le (by omega)]
theorem cut_drop (xs : List V) (k : Nat) : cutV xs (some ((k : Nat) : Int)) none = xs.drop k := by
  unfold cutV
  rw [HT.sIx_none, HT.sIx_nat]
  by_cases h : k ≤ xs.length
  · rw [Nat.min_eq_left h, List.take_of_length_le (by rw [List.length_drop]; omega)]
  · rw [Nat.min_eq_right (by omega), List.drop_of_length_le (Nat.le_refl _), List.drop_of_length_le (by omega), List.take_nil]
/-- pairs that tell slabs -/
def Pt (K : PySem.W.Frag) (H : Hp) (bs : List Addr) (ss : List Slab) : Prop := bs.length = ss.length ∧ ∀ (i : Nat) (b : Addr) (s : Slab), bs[i]? = some b → ss[i]? = some s → SqT K H b [.int (s.1 : Nat), .int s.2]
section
variable {K : PySem.W.Frag} {H H' : Hp} {bs cs : List Addr} {ss ts : List Slab}
theorem Pt.same (h : Pt K H bs ss) (s : Same H H') : Pt K H' bs ss := ⟨h.1, fun i b t e1 e2 => same_tup s (h.2 i b t e1 e2)⟩
theorem Pt.app (h : Pt K H bs ss) (k : Pt K H cs ts) : Pt K H (bs ++ cs) (ss ++ ts) := by
  refine ⟨by rw [List.length_append, List.length_append, h.1, k.1], fun i b s e1 e2 => ?_⟩
  rw [List.getElem?_append] at e1 e2
  rw [h.1] at e1
  split at e1
  · rename_i c
    rw [if_pos c] at e2
    exact h.2 i b s e1 e2
  · rename_i c
    rw [if_neg c] at e2
    exact k.2 _ b s e1 e2
theorem Pt.take (h : Pt K H bs ss) (n : Nat) : Pt K H (bs.take n) (ss.take n) := by
  refine ⟨by rw [List.length_take, List.length_take, h.1], fun i b s e1 e2 => ?_⟩
  rw [List.getElem?_take] at e1 e2
  split at e1
  · rename_i c
    rw [if_pos c] at e2
    exact h.2 i b s e1 e2
  · cases e1
theorem Pt.drop (h : Pt K H bs ss) (n : Nat) : Pt K H (bs.drop n) (ss.drop n) := by
  refine ⟨by rw [List.length_drop, List.length_drop, h.1], fun i b s e1 e2 => ?_⟩
  rw [List.getElem?_drop] at e1 e2
  exact h.2 _ b s e1 e2
theorem Pt.two {a b : Addr} {s t : Slab} (h1 : SqT K H a [.int (s.1 : Nat), .int s.2]) (h2 : SqT K H b [.int (t.1 : Nat), .int t.2]) : Pt K H [a, b] [s, t] := by
  refine ⟨rfl, fun i c u e1 e2 => ?_⟩
  match i, e1, e2 with
  | 0, e1, e2 =>
    cases e1
    cases e2
    exact h1
  | 1, e1, e2 =>
    cases e1
    cases e2
    exact h2
  | i + 2, e1, e2 => simp at e1
theorem Pt.at_ {a : Addr} (h : Pt K H bs ss) (e : SqL K H a (bs.map V.ref)) : SlabsAt K H a ss := ⟨bs, e, h.1, h.2⟩
end
abbrev sParted : Stmt := topS 16
abbrev nParted : List Str := ["_law_feed_here", "_law_sizes_here", "_law_slabs", "_law_drawn_ones", "_law_wide", "_law_at", "_law_lead", "_law_many", "_law_first", "_law_parted", "_law_choice", "_law_number", "_law_due", "_law_counts", "_law_both", "_law_together", "_law_k"]
theorem scParted : FnScope nParted ["_law_feed_here", "_law_sizes_here", "_law_slabs", "_law_drawn_ones"] (defScope sParted) := ⟨rfl, rfl, rfl, by decide +kernel, rfl, by decide +kernel, by decide +kernel⟩
def spParted (K : PySem.W.Frag) : Sp := fun vs H Q _ => ∃ (p a m d : Addr) (S : Int) (z : List Int) (ss : List Slab) (cs : List (List Int)), vs = [.ref p, .ref a, .ref m, .ref d] ∧ Feed H p S ∧ S ≤ 100000000 ∧ H a = some (.lst (z.map V.int)) ∧ a ≠ p ∧ SlabsL K H m ss ∧ m ≠ p ∧ ChoicesL K H d cs ∧ d ≠ p ∧
  In 60 z ∧ Leg z ss ∧ (0 : Int) ∈ lft z ss ∧ ss.length ≤ 180 ∧ 1 ≤ z.length ∧ z.length ≤ 3 ∧ (∀ c ∈ cs, Choice z c) ∧ ∀ H', Ex1 p H H' → Feed H' p (S + 2) → Q (.bl true) H'
theorem leg_top {z : List Int} {ss : List Slab} {i : Nat} {s : Slab} (hz : In 60 z) (hL : Leg z ss) (e : ss[i]? = some s) : s.2 ≤ 60 := by
  obtain ⟨hI, t1, t2, t3⟩ := Leg0.at_ hz hL.weak e
  have := hI _ (Bx.getD_mem t1)
  omega
theorem in_two (x y w : Int) : inV (.int x) [.int y, .int w] = (decide (y = x) || decide (w = x)) := by
  show ((y == x) || ((w == x) || false)) = _
  rw [Bool.or_false]
  rfl
theorem in_one (x y : Int) : inV (.int x) [.int y] = decide (y = x) := by
  show ((y == x) || false) = _
  rw [Bool.or_false]
  rfl
section
variable {P : Program} {w : World} {K : PySem.W.Frag} {mg : Str → Option Value} {base : Heap} {f fT fO fM fA : Addr} {fd dT dO dM dA : FuncData}
theorem ok_parted (F : Fun K "_law_parted_right" "_law_parted_right" sParted f fd) (mr : mg "range" = none) (mn : mg "len" = none) (mi : mg "int" = none)
    (FT : Fun K "_law_take" "_law_take" sTake fT dT) (bT : Binds K dT ["_law_feed_here", "_law_many"] []) (gT : mg "_law_take" = some (.ref fT))
    (FO : Fun K "slab_of" "slab_of" sOf fO dO) (GO : FnOk P w K mg base CX0 1 fO dO ["slabs", "positions"] (spOf K)) (bO : Binds K dO ["slabs", "positions"] []) (gO : mg "slab_of" = some (.ref fO))
    (FM : Fun K "met_by" "met_by" sMet fM dM) (GM : FnOk P w K mg base CX0 1 fM dM ["sizes", "slabs"] (spMet K)) (bM : Binds K dM ["sizes", "slabs"] []) (gM : mg "met_by" = some (.ref fM))
    (FA : Fun K "are_whole" "are_whole" sWh fA dA) (GA : FnOk P w K mg base CX0 3 fA dA ["sizes", "thing"] (spWh K)) (bA : Binds K dA ["sizes", "thing"] []) (gA : mg "are_whole" = some (.ref fA)) :
    FnOk P w K mg base CX0 4 f fd ["_law_feed_here", "_law_sizes_here", "_law_slabs", "_law_drawn_ones"] (spParted K) := by
  have G : FnOk P w K mg base CX0 1 fT dT ["_law_feed_here", "_law_many"] spTake := ok_take FT
  refine F.ok scParted (fun vs H Q E h => ?_) (fun cdv A outer s H vs Q E hr h => ?_)
  · obtain ⟨p, a, m, d, S, z, ss, cs, rfl, _⟩ := h
    rfl
  obtain ⟨p, a, m, d, S, z, ss, cs, rfl, hF, hS, ea, nap, hm, nmp, hd, ndp, hz, hL, h0, hlen, l1, l3, hcs, q⟩ := h
  have nd := scParted.nd
  have zl : sizeLine = 16777216 := rfl
  have hr1 := hr.mono (show 1 ≤ 3 by decide)
  have hf := hL.fine
  refine ⟨_, pss_cons (ps_setLc (i := 4) (own := [("_law_k", 16)]) (g := gName 16) rfl nd rfl rfl (by rfl) (pi_range1 (by rfl) mr (pa_cons (pe_callB call_len_seq (by rfl) mn PySem.boot_len (pa_cons (pv 2) pa_nil)) pa_nil)) (blkOk_by (N := nParted) (sc := defScope sParted) (by decide +kernel))
        (fun _ _ _ _ _ => pg_name (i := 16) nd rfl (Or.inl rfl))
        (fun _ _ _ _ _ => pts_one (pt_cmpR op_gt (pe_ix (r := rIxT K) ix_tup (pe_ix (r := rIxL K) ix_list (pv 2) (pv 16) (fun _ _ => rfl)) pe_int (fun _ _ => rfl)) pe_int (nomark _))) (fun _ _ _ _ _ => pv 16))
    (pss_cons (ps_if (pt_cmpR (op_eqL0 hr.units0) (pv 4) (pe_lst pa_nil) (nomark _)) (pss_one (ps_ret pe_bl)) pss_nil)
    (pss_cons (ps_set (i := 5) nd rfl (.inl rfl) (pe_ix ix_list (pv 4) (pe_call G hr1 (by rfl) gT FT.kp bT .nil pass0 (pa_cons (pv 0) (pa_cons (pe_callB call_len_seq (by rfl) mn PySem.boot_len (pa_cons (pv 4) pa_nil)) pa_nil))) (fun _ _ => rfl)))
    (pss_cons (ps_asg (pe_ix ix_list (pv 2) (pv 5) (fun _ _ => rfl)) (pg_tup rfl (pgs_cons (pg_name (i := 6) nd rfl (.inl rfl)) (pgs_cons (pg_name (i := 7) nd rfl (.inl rfl)) pgs_nil))))
    (pss_cons (ps_set (i := 8) nd rfl (.inl rfl) (pe_op op_add pe_int (pe_call G hr1 (by rfl) gT FT.kp bT .nil pass0 (pa_cons (pv 0) (pa_cons (pe_op op_sub (pv 7) pe_int) pa_nil)))))
    (pss_cons (ps_set (i := 9) nd rfl (.inl rfl) (pe_op op_cat (pe_op op_cat (pe_slice sl_list (pv 2) po_none (po_some (pv 5)))
        (pe_lst (pa_cons (pe_tup (pa_cons (pv 6) (pa_cons (pv 8) pa_nil))) (pa_cons (pe_tup (pa_cons (pv 6) (pa_cons (pe_op op_sub (pv 7) (pv 8)) pa_nil))) pa_nil)))) (pe_slice sl_list (pv 2) (po_some (pe_op op_add (pv 5) pe_int)) po_none)))
    (pss_cons (ps_for PassesOwn.never rfl (pi_list (pv 3)) (pg_name (i := 10) nd rfl (.inl rfl))
      (pss_cons (ps_set (i := 11) nd rfl (.inl rfl) (pe_call GO hr1 (by rfl) gO FO.kp bO .nil pass0 (pa_cons (pv 2) (pa_cons (pv 10) pa_nil))))
      (C8.pss_cut (ps_set (i := 12) nd rfl (.inl rfl) (pe_ifExp (pt_cmpR op_ne (pv 11) (pv 5) (nomark _))
          (pe_slice sl_list (pe_lst (pa_cons (pv 11) (pa_cons (pe_op op_add (pv 11) pe_int) pa_nil))) (po_some (pe_callTy call_int1 (by rfl) mi (by decide +kernel) (pa_cons (pe_cmpR op_gt (pv 11) (pv 5) (nomark _)) pa_nil))) po_none)
          (pe_lst (pa_cons (pv 5) (pa_cons (pe_op op_add (pv 5) pe_int) pa_nil)))))
      (pss_one (ps_if (pt_cmpR op_notIn_seq (pe_call GO hr1 (by rfl) gO FO.kp bO .nil pass0 (pa_cons (pv 9) (pa_cons (pv 10) pa_nil)))
          (pe_slice sl_list (pv 12) po_none (po_some (pe_op op_add pe_int (pe_callTy call_int1 (by rfl) mi (by decide +kernel) (pa_cons (pe_cmpR op_eq (pv 11) (pv 5) (nomark _)) pa_nil))))) (by with_unfolding_all rfl)) pss_never pss_nil)))))
    (pss_cons (ps_set (i := 13) nd rfl (.inl rfl) (pe_call GM hr1 (by rfl) gM FM.kp bM .nil pass0 (pa_cons (pv 1) (pa_cons (pv 9) pa_nil))))
    (pss_cons (ps_set (i := 14) nd rfl (.inl rfl) (pe_op op_add (pe_ix ix_list (pv 13) (pv 5) (fun _ _ => rfl)) (pe_ix ix_list (pv 13) (pe_op op_add (pv 5) pe_int) (fun _ _ => rfl))))
    (pss_cons (ps_set (i := 15) nd rfl (.inl rfl) (pe_op op_cat (pe_op op_cat (pe_slice sl_list (pv 13) po_none (po_some (pv 5))) (pe_lst (pa_cons (pv 14) pa_nil))) (pe_slice sl_list (pv 13) (po_some (pe_op op_add (pv 5) pe_int)) po_none)))
    (pss_one (ps_ret (pe_and (pe_cmpR (op_eqV hr.units) (pv 15) (pe_call GM hr1 (by rfl) gM FM.kp bM .nil pass0 (pa_cons (pv 1) (pa_cons (pv 2) pa_nil))) (nomark _))
      (pe_one (pe_cmpR op_is_bl (pe_call GA hr (by rfl) gA FA.kp bA .nil pass0 (pa_cons (pv 1) (pa_cons (pv 9) pa_nil))) pe_bl (nomark _))))))))))))))), ?_⟩
  obtain ⟨ms, hms, lms, tms⟩ := id hm
  have wD : ∀ i, i < ss.length → ∃ u, ss[i]? = some u := fun i hi => at_of rfl hi
  refine ⟨_, rfl, m, _, rfl, .inl (SqL.of hms), _, rfl, by omega, by rw [List.length_map]; omega, fun D nD => ?_⟩
  have nDp := hF.not nD
  refine lc_it walk_upto (fun i H1 => Same H H1 ∧ ∃ wd : List Nat, H1 D = some (.lst (wd.map vI)) ∧ wd.length ≤ i ∧ ∀ k ∈ wd, ∃ u, ss[k]? = some u ∧ 1 < u.2) ⟨new_same nD, [], upd_same, Nat.le_refl _, fun k hk => nomatch hk⟩ (fun _ _ _ _ => trivial) ?_ ?_
  · rintro i x H1 H2 hi ⟨s1, wd, eD, lD, oD⟩ ⟨rfl, rfl⟩
    rw [List.length_map, Int.toNat_natCast, lms] at hi
    obtain ⟨u, eu⟩ := wD i hi
    obtain ⟨mb, emb⟩ := at_of lms hi
    refine ⟨rfl, ?_⟩
    refine ⟨_, rfl, _, rfl, m, _, _, _, rfl, rfl, SqL.of (s1 _ _ hms), atI_nat (by rw [List.getElem?_map, emb] <;> rfl), mb, _, 1, .int u.2, rfl, rfl, same_tup s1 (tms i mb u emb eu), atI_nat (j := 1) rfl, u.2, 1, rfl, rfl, _, rfl, ite2 (fun g => ?_) (fun g => ?_)⟩
    · refine ⟨_, rfl, ?_⟩
      refine ⟨_, eD, by rw [List.length_map]; omega, own_same nD s1, wd ++ [i], ?_, by simp; omega, fun k hk => ?_⟩
      · rw [upd_same, List.map_append]
        rfl
      · rcases List.mem_append.mp hk with hk | hk
        · exact oD k hk
        · rw [List.mem_singleton.mp hk]
          exact ⟨u, eu, of_decide_eq_true g⟩
    · exact ⟨s1, wd, eD, by omega, oD⟩
  rintro H1 ⟨s1, wd, eD, lD, oD⟩
  rw [List.length_map, Int.toNat_natCast, lms] at lD
  refine ⟨_, rfl, by decide, fun l0 nl0 => ?_⟩
  have j2 := new_same (o := .lst []) nl0
  have s2 := s1.trans j2
  have f2 := hF.kept s2
  refine ⟨D, l0, _, rfl, rfl, SqL.of (j2 _ _ eD), SqL.of upd_same, _, rfl, ite2 (fun g => ?_) (fun g => ?_)⟩
  · exact q _ (ex1_of_same s2) (f2.le (by omega))
  have wne : 0 < wd.length := by
    cases wd with
    | nil => exact absurd rfl g
    | cons _ _ => simp
  have eD2 := j2 _ _ eD
  generalize upd H1 l0 (.lst []) = H2 at *
  refine ⟨_, rfl, _, rfl, _, rfl, D, _, rfl, .inl (SqL.of eD2), p, _, _, rfl, f2, by rw [List.length_map]; omega, by rw [List.length_map]; omega, by omega, fun r H3 r0 r1 f3 x3 => ?_⟩
  rw [List.length_map] at r1
  obtain ⟨k, rfl⟩ : ∃ k : Nat, r = ((k : Nat) : Int) := ⟨r.toNat, by omega⟩
  obtain ⟨at_, eat⟩ := at_of (xs := wd) (i := k) rfl (by omega)
  obtain ⟨u, eu, u1⟩ := oD at_ (List.mem_of_getElem? eat)
  have hat := at_lt eu
  obtain ⟨lead, many⟩ := u
  have u1 : 1 < many := u1
  have many60 : many ≤ 60 := leg_top hz hL eu
  have eD3 := x3 _ _ nDp eD2
  refine ⟨D, _, _, vI at_, rfl, rfl, SqL.of eD3, atI_nat (vI_at eat), ?_⟩
  have x03 : Ex1 p H H3 := (ex1_of_same s2).trans x3
  have hm3 := hm.drawn hF nmp x03
  obtain ⟨ms3, hms3, lms3, tms3⟩ := id hm3
  obtain ⟨mb, emb⟩ := at_of lms3 hat
  refine ⟨_, rfl, _, rfl, m, _, _, _, rfl, rfl, SqL.of hms3, atI_nat (by rw [List.getElem?_map, emb] <;> rfl), mb, _, rfl, tms3 at_ mb _ emb eu, rfl, _, _, rfl, _, _, rfl, rfl, ?_⟩
  refine ⟨_, rfl, _, rfl, _, _, rfl, rfl, p, _, _, rfl, f3, by show 0 < many - 1; omega, by show many - 1 < 1073741824; omega, by omega, fun r H4 r0 r1 f4 x4 => ?_⟩
  have r1 : r < many - 1 := r1
  refine ⟨_, _, rfl, rfl, ?_⟩
  have x04 := x03.trans x4
  have hm4 := hm.drawn hF nmp x04
  obtain ⟨ms4, hms4, lms4, tms4⟩ := id hm4
  have P4 : Pt K H4 ms4 ss := ⟨lms4, tms4⟩
  have ea4 := x04 _ _ nap ea
  have hd4 := hd.drawn hF ndp x04
  -- the parted ones
  refine ⟨_, rfl, _, rfl, _, rfl, m, _, rfl, SqL.of hms4, fun p1 np1 => ?_⟩
  rw [cut_take]
  have j1 := new_same (o := .lst ((ms4.map V.ref).take at_)) np1
  refine ⟨_, rfl, _, rfl, (by show 2 ≤ sizeLine; decide), fun t1 nt1 => ?_⟩
  have j2 := new_same (o := .tup [.int ((lead : Nat) : Int), .int (1 + r)]) nt1
  refine ⟨_, rfl, _, rfl, _, rfl, _, _, rfl, rfl, (by show 2 ≤ sizeLine; decide), fun t2 nt2 => ?_⟩
  have j3 := new_same (o := .tup [.int ((lead : Nat) : Int), .int (many - (1 + r))]) nt2
  refine ⟨(by show 2 ≤ sizeLine; decide), fun p2 np2 => ?_⟩
  have j4 := new_same (o := .lst [.ref t1, .ref t2]) np2
  have e1 := ((j2.trans j3).trans j4) _ _ (upd_same (H := H4) (a := p1) (o := .lst ((ms4.map V.ref).take at_)))
  refine ⟨p1, p2, _, _, rfl, rfl, e1, upd_same, by rw [List.length_take, List.length_map]; simp only [List.length_cons, List.length_nil]; omega, fun p3 np3 => ?_⟩
  have j5 := new_same (o := .lst ((ms4.map V.ref).take at_ ++ [.ref t1, .ref t2])) np3
  have j15 := (((j1.trans j2).trans j3).trans j4).trans j5
  refine ⟨_, rfl, _, rfl, _, _, rfl, rfl, _, rfl, m, _, rfl, SqL.of (j15 _ _ hms4), fun p4 np4 => ?_⟩
  have j6 := new_same (o := .lst ((ms4.map V.ref).drop (at_ + 1))) np4
  rw [show ((at_ : Nat) : Int) + 1 = ((at_ + 1 : Nat) : Int) by omega, cut_drop]
  have e5 := j6 _ _ (upd_same (o := .lst ((ms4.map V.ref).take at_ ++ [.ref t1, .ref t2])) (a := p3))
  refine ⟨p3, p4, _, _, rfl, rfl, e5, upd_same, by simp only [List.length_append, List.length_take, List.length_drop, List.length_map, List.length_cons, List.length_nil]; omega, fun g ng => ?_⟩
  have j7 := new_same (o := .lst (((ms4.map V.ref).take at_ ++ [.ref t1, .ref t2]) ++ (ms4.map V.ref).drop (at_ + 1))) ng
  have j47 := (j15.trans j6).trans j7
  have jt1 := ((((j3.trans j4).trans j5).trans j6).trans j7)
  have jt2 := (((j4.trans j5).trans j6).trans j7)
  have f00 : (1 : Int) ≤ 1 + r := by omega
  have g00 : (1 : Int) ≤ many - (1 + r) := by omega
  have eu2 : ss[at_]? = some (lead, (1 + r) + (many - (1 + r))) := by rw [eu, show (1 + r) + (many - (1 + r)) = many by omega]
  generalize hH5 : upd (upd (upd (upd (upd (upd (upd H4 p1 (.lst ((ms4.map V.ref).take at_))) t1 (.tup [.int ((lead : Nat) : Int), .int (1 + r)])) t2 (.tup [.int ((lead : Nat) : Int), .int (many - (1 + r))])) p2 (.lst [.ref t1, .ref t2])) p3 (.lst ((ms4.map V.ref).take at_ ++ [.ref t1, .ref t2]))) p4 (.lst ((ms4.map V.ref).drop (at_ + 1)))) g
    (.lst (((ms4.map V.ref).take at_ ++ [.ref t1, .ref t2]) ++ (ms4.map V.ref).drop (at_ + 1))) = H5 at j47 jt1 jt2 ⊢
  have eg : H5 g = some (.lst (((ms4.take at_ ++ [t1, t2]) ++ ms4.drop (at_ + 1)).map V.ref)) := by
    rw [← hH5, upd_same, List.map_append, List.map_append, List.map_take, List.map_drop]
    rfl
  have hg : SlabsAt K H5 g (parted ss at_ lead (1 + r) (many - (1 + r))) := by
    have q1 := (((P4.same j47).take at_).app (Pt.two (s := (lead, 1 + r)) (t := (lead, many - (1 + r))) (same_tup jt1 (SqT.of upd_same)) (same_tup jt2 (SqT.of upd_same)))).app ((P4.same j47).drop (at_ + 1))
    rw [List.append_assoc (as := ss.take at_)] at q1
    exact q1.at_ (SqL.of eg)
  generalize hps : parted ss at_ lead (1 + r) (many - (1 + r)) = ps at *
  have hLp : Leg z ps := by
    rw [← hps]
    exact parted_leg eu2 f00 g00 hL
  have h0p : (0 : Int) ∈ lft z ps := by
    rw [← hps, parted_lft eu2 hL]
    exact h0
  have lps : ps.length ≤ 182 := by
    rw [← hps]
    unfold parted
    simp only [List.length_append, List.length_cons, List.length_take, List.length_drop]
    omega
  have hm5 := hm4.at_.same j47
  have ea5 := j47 _ _ ea4
  have f5 := f4.kept j47
  have x05 := x04.trans (ex1_of_same (p := p) j47)
  obtain ⟨cb, hcb, lcb, tcb⟩ := hd4
  refine ⟨_, rfl, d, rfl, ⟨_, SqL.of (j47 _ _ hcb)⟩, ?_⟩
  refine for_it walk_list (fun i σ H6 => Same H5 H6 ∧ ∃ y6 y7 y8, σ = [some (.ref p), some (.ref a), some (.ref m), some (.ref d), some (.ref D), some (vI at_), some (.int ((lead : Nat) : Int)), some (.int many), some (.int (1 + r)), some (.ref g), y6, y7, y8, none, none, none, none])
    ⟨fun _ _ e => e, _, _, _, rfl⟩ (fun i σ H6 _ h => SqL.of ((j47.trans h.1) _ _ hcb)) ?_ ?_
  · rintro i x σ H6 H7 hi ⟨s6, y6, y7, y8, rfl⟩ ⟨rfl, ex⟩
    obtain ⟨t, et, rfl⟩ := map_at ex
    obtain ⟨ch, ech⟩ := at_of lcb.symm (at_lt et)
    have hch := hcs ch (List.mem_of_getElem? ech)
    have tt := same_tup (j47.trans s6) (tcb i t ch et ech)
    obtain ⟨j, ej, oj, hj⟩ := of_one hL h0 hch
    obtain ⟨j2, ej2, oj2, hj2⟩ := of_one hLp h0p hch
    obtain ⟨k1, k2, k3⟩ := parted_hits eu2 f00 g00 hL h0 hch ej (by rw [hps]; exact ej2)
    refine ⟨_, rfl, _, rfl, m, t, ch, ss, rfl, hm5.same s6, tt, by rw [hch.len]; exact hf, by rw [hch.len]; omega, fun H8 s8 => ?_⟩
    rw [oj]
    refine ⟨fun σ' H' => Same H8 H' ∧ ∃ (y : Addr) (ds : List Int), σ' = [some (.ref p), some (.ref a), some (.ref m), some (.ref d), some (.ref D), some (vI at_), some (.int ((lead : Nat) : Int)), some (.int many), some (.int (1 + r)), some (.ref g), some (.ref t), some (vI j), some (.ref y), none, none, none, none] ∧
      H' y = some (.lst (ds.map V.int)) ∧ ((j2 : Nat) : Int) ∈ ds.take (if j = at_ then 2 else 1), ?_, ?_⟩
    · refine ⟨_, rfl, _, rfl, rfl, _, rfl, ite2 (fun e => ?_) (fun e => ?_)⟩
      · have ne : j ≠ at_ := fun z => by
          subst z
          simp [vI, oi] at e
        refine ⟨_, rfl, _, rfl, _, _, rfl, rfl, (by show 2 ≤ sizeLine; decide), fun q1 nq1 => ?_⟩
        refine ⟨_, rfl, _, rfl, _, _, rfl, rfl, .inr ⟨_, rfl, _, rfl, q1, _, rfl, SqL.of upd_same, fun q2 nq2 => ?_⟩⟩
        refine ⟨own_same ((new_same nq1).free nq2) (new_same nq1), q2, if at_ < j then [((j : Nat) : Int) + 1] else [((j : Nat) : Int), ((j : Nat) : Int) + 1], rfl, ?_, ?_⟩
        · rw [upd_same]
          by_cases lt : at_ < j
          · rw [if_pos lt, if_pos (by simp [oi, vI]; omega)]
            exact congrArg (fun x => some (HO.lst x)) (cut_drop _ 1)
          · rw [if_neg lt, if_neg (by simp [oi, vI]; omega)]
            exact congrArg (fun x => some (HO.lst x)) (cut_drop _ 0)
        · rw [if_neg ne]
          by_cases lt : at_ < j
          · rw [if_pos lt, k2 lt]
            simp
          · rw [if_neg lt, k1 (by omega)]
            simp
      · have eq : j = at_ := by
          by_cases z : j = at_
          · exact z
          · exfalso
            refine e ?_
            simp [vI, oi]
            omega
        refine ⟨_, rfl, _, rfl, _, _, rfl, rfl, (by show 2 ≤ sizeLine; decide), fun q1 nq1 => ?_⟩
        refine ⟨new_same nq1, q1, [((at_ : Nat) : Int), ((at_ : Nat) : Int) + 1], rfl, upd_same, ?_⟩
        rw [if_pos eq]
        rcases k3 eq with z | z
        · rw [z]
          simp
        · rw [z]
          simp
    rintro σ' H9 ⟨s9, y, ds, rfl, ey, hin⟩
    have s59 := (s6.trans s8).trans s9
    refine ⟨_, rfl, _, rfl, g, t, ch, ps, rfl, hg.same s59, same_tup (s8.trans s9) tt, by rw [hch.len]; exact hLp.fine, by rw [hch.len]; omega, fun Ha sa => ?_⟩
    rw [oj2]
    have eya := sa _ _ ey
    refine ⟨_, rfl, _, rfl, _, rfl, rfl, .inr ⟨_, rfl, _, _, rfl, rfl, _, rfl, y, _, rfl, SqL.of eya, fun y2 ny2 => ?_⟩⟩
    have ec : ((1 : Int) + (if decide (vI j = vI at_) = true then 1 else 0)) = (((if j = at_ then 2 else 1 : Nat)) : Int) := by
      by_cases z : j = at_
      · rw [if_pos z, z, if_pos (decide_eq_true rfl)]
        rfl
      · rw [if_neg z, if_neg (by simp [vI]; omega)]
        rfl
    rw [ec, cut_take, ← List.map_take]
    refine ⟨y2, _, rfl, .inl (SqL.of upd_same), rfl, flat_ints _, _, rfl, ?_⟩
    have ei : inV (oi (some j2)) ((ds.take (if j = at_ then 2 else 1)).map V.int) = true := by
      show inV (.int ((j2 : Nat) : Int)) _ = true
      rw [in_ints]
      exact decide_eq_true hin
    rw [ei]
    refine iteF ?_
    exact ⟨(s59.trans sa).trans (new_same ny2), _, _, _, rfl⟩
  · rintro σ H6 ⟨s6, y6, y7, y8, rfl⟩
    have ea6 := s6 _ _ ea5
    have hg6 := hg.same s6
    refine ⟨_, rfl, _, rfl, a, g, z, ps, rfl, SqL.of ea6, hg6, hz.mono (by omega), hLp.weak, by omega, fun c1 H7 s7 n7 e7 => ?_⟩
    obtain ⟨X, Y, x, y, em1, lX, em2⟩ := parted_mets eu2 hL
    rw [hps] at em1
    rw [em1] at e7
    have eX : (X ++ x :: y :: Y)[at_]? = some x := by
      rw [List.getElem?_append_right (by omega), lX, Nat.sub_self]
      rfl
    have eY : (X ++ x :: y :: Y)[at_ + 1]? = some y := by
      rw [List.getElem?_append_right (by omega), lX, show at_ + 1 - at_ = 1 by omega]
      rfl
    have aX : atI ((X ++ x :: y :: Y).map V.int) ((at_ : Nat) : Int) = some (.int x) := atI_nat (by rw [List.getElem?_map, eX] <;> rfl)
    have aY : atI ((X ++ x :: y :: Y).map V.int) (((at_ : Nat) : Int) + 1) = some (.int y) := by
      rw [show ((at_ : Nat) : Int) + 1 = ((at_ + 1 : Nat) : Int) by omega]
      exact atI_nat (by rw [List.getElem?_map, eY] <;> rfl)
    refine ⟨_, rfl, _, rfl, c1, _, _, .int x, rfl, rfl, SqL.of e7, aX, _, rfl, _, rfl, _, _, rfl, rfl, c1, _, _, .int y, rfl, rfl, SqL.of e7, aY, _, _, rfl, rfl, ?_⟩
    refine ⟨_, rfl, _, rfl, _, rfl, c1, _, rfl, SqL.of e7, fun q1 nq1 => ?_⟩
    have t1 := new_same (o := .lst (((X ++ x :: y :: Y).map V.int).take at_)) nq1
    rw [cut_take]
    refine ⟨_, rfl, (by show 1 ≤ sizeLine; decide), fun q2 nq2 => ?_⟩
    have t2 := new_same (o := .lst [.int (x + y)]) nq2
    have eq1 := t2 _ _ (upd_same (H := H7) (a := q1) (o := .lst (((X ++ x :: y :: Y).map V.int).take at_)))
    have lm : (X ++ x :: y :: Y).length ≤ 182 := by rw [← em1, mets_len]; exact lps
    have lm2 : X.length + (Y.length + 2) ≤ 182 := by
      have := lm
      simp only [List.length_append, List.length_cons] at this
      omega
    refine ⟨q1, q2, _, _, rfl, rfl, eq1, upd_same, by rw [List.length_take, List.length_map]; simp only [List.length_cons, List.length_nil]; omega, fun q3 nq3 => ?_⟩
    have t3 := new_same (o := .lst (((X ++ x :: y :: Y).map V.int).take at_ ++ [.int (x + y)])) nq3
    have t13 := (t1.trans t2).trans t3
    refine ⟨_, rfl, _, rfl, _, _, rfl, rfl, _, rfl, c1, _, rfl, SqL.of (t13 _ _ e7), fun q4 nq4 => ?_⟩
    rw [show ((at_ : Nat) : Int) + 2 = ((at_ + 2 : Nat) : Int) by omega, cut_drop]
    have t4 := new_same (o := .lst (((X ++ x :: y :: Y).map V.int).drop (at_ + 2))) nq4
    have eq3 := t4 _ _ (upd_same (o := .lst (((X ++ x :: y :: Y).map V.int).take at_ ++ [.int (x + y)])) (a := q3))
    refine ⟨q3, q4, _, _, rfl, rfl, eq3, upd_same, by simp only [List.length_append, List.length_take, List.length_drop, List.length_map, List.length_cons, List.length_nil]; omega, fun q5 nq5 => ?_⟩
    have t5 := new_same (o := .lst ((((X ++ x :: y :: Y).map V.int).take at_ ++ [.int (x + y)]) ++ ((X ++ x :: y :: Y).map V.int).drop (at_ + 2))) nq5
    have t15 := (t13.trans t4).trans t5
    have elist : (((X ++ x :: y :: Y).map V.int).take at_ ++ [.int (x + y)]) ++ ((X ++ x :: y :: Y).map V.int).drop (at_ + 2) = (mets z ss).map V.int := by
      rw [em2, ← List.map_take, ← List.map_drop, ← lX, List.take_left, show X.length + 2 = X.length + 2 by rfl, List.drop_append, List.drop_of_length_le (by omega), show X.length + 2 - X.length = 2 by omega]
      simp
    rw [elist] at t15 ⊢
    have s57 := (s6.trans s7).trans t15
    refine ⟨_, rfl, _, rfl, _, rfl, a, m, z, ss, rfl, SqL.of (s57 _ _ ea5), hm5.same s57, hz.mono (by omega), hL.weak, by omega, fun c2 H8 s8 n8 e8 => ?_⟩
    refine ⟨1, by decide, .inl ⟨q5, c2, _, _, rfl, rfl, SqL.of (s8 _ _ upd_same), SqL.of e8, ints_same _⟩, _, rfl, ?_⟩
    refine iteT ?_
    have s58 := s57.trans s8
    refine ⟨_, rfl, _, rfl, a, g, z, ps, rfl, SqL.of (s58 _ _ ea5), hg.same s58, hLp, fun H9 s9 => ?_⟩
    refine ⟨_, _, rfl, rfl, ?_⟩
    rw [decide_eq_true h0p]
    exact q _ (x05.trans (ex1_of_same (s58.trans s9))) ((f5.kept (s58.trans s9)).le (by omega))
end
end K27
end

section
set_option Elab.async false
set_option linter.all false
set_option maxRecDepth 100000
set_option maxHeartbeats 8000000
namespace K27
open PySem PySem.Spec PyProof.Rows L2 Gd Bx
abbrev sJoined : Stmt := topS 17
abbrev nJoined : List Str := ["_law_slabs", "_law_found", "_law_places", "_law_lead", "_law_many"]
theorem scJoined : FnScope nJoined ["_law_slabs"] (defScope sJoined) := ⟨rfl, rfl, rfl, by decide +kernel, rfl, by decide +kernel, by decide +kernel⟩
def spJoined (K : PySem.W.Frag) : Sp := fun vs H Q _ => ∃ (m : Addr) (ss : List Slab), vs = [.ref m] ∧ SlabsAt K H m ss ∧ ss.length ≤ 180 ∧
  ∀ (t f pl : Addr) (H' : Hp), Same H H' → SqT K H' t [.ref f, .ref pl] → SlabsAt K H' f (jnF ss) → H' pl = some (.lst ((jnP [] ss).map vI)) → Q (.ref t) H'
theorem SlabsL.same {K : PySem.W.Frag} {H H' : Hp} {a : Addr} {ss : List Slab} (h : SlabsL K H a ss) (s : Same H H') : SlabsL K H' a ss := by
  obtain ⟨bs, h1, h2, h3⟩ := h
  exact ⟨bs, s _ _ h1, h2, fun i b t e1 e2 => same_tup s (h3 i b t e1 e2)⟩
theorem jF_nil (s : Slab) : jF [] s = [s] ∧ jP [] s = 0 := ⟨rfl, rfl⟩
theorem jF_snoc (G : List Slab) (t s : Slab) : jF (G ++ [t]) s = (if t.1 = s.1 then G ++ [(s.1, t.2 + s.2)] else G ++ [t] ++ [s]) ∧ jP (G ++ [t]) s = (if t.1 = s.1 then G.length else G.length + 1) := by
  unfold jF jP
  rw [List.getLast?_concat, List.dropLast_concat]
  refine ⟨rfl, ?_⟩
  show (if t.1 = s.1 then (G ++ [t]).length - 1 else (G ++ [t]).length) = _
  rw [List.length_append, List.length_singleton]
  rfl
theorem jF_len (F : List Slab) (s : Slab) : (jF F s).length = jP F s + 1 := by
  rcases List.eq_nil_or_concat F with rfl | ⟨G, t, rfl⟩
  · rfl
  · rw [List.concat_eq_append]
    obtain ⟨a, b⟩ := jF_snoc G t s
    rw [a, b]
    split <;> simp
theorem jF_few : ∀ {T F : List Slab}, (T.foldl jF F).length ≤ F.length + T.length
  | [], _ => Nat.le_refl _
  | s :: T, F => by
    have := jF_few (T := T) (F := jF F s)
    have h2 := jF_len F s
    have h3 : jP F s ≤ F.length := by
      rcases List.eq_nil_or_concat F with rfl | ⟨G, t, rfl⟩
      · exact Nat.le_refl _
      · rw [List.concat_eq_append, (jF_snoc G t s).2]
        split <;> simp
    rw [List.foldl_cons, List.length_cons]
    omega
theorem set_last {α : Type} (xs : List α) (x y : α) : (xs ++ [x]).set xs.length y = xs ++ [y] := by
  rw [List.set_append_right _ _ (Nat.le_refl _), Nat.sub_self]
  rfl
theorem ix_last {α : Type} (xs : List α) (x : α) : ixN (xs ++ [x]).length (-1) = some xs.length := by
  unfold ixN
  rw [List.length_append, List.length_singleton, if_neg (by decide), if_pos (by omega)]
  congr 1
  omega
section
variable {P : Program} {w : World} {K : PySem.W.Frag} {mg : Str → Option Value} {base : Heap} {f : Addr} {fd : FuncData}
theorem ok_joined (F : Fun K "_law_joined" "_law_joined" sJoined f fd) (mn : mg "len" = none) : FnOk P w K mg base CX0 1 f fd ["_law_slabs"] (spJoined K) := by
  refine F.ok scJoined (fun vs H Q E h => ?_) (fun cdv A outer s H vs Q E hr h => ?_)
  · obtain ⟨m, ss, rfl, _⟩ := h
    rfl
  obtain ⟨m, ss, rfl, hm, hlen, q⟩ := h
  have nd := scJoined.nd
  have zl : sizeLine = 16777216 := rfl
  refine ⟨_, pss_cons (ps_set (i := 1) nd rfl (.inl rfl) (pe_lst pa_nil))
    (pss_cons (ps_set (i := 2) nd rfl (.inl rfl) (pe_lst pa_nil))
    (pss_cons (ps_for PassesOwn.never rfl (pi_list (pv 0)) (pg_tup rfl (pgs_cons (pg_name (i := 3) nd rfl (.inl rfl)) (pgs_cons (pg_name (i := 4) nd rfl (.inl rfl)) pgs_nil)))
      (C8.pss_cut (ps_if (PW.pt (pw_and (pt_cmpR (op_neL0 hr.units0) (pv 1) (pe_lst pa_nil) (nomark _)) (pw_and1 (pt_cmpR op_eq (pe_ix ix_tup (pe_ix ix_list (pv 1) (pe_un un_neg pe_int) (fun _ _ => rfl)) pe_int (fun _ _ => rfl)) (pv 3) (nomark _)))))
          (pss_one (ps_asg (pe_tup (pa_cons (pv 3) (pa_cons (pe_op op_add (pe_ix ix_tup (pe_ix ix_list (pv 1) (pe_un un_neg pe_int) (fun _ _ => rfl)) pe_int (fun _ _ => rfl)) (pv 4)) pa_nil))) (pg_sub (pv 1) (pe_un un_neg pe_int) set_list)))
          (pss_one (ps_expr (pe_bm PySem.F.plainAttrs_list PySem.F.slot_list_append PySem.F.type_list_append mt_append (pv 1) (pa_cons (pe_tup (pa_cons (pv 3) (pa_cons (pv 4) pa_nil))) pa_nil)))))
      (pss_one (ps_expr (pe_bm PySem.F.plainAttrs_list PySem.F.slot_list_append PySem.F.type_list_append mt_append (pv 2) (pa_cons (pe_op op_sub (pe_callB call_len_seq (by rfl) mn PySem.boot_len (pa_cons (pv 1) pa_nil)) pe_int) pa_nil))))))
    (pss_one (ps_ret (pe_tup (pa_cons (pv 1) (pa_cons (pv 2) pa_nil))))))), ?_⟩
  obtain ⟨ms, hms, lms, tms⟩ := hm
  refine ⟨by decide, fun f1 nf1 => ?_⟩
  have j1 := new_same (o := .lst []) nf1
  refine ⟨by decide, fun pl npl => ?_⟩
  have j2 := j1.trans (new_same (o := .lst []) npl)
  have npf : pl ≠ f1 := fun e => by rw [e, upd_same] at npl; cases npl
  have npl0 : H pl = none := j1.free npl
  refine ⟨_, rfl, m, rfl, ⟨_, j2.seq hms⟩, ?_⟩
  refine for_it walk_list (fun i σ H1 => Same H H1 ∧ SlabsL K H1 f1 (jnF (ss.take i)) ∧ H1 pl = some (.lst ((jnP [] (ss.take i)).map vI)) ∧ ∃ y3 y4, σ = [some (.ref m), some (.ref f1), some (.ref pl), y3, y4])
    ⟨j2, ⟨[], by rw [upd_ne npf.symm]; exact upd_same, by rw [List.take_zero] <;> rfl, fun i b s e => nomatch e⟩, by rw [List.take_zero]; exact upd_same, none, none, rfl⟩ (fun i σ H1 _ h => h.1.seq hms) ?_ ?_
  · rintro i x σ H1 H2 hi ⟨s1, hF, ep, y3, y4, rfl⟩ ⟨rfl, ex⟩
    obtain ⟨b1, e1, rfl⟩ := map_at ex
    obtain ⟨u, eu⟩ := at_of lms.symm (at_lt e1)
    have tt := same_tup s1 (tms i b1 u e1 eu)
    have hi180 : i < 180 := by have := at_lt eu; omega
    refine ⟨b1, _, rfl, tt, rfl, _, _, rfl, _, _, rfl, rfl, ?_⟩
    have few : (jnF (ss.take i)).length ≤ 180 := by
      have := jF_few (T := ss.take i) (F := [])
      rw [List.length_take] at this
      simp only [List.length_nil] at this
      unfold jnF
      omega
    have snocF : jnF (ss.take (i + 1)) = jF (jnF (ss.take i)) u := by rw [take_at eu, jnF_snoc]
    have snocP : jnP [] (ss.take (i + 1)) = jnP [] (ss.take i) ++ [jP (jnF (ss.take i)) u] := by rw [take_at eu, jnP_snoc]; rfl
    have lP : (jnP [] (ss.take i)).length ≤ 180 := by rw [jnP_len, List.length_take]; omega
    refine ⟨fun σ' H' => Same H H' ∧ SlabsL K H' f1 (jF (jnF (ss.take i)) u) ∧ H' pl = some (.lst ((jnP [] (ss.take i)).map vI)) ∧ σ' = [some (.ref m), some (.ref f1), some (.ref pl), some (.int ((u.1 : Nat) : Int)), some (.int u.2)], ?_, ?_⟩
    · obtain ⟨bs, hbs, lbs, tbs⟩ := id hF
      refine ⟨_, rfl, by decide, fun l0 nl0 => ?_⟩
      have j3 := new_same (o := .lst []) nl0
      have hF3 := hF.same j3
      have ep3 := j3 _ _ ep
      have s3 := s1.trans j3
      refine ⟨f1, l0, _, rfl, rfl, SqL.of (j3 _ _ hbs), SqL.of upd_same, _, rfl, ?_⟩
      generalize upd H2 l0 (.lst []) = H3 at *
      generalize jnF (ss.take i) = G0 at *
      have fin : ∀ b xs, H3 b = none → SlabsL K (upd (upd H3 b (.tup [.int ((u.1 : Nat) : Int), .int u.2])) f1 (.lst (xs ++ [.ref b]))) f1 (G0 ++ [u]) → jF G0 u = G0 ++ [u] →
          Same H (upd (upd H3 b (.tup [.int ((u.1 : Nat) : Int), .int u.2])) f1 (.lst (xs ++ [.ref b]))) ∧ SlabsL K (upd (upd H3 b (.tup [.int ((u.1 : Nat) : Int), .int u.2])) f1 (.lst (xs ++ [.ref b]))) f1 (jF G0 u) ∧ upd (upd H3 b (.tup [.int ((u.1 : Nat) : Int), .int u.2])) f1 (.lst (xs ++ [.ref b])) pl = some (.lst ((jnP [] (ss.take i)).map vI)) := fun b xs nb hN ej => by
        refine ⟨own_same nf1 (s3.trans (new_same nb)), by rw [ej]; exact hN, ?_⟩
        rw [upd_ne npf]
        exact new_same nb _ _ ep3
      obtain ⟨b0, hb0, lb0, tb0⟩ := id hF3
      rcases List.eq_nil_or_concat G0 with e0 | ⟨G, t, e0⟩
      · have ej : jF G0 u = G0 ++ [u] := by rw [e0]; rfl
        have eb : b0 = [] := List.eq_nil_of_length_eq_zero (by rw [lb0, e0]; rfl)
        have eb2 : bs = [] := List.eq_nil_of_length_eq_zero (by rw [lbs, e0]; rfl)
        rw [eb2]
        refine iteF ?_
        refine ⟨_, rfl, .inl ⟨rfl, _, SqL.of hb0⟩, ?_⟩
        refine ⟨_, rfl, _, rfl, (by show 2 ≤ sizeLine; decide), fun b nb => ?_⟩
        obtain ⟨xs, exs, lxs, hN⟩ := hF3.push (k := u.1) (g := u.2) nb
        obtain ⟨a1, a2, a3⟩ := fin b xs nb hN ej
        exact ⟨f1, xs, _, rfl, rfl, exs, by omega, a1, a2, a3, rfl⟩
      · rw [List.concat_eq_append] at e0
        obtain ⟨a1, a2⟩ := jF_snoc G t u
        rw [← e0] at a1
        have lG : G0.length = G.length + 1 := by rw [e0]; simp
        obtain ⟨cs, c, ec⟩ : ∃ cs c, bs = cs ++ [c] := by
          rcases List.eq_nil_or_concat bs with z | ⟨cs, c, z⟩
          · rw [z, lG] at lbs
            cases lbs
          · exact ⟨cs, c, by rw [z, List.concat_eq_append]⟩
        have lcs : cs.length = G.length := by
          rw [ec, lG, List.length_append, List.length_singleton] at lbs
          omega
        have hb3 : H3 f1 = some (.lst (cs.map V.ref ++ [.ref c])) := by
          have := j3 _ _ hbs
          rw [ec, List.map_append] at this
          exact this
        have tc : SqT K H3 c [.int ((t.1 : Nat) : Int), .int t.2] := same_tup j3 (tbs G.length c t (by rw [ec, ← lcs, List.getElem?_append_right (Nat.le_refl _), Nat.sub_self]; rfl) (by rw [e0, List.getElem?_append_right (Nat.le_refl _), Nat.sub_self]; rfl))
        have ne : (!(bs.map V.ref).isEmpty) = true := by rw [ec]; simp
        rw [ne]
        refine iteT ?_
        refine ⟨_, rfl, _, rfl, f1, _, (-1), .ref c, rfl, rfl, SqL.of hb3, atI_last _ _, c, _, 0, .int ((t.1 : Nat) : Int), rfl, rfl, tc, atI_nat (j := 0) rfl, _, rfl, rfl, _, rfl, ite2 (fun e => ?_) (fun e => ?_)⟩
        · have e : t.1 = u.1 := by
            have := V.int.inj (of_decide_eq_true e)
            omega
          rw [if_pos e] at a1
          refine ⟨_, rfl, _, rfl, _, rfl, f1, _, (-1), .ref c, rfl, rfl, SqL.of hb3, atI_last _ _, c, _, 1, .int t.2, rfl, rfl, tc, atI_nat (j := 1) rfl, _, rfl, _, _, rfl, rfl, (by show 2 ≤ sizeLine; decide), fun b nb => ?_⟩
          have jb := new_same (o := .tup [.int ((u.1 : Nat) : Int), .int (t.2 + u.2)]) nb
          refine ⟨_, rfl, _, rfl, f1, _, _, cs.length, rfl, rfl, jb _ _ hb3, by rw [← List.length_map (f := V.ref)]; exact ix_last _ _, ?_⟩
          have el : ((cs.map V.ref ++ [V.ref c]).set cs.length (V.ref b)) = (cs ++ [b]).map V.ref := by
            have := set_last (cs.map V.ref) (V.ref c) (V.ref b)
            rw [List.length_map] at this
            rw [this, List.map_append]
            rfl
          rw [el]
          have T := Tups.upd_lst (K := K) (ys := (cs ++ [b]).map V.ref) (jb _ _ hb3)
          refine ⟨own_same nf1 (s3.trans jb), ?_, ?_, rfl⟩
          · rw [a1]
            refine ⟨cs ++ [b], upd_same, by simp [lcs], fun k w v ew ev => ?_⟩
            rcases snoc_at ew with ew | ⟨ek, ew⟩
            · rcases snoc_at ev with ev | ⟨ek, ev⟩
              · refine T _ _ (same_tup (j3.trans jb) (tbs k w v (by rw [ec, List.getElem?_append_left (at_lt ew)]; exact ew) (by rw [e0, List.getElem?_append_left (at_lt ev)]; exact ev)))
              · have := at_lt ew
                omega
            · rcases snoc_at ev with ev | ⟨ek2, ev⟩
              · have := at_lt ev
                omega
              · rw [ew, ev]
                exact T _ _ (SqT.of upd_same)
          · rw [upd_ne npf]
            exact jb _ _ ep3
        · have e : ¬ t.1 = u.1 := fun z => e (decide_eq_true (by rw [z]))
          rw [if_neg e] at a1
          refine ⟨_, rfl, .inl ⟨rfl, _, SqL.of hb0⟩, ?_⟩
          refine ⟨_, rfl, _, rfl, (by show 2 ≤ sizeLine; decide), fun b nb => ?_⟩
          obtain ⟨xs, exs, lxs, hN⟩ := hF3.push (k := u.1) (g := u.2) nb
          obtain ⟨a1, a2, a3⟩ := fin b xs nb hN a1
          exact ⟨f1, xs, _, rfl, rfl, exs, by omega, a1, a2, a3, rfl⟩
    rintro σ' H3 ⟨s3, hF3, ep3, rfl⟩
    obtain ⟨b0, hb0, lb0, tb0⟩ := id hF3
    refine ⟨_, rfl, .inl ⟨rfl, _, SqL.of ep3⟩, ?_⟩
    refine ⟨_, rfl, f1, _, rfl, .inl (SqL.of hb0), _, _, rfl, rfl, pl, _, _, rfl, rfl, ep3, by rw [List.length_map]; omega, ?_⟩
    have lj := jF_len (jnF (ss.take i)) u
    have el : (((b0.map V.ref).length : Nat) : Int) - 1 = ((jP (jnF (ss.take i)) u : Nat) : Int) := by
      rw [List.length_map, lb0, lj]
      omega
    dsimp only
    rw [el]
    refine ⟨own_same npl0 s3, ?_, ?_, _, _, rfl⟩
    · rw [snocF]
      have T := Tups.upd_lst (K := K) (ys := (jnP [] (ss.take i)).map vI ++ [.int ((jP (jnF (ss.take i)) u : Nat) : Int)]) ep3
      exact ⟨b0, by rw [upd_ne npf.symm]; exact hb0, lb0, fun k w v ew ev => T _ _ (tb0 k w v ew ev)⟩
    · rw [upd_same, snocP, List.map_append]
      rfl
  · rintro σ H1 ⟨s1, hF, ep, y3, y4, rfl⟩
    rw [List.length_map, lms, List.take_length] at hF ep
    refine ⟨_, rfl, _, rfl, (by show 2 ≤ sizeLine; decide), fun t nt => ?_⟩
    have jt := new_same (o := .tup [.ref f1, .ref pl]) nt
    exact q t f1 pl _ (s1.trans jt) (SqT.of upd_same) (hF.same jt).at_ (jt _ _ ep)
end
end K27
end

section
set_option Elab.async false
set_option linter.all false
set_option maxRecDepth 100000
set_option maxHeartbeats 8000000
namespace K27
open PySem PySem.Spec PyProof.Rows L2 Gd Bx
abbrev sJR : Stmt := topS 18
abbrev nJR : List Str := ["_law_sizes_here", "_law_slabs", "_law_drawn_ones", "_law_found", "_law_places", "_law_choice", "_law_counts", "_law_place", "_law_count"]
theorem scJR : FnScope nJR ["_law_sizes_here", "_law_slabs", "_law_drawn_ones"] (defScope sJR) := ⟨rfl, rfl, rfl, by decide +kernel, rfl, by decide +kernel, by decide +kernel⟩
def spJR (K : PySem.W.Frag) : Sp := fun vs H Q _ => ∃ (a m d : Addr) (z : List Int) (ss : List Slab) (cs : List (List Int)), vs = [.ref a, .ref m, .ref d] ∧ SqL K H a (z.map V.int) ∧ SlabsAt K H m ss ∧ ChoicesL K H d cs ∧
  In 60 z ∧ Leg z ss ∧ (0 : Int) ∈ lft z ss ∧ ss.length ≤ 180 ∧ 1 ≤ z.length ∧ z.length ≤ 3 ∧ (∀ c ∈ cs, Choice z c) ∧ ∀ H', Same H H' → Q (.bl true) H'
theorem rep_ints (n : Nat) : (List.replicate n [V.int 0]).flatten = (List.replicate n (0 : Int)).map V.int := by
  induction n with
  | zero => rfl
  | succ n ih => rw [List.replicate_succ, List.flatten_cons, ih, List.replicate_succ, List.map_cons] <;> rfl
section
variable {P : Program} {w : World} {K : PySem.W.Frag} {mg : Str → Option Value} {base : Heap} {f fT fJ fO fM fA : Addr} {fd dT dJ dO dM dA : FuncData}
theorem ok_jr (F : Fun K "_law_joined_right" "_law_joined_right" sJR f fd) (mn : mg "len" = none) (mz : mg "zip" = none)
    (FJ : Fun K "_law_joined" "_law_joined" sJoined fJ dJ) (GJ : FnOk P w K mg base CX0 1 fJ dJ ["_law_slabs"] (spJoined K)) (bJ : Binds K dJ ["_law_slabs"] []) (gJ : mg "_law_joined" = some (.ref fJ))
    (FO : Fun K "slab_of" "slab_of" sOf fO dO) (GO : FnOk P w K mg base CX0 1 fO dO ["slabs", "positions"] (spOf K)) (bO : Binds K dO ["slabs", "positions"] []) (gO : mg "slab_of" = some (.ref fO))
    (FM : Fun K "met_by" "met_by" sMet fM dM) (GM : FnOk P w K mg base CX0 1 fM dM ["sizes", "slabs"] (spMet K)) (bM : Binds K dM ["sizes", "slabs"] []) (gM : mg "met_by" = some (.ref fM))
    (FA : Fun K "are_whole" "are_whole" sWh fA dA) (GA : FnOk P w K mg base CX0 3 fA dA ["sizes", "thing"] (spWh K)) (bA : Binds K dA ["sizes", "thing"] []) (gA : mg "are_whole" = some (.ref fA)) :
    FnOk P w K mg base CX0 4 f fd ["_law_sizes_here", "_law_slabs", "_law_drawn_ones"] (spJR K) := by
  refine F.ok scJR (fun vs H Q E h => ?_) (fun cdv A outer s H vs Q E hr h => ?_)
  · obtain ⟨a, m, d, z, ss, cs, rfl, _⟩ := h
    rfl
  obtain ⟨a, m, d, z, ss, cs, rfl, ha, hm, hd, hz, hL, h0, hlen, l1, l3, hcs, q⟩ := h
  have nd := scJR.nd
  have zl : sizeLine = 16777216 := rfl
  have hr1 := hr.mono (show 1 ≤ 3 by decide)
  have hf := hL.fine
  have J := ji_all hL
  have hLF := J.leg
  have h0F : (0 : Int) ∈ lft z (jnF ss) := by rw [J.lf]; exact h0
  have few := J.few
  refine ⟨_, pss_cons (ps_asg (pe_call GJ hr1 (by rfl) gJ FJ.kp bJ .nil pass0 (pa_cons (pv 1) pa_nil)) (pg_tup rfl (pgs_cons (pg_name (i := 3) nd rfl (.inl rfl)) (pgs_cons (pg_name (i := 4) nd rfl (.inl rfl)) pgs_nil))))
    (pss_cons (ps_for PassesOwn.never rfl (pi_list (pv 2)) (pg_name (i := 5) nd rfl (.inl rfl))
      (pss_one (ps_if (pt_cmpR op_ne (pe_call GO hr1 (by rfl) gO FO.kp bO .nil pass0 (pa_cons (pv 3) (pa_cons (pv 5) pa_nil)))
        (pe_ix ix_list (pv 4) (pe_call GO hr1 (by rfl) gO FO.kp bO .nil pass0 (pa_cons (pv 1) (pa_cons (pv 5) pa_nil))) (fun _ _ => rfl)) (nomark _)) pss_never pss_nil)))
    (pss_cons (ps_set (i := 6) nd rfl (.inl rfl) (pe_op op_rep (pe_lst (pa_cons pe_int pa_nil)) (pe_callB call_len_seq (by rfl) mn PySem.boot_len (pa_cons (pv 3) pa_nil))))
    (pss_cons (ps_for PassesOwn.never rfl (pi_zip (by rfl) mz (pa_cons (pv 4) (pa_cons (pe_call GM hr1 (by rfl) gM FM.kp bM .nil pass0 (pa_cons (pv 0) (pa_cons (pv 1) pa_nil))) pa_nil)))
        (pg_tup rfl (pgs_cons (pg_name (i := 7) nd rfl (.inl rfl)) (pgs_cons (pg_name (i := 8) nd rfl (.inl rfl)) pgs_nil)))
      (pss_one (ps_asg (pe_op op_add (pe_ix ix_list (pv 6) (pv 7) (fun _ _ => rfl)) (pv 8)) (pg_sub (pv 6) (pv 7) set_list))))
    (pss_one (ps_ret (pe_and (pe_cmpR (op_eqV hr.units) (pe_call GM hr1 (by rfl) gM FM.kp bM .nil pass0 (pa_cons (pv 0) (pa_cons (pv 3) pa_nil))) (pv 6) (nomark _))
      (pe_one (pe_cmpR op_is_bl (pe_call GA hr (by rfl) gA FA.kp bA .nil pass0 (pa_cons (pv 0) (pa_cons (pv 3) pa_nil))) pe_bl (nomark _))))))))), ?_⟩
  refine ⟨_, rfl, m, ss, rfl, hm, hlen, fun t f1 pl H1 s1 tt hf1 ep => ?_⟩
  refine ⟨t, _, rfl, tt, rfl, _, _, rfl, _, _, rfl, rfl, ?_⟩
  obtain ⟨cb, hcb, lcb, tcb⟩ := hd
  refine ⟨_, rfl, d, rfl, ⟨_, SqL.of (s1 _ _ hcb)⟩, ?_⟩
  refine for_it walk_list (fun i σ H2 => Same H1 H2 ∧ ∃ y5, σ = [some (.ref a), some (.ref m), some (.ref d), some (.ref f1), some (.ref pl), y5, none, none, none])
    ⟨fun _ _ e => e, none, rfl⟩ (fun i σ H2 _ h => SqL.of ((s1.trans h.1) _ _ hcb)) ?_ ?_
  · rintro i x σ H2 H3 hi ⟨s2, y5, rfl⟩ ⟨rfl, ex⟩
    obtain ⟨t, et, rfl⟩ := map_at ex
    obtain ⟨ch, ech⟩ := at_of lcb.symm (at_lt et)
    have hch := hcs ch (List.mem_of_getElem? ech)
    have s12 := s1.trans s2
    have tt := same_tup s12 (tcb i t ch et ech)
    obtain ⟨j, ej, oj, hj⟩ := of_one hL h0 hch
    obtain ⟨j2, ej2, oj2, hj2⟩ := of_one hLF h0F hch
    obtain ⟨pp, epp⟩ := at_of (xs := jnP [] ss) (i := j) rfl (by rw [jnP_len]; exact hj)
    have e2 : pp = j2 := by
      have := J.mem ch j pp hch.len (by rw [ej]; exact List.mem_singleton.mpr rfl) epp
      rw [ej2] at this
      exact List.mem_singleton.mp this
    refine ⟨_, rfl, _, rfl, f1, t, ch, jnF ss, rfl, hf1.same s2, tt, by rw [hch.len]; exact hLF.fine, by rw [hch.len]; omega, fun Ha sa => ?_⟩
    rw [oj2]
    refine ⟨_, rfl, _, rfl, _, rfl, m, t, ch, ss, rfl, hm.same (s12.trans sa), same_tup sa tt, by rw [hch.len]; exact hf, by rw [hch.len]; omega, fun Hb sb => ?_⟩
    rw [oj]
    refine ⟨pl, _, _, vI pp, rfl, rfl, SqL.of (((s2.trans sa).trans sb) _ _ ep), atI_nat (vI_at epp), ?_⟩
    refine ⟨rfl, _, rfl, ?_⟩
    rw [e2, decide_eq_true (show oi (some j2) = vI j2 from rfl)]
    refine iteF ?_
    exact ⟨(s2.trans sa).trans sb, _, rfl⟩
  · rintro σ H2 ⟨s2, y5, rfl⟩
    have s02 := s1.trans s2
    obtain ⟨fb, hfb, lfb, tfb⟩ := id hf1
    refine ⟨(by show 1 ≤ sizeLine; decide), fun l0 nl0 => ?_⟩
    have j1 := new_same (o := .lst [.int 0]) nl0
    refine ⟨_, rfl, f1, _, rfl, .inl ((s2.trans j1).seq hfb), ?_⟩
    refine ⟨l0, _, _, rfl, rfl, upd_same, by omega, by rw [List.length_map]; omega, by rw [List.length_map]; simp only [List.length_singleton]; omega, fun cl ncl => ?_⟩
    rw [List.length_map, Int.toNat_natCast, rep_ints, lfb]
    have j2 := j1.trans (new_same (o := .lst ((List.replicate (jnF ss).length (0 : Int)).map V.int)) ncl)
    have ncl0 : H2 cl = none := j1.free ncl
    have s03 := s02.trans j2
    refine ⟨_, rfl, _, rfl, _, rfl, a, m, z, ss, rfl, s03.seq ha, hm.same s03, hz.mono (by omega), hL.weak, by omega, fun c1 H4 s4 n4 e4 => ?_⟩
    have s24 := j2.trans s4
    have ep4 := (s2.trans s24) _ _ ep
    have ecl4 := s4 _ _ (upd_same (o := .lst ((List.replicate (jnF ss).length (0 : Int)).map V.int)) (a := cl))
    refine ⟨pl, c1, _, _, rfl, SqL.of ep4, SqL.of e4, ?_⟩
    have nclc1 : cl ≠ c1 := ne_of_none upd_same n4
    have nplcl : pl ≠ cl := ne_of_none (s2 _ _ ep) ncl0
    have lPM : ((jnP [] ss).zip (mets z ss)).length = ss.length := by rw [List.length_zip, jnP_len, mets_len, Nat.min_self]
    refine for_it (walk_zip (n := ss.length) (by rw [List.length_map, List.length_map, jnP_len, mets_len, Nat.min_self])) (fun i σ H5 => Same H2 H5 ∧ H5 pl = some (.lst ((jnP [] ss).map vI)) ∧ H5 c1 = some (.lst ((mets z ss).map V.int)) ∧ H5 cl = some (.lst ((accL (List.replicate (jnF ss).length 0) (((jnP [] ss).zip (mets z ss)).take i)).map V.int)) ∧
        ∃ y5 y7 y8, σ = [some (.ref a), some (.ref m), some (.ref d), some (.ref f1), some (.ref pl), y5, some (.ref cl), y7, y8])
      ⟨s24, ep4, e4, by rw [List.take_zero]; exact ecl4, y5, none, none, rfl⟩ (fun i σ H5 _ h => ⟨SqL.of h.2.1, SqL.of h.2.2.1⟩) ?_ ?_
    · rintro i x σ H5 H6 hi ⟨s5, ep5, e5, ec5, y5, y7, y8, rfl⟩ ⟨T, x1, x2, rfl, nT, rfl, ea, eb⟩
      obtain ⟨pp, epp, rfl⟩ := map_at ea
      obtain ⟨mm, emm, rfl⟩ := map_at eb
      have low := J.low i pp epp
      have jT := new_same (o := .tup [vI pp, .int mm]) nT
      refine ⟨T, _, rfl, SqT.of upd_same, rfl, _, _, rfl, _, _, rfl, rfl, ?_⟩
      have ec6 := jT _ _ ec5
      have lac : (accL (List.replicate (jnF ss).length 0) (((jnP [] ss).zip (mets z ss)).take i)).length = (jnF ss).length := by rw [accL_len, List.length_replicate]
      refine ⟨_, rfl, _, rfl, cl, _, _, _, rfl, rfl, SqL.of ec6, ints_atI (by omega), _, rfl, _, _, rfl, rfl, ?_⟩
      refine ⟨_, rfl, _, rfl, cl, _, _, pp, rfl, rfl, ec6, ixN_nat (by rw [List.length_map]; omega), ?_⟩
      refine ⟨own_same ncl0 (s5.trans jT), ?_, ?_, ?_, _, _, _, rfl⟩
      · rw [upd_ne nplcl]
        exact jT _ _ ep5
      · rw [upd_ne nclc1.symm]
        exact jT _ _ e5
      · rw [upd_same, take_at (x := (pp, mm)) (by rw [List.getElem?_zip_eq_some]; exact ⟨epp, emm⟩), accL_snoc, map_set]
    · rintro σ H5 ⟨s5, ep5, e5, ec5, y5, y7, y8, rfl⟩
      rw [← lPM, List.take_length, J.acc _ (Nat.le_refl _), Nat.sub_self, List.replicate_zero, List.append_nil] at ec5
      have s05 := s02.trans s5
      have hf5 := hf1.same (s2.trans s5)
      refine ⟨_, rfl, _, rfl, a, f1, z, jnF ss, rfl, s05.seq ha, hf5, hz.mono (by omega), hLF.weak, by omega, fun c2 H6 s6 n6 e6 => ?_⟩
      refine ⟨_, rfl, 1, by decide, .inl ⟨c2, cl, _, _, rfl, rfl, SqL.of e6, SqL.of (s6 _ _ ec5), ints_same _⟩, _, rfl, ?_⟩
      refine iteT ?_
      refine ⟨_, rfl, _, rfl, a, f1, z, jnF ss, rfl, (s05.trans s6).seq ha, hf5.same s6, hLF, fun H7 s7 => ?_⟩
      refine ⟨_, _, rfl, rfl, ?_⟩
      rw [decide_eq_true h0F]
      exact q _ ((s05.trans s6).trans s7)
end
end K27
end

section
set_option Elab.async false
set_option linter.all false
set_option maxRecDepth 100000
set_option maxHeartbeats 8000000
namespace K27
open PySem PySem.Spec PyProof.Rows L2 Gd Bx
abbrev sWider : Stmt := topS 19
abbrev nWider : List Str := ["_law_feed_here", "_law_sizes_here", "_law_slabs", "_law_drawn_ones", "_law_more", "_law_choice", "_law_wider", "_law_due", "_law_count"]
theorem scWider : FnScope nWider ["_law_feed_here", "_law_sizes_here", "_law_slabs", "_law_drawn_ones"] (defScope sWider) := ⟨rfl, rfl, rfl, by decide +kernel, rfl, by decide +kernel, by decide +kernel⟩
def spWider (K : PySem.W.Frag) : Sp := fun vs H Q _ => ∃ (p a m d : Addr) (S : Int) (z : List Int) (ss : List Slab) (cs : List (List Int)), vs = [.ref p, .ref a, .ref m, .ref d] ∧ Feed H p S ∧ S ≤ 100000000 ∧ H a = some (.lst (z.map V.int)) ∧ a ≠ p ∧ SlabsL K H m ss ∧ m ≠ p ∧ ChoicesL K H d cs ∧ d ≠ p ∧
  In 60 z ∧ Leg z ss ∧ (0 : Int) ∈ lft z ss ∧ ss.length ≤ 180 ∧ 1 ≤ z.length ∧ z.length ≤ 3 ∧ (∀ c ∈ cs, Choice z c) ∧ cs.length ≤ 12 ∧ ∀ H', Ex1 p H H' → Feed H' p (S + 14) → Q (.bl true) H'
section
variable {P : Program} {w : World} {K : PySem.W.Frag} {mg : Str → Option Value} {base : Heap} {f fT fO fM fA : Addr} {fd dT dO dM dA : FuncData}
theorem ok_wider (F : Fun K "_law_wider_right" "_law_wider_right" sWider f fd)
    (FT : Fun K "_law_take" "_law_take" sTake fT dT) (bT : Binds K dT ["_law_feed_here", "_law_many"] []) (gT : mg "_law_take" = some (.ref fT))
    (FO : Fun K "slab_of" "slab_of" sOf fO dO) (GO : FnOk P w K mg base CX0 1 fO dO ["slabs", "positions"] (spOf K)) (bO : Binds K dO ["slabs", "positions"] []) (gO : mg "slab_of" = some (.ref fO))
    (FM : Fun K "met_by" "met_by" sMet fM dM) (GM : FnOk P w K mg base CX0 1 fM dM ["sizes", "slabs"] (spMet K)) (bM : Binds K dM ["sizes", "slabs"] []) (gM : mg "met_by" = some (.ref fM))
    (FA : Fun K "are_whole" "are_whole" sWh fA dA) (GA : FnOk P w K mg base CX0 3 fA dA ["sizes", "thing"] (spWh K)) (bA : Binds K dA ["sizes", "thing"] []) (gA : mg "are_whole" = some (.ref fA)) :
    FnOk P w K mg base CX0 4 f fd ["_law_feed_here", "_law_sizes_here", "_law_slabs", "_law_drawn_ones"] (spWider K) := by
  have G : FnOk P w K mg base CX0 1 fT dT ["_law_feed_here", "_law_many"] spTake := ok_take FT
  refine F.ok scWider (fun vs H Q E h => ?_) (fun cdv A outer s H vs Q E hr h => ?_)
  · obtain ⟨p, a, m, d, S, z, ss, cs, rfl, _⟩ := h
    rfl
  obtain ⟨p, a, m, d, S, z, ss, cs, rfl, hF, hS, ea, nap, hm, nmp, hd, ndp, hz, hL, h0, hlen, l1, l3, hcs, lcs, q⟩ := h
  have nd := scWider.nd
  have zl : sizeLine = 16777216 := rfl
  have hr1 := hr.mono (show 1 ≤ 3 by decide)
  have hf := hL.fine
  refine ⟨_, pss_cons (ps_set (i := 4) nd rfl (.inr rfl) (pe_ix ix_list (pe_lst (pa_cons pe_int (pa_cons (pe_op op_add pe_int (pe_call G hr1 (by rfl) gT FT.kp bT .nil pass0 (pa_cons (pv 0) (pa_cons pe_int pa_nil)))) pa_nil)))
        (pe_call G hr1 (by rfl) gT FT.kp bT .nil pass0 (pa_cons (pv 0) (pa_cons pe_int pa_nil))) (fun _ _ => rfl)))
    (pss_cons (ps_for PassesOwn.never rfl (pi_list (pv 3)) (pg_name (i := 5) nd rfl (.inl rfl))
      (pss_one (ps_if (pt_cmpR op_ne (pe_call GO hr1 (by rfl) gO FO.kp bO .nil pass0 (pa_cons (pv 2) (pa_cons (pe_op op_catA (pv 5) (pe_tup (pa_cons (pe_call G hr1 (by rfl) gT FT.kp bT .nil pass0 (pa_cons (pv 0) (pa_cons (pv 4) pa_nil))) pa_nil))) pa_nil)))
        (pe_call GO hr1 (by rfl) gO FO.kp bO .nil pass0 (pa_cons (pv 2) (pa_cons (pv 5) pa_nil))) (nomark _)) pss_never pss_nil)))
    (pss_cons (ps_set (i := 6) nd rfl (.inl rfl) (pe_op op_cat (pv 1) (pe_lst (pa_cons (pv 4) pa_nil))))
    (pss_cons (ps_setLc (i := 7) (own := [("_law_count", 8)]) (g := gName 8) (tt := tYes) rfl nd rfl rfl (by rfl) (pi_list (pe_call GM hr1 (by rfl) gM FM.kp bM .nil pass0 (pa_cons (pv 1) (pa_cons (pv 2) pa_nil)))) (blkOk_by (N := nWider) (sc := defScope sWider) (by decide +kernel))
        (fun _ _ _ _ _ => pg_name (i := 8) nd rfl (Or.inl rfl)) (fun _ _ _ _ _ => pts_nil) (fun _ _ _ _ _ => pe_op op_mul (pv 8) (pv 4)))
    (pss_one (ps_ret (pe_and (pe_cmpR (op_eqV hr.units) (pe_call GM hr1 (by rfl) gM FM.kp bM .nil pass0 (pa_cons (pv 6) (pa_cons (pv 2) pa_nil))) (pv 7) (nomark _))
      (pe_one (pe_cmpR op_is_bl (pe_call GA hr (by rfl) gA FA.kp bA .nil pass0 (pa_cons (pv 6) (pa_cons (pv 2) pa_nil))) pe_bl (nomark _))))))))), ?_⟩
  refine ⟨_, rfl, p, _, _, rfl, hF, by omega, by omega, by omega, fun r1 H1 r10 r11 f1 x1 => ?_⟩
  refine ⟨_, _, rfl, rfl, (by show 2 ≤ sizeLine; decide), fun l0 nl0 => ?_⟩
  have j1 := new_same (o := .lst [.int 1, .int (2 + r1)]) nl0
  have nl0p := f1.not nl0
  refine ⟨_, rfl, p, _, _, rfl, f1.kept j1, by omega, by omega, by omega, fun r2 H2 r20 r21 f2 x2 => ?_⟩
  have el0 := x2 _ _ nl0p (upd_same (H := H1) (o := .lst [.int 1, .int (2 + r1)]) (a := l0))
  have x02 : Ex1 p H H2 := x1.trans ((ex1_of_same j1).trans x2)
  obtain ⟨wide, ew, w1, w60⟩ : ∃ wide : Int, atI [V.int 1, V.int (2 + r1)] r2 = some (.int wide) ∧ 1 ≤ wide ∧ wide ≤ 60 := by
    have : r2 = ((0 : Nat) : Int) ∨ r2 = ((1 : Nat) : Int) := by omega
    rcases this with e | e
    · rw [e]
      exact ⟨1, atI_nat rfl, by omega, by omega⟩
    · rw [e]
      exact ⟨2 + r1, atI_nat rfl, by omega, by omega⟩
  refine ⟨l0, _, _, _, rfl, rfl, SqL.of el0, ew, ?_⟩
  have hm2 := hm.drawn hF nmp x02
  have hd2 := hd.drawn hF ndp x02
  obtain ⟨cb, hcb, lcb, tcb⟩ := hd2
  refine ⟨_, rfl, d, rfl, ⟨_, SqL.of hcb⟩, ?_⟩
  refine for_it walk_list (fun i σ H3 => Ex1 p H2 H3 ∧ Feed H3 p (S + 2 + i) ∧ ∃ y5, σ = [some (.ref p), some (.ref a), some (.ref m), some (.ref d), some (.int wide), y5, none, none, none])
    ⟨fun _ _ _ e => e, f2.le (by omega), none, rfl⟩ (fun i σ H3 _ h => SqL.of (h.1 _ _ ndp hcb)) ?_ ?_
  · rintro i x σ H3 H4 hi ⟨x3, f3, y5, rfl⟩ ⟨rfl, ex⟩
    obtain ⟨t, et, rfl⟩ := map_at ex
    obtain ⟨ch, ech⟩ := at_of lcb.symm (at_lt et)
    have i12 : i < 12 := by have := at_lt ech; omega
    have hch := hcs ch (List.mem_of_getElem? ech)
    have tt := ex1_tup f2 x3 (tcb i t ch et ech)
    obtain ⟨j, ej, oj, hj⟩ := of_one hL h0 hch
    refine ⟨_, rfl, _, rfl, _, rfl, _, rfl, p, _, _, rfl, f3, by omega, by omega, by omega, fun r H5 r0 r1' f5 x5 => ?_⟩
    have tt5 := ex1_tup f3 x5 tt
    refine ⟨(by show 1 ≤ sizeLine; decide), fun u nu => ?_⟩
    have ju := new_same (o := .tup [.int r]) nu
    have cne : ch.map V.int ≠ [] := fun e => by
      have := hch.len
      rw [List.map_eq_nil_iff.mp e] at this
      simp at this
      omega
    refine ⟨t, u, _, _, rfl, rfl, same_tup ju tt5, SqT.of upd_same, by rw [List.length_map, hch.len]; simp only [List.length_singleton]; omega, fun e => absurd e cne, fun _ e => (nomatch e), fun _ _ v nv => ?_⟩
    have jv := new_same (o := .tup (ch.map V.int ++ [.int r])) nv
    have juv := ju.trans jv
    have x35 := x3.trans x5
    have hm5 := ((hm2.drawn f2 nmp x35).at_).same juv
    have lr : (ch ++ [r]).length = z.length + 1 := by rw [List.length_append, hch.len]; rfl
    refine ⟨m, v, ch ++ [r], ss, rfl, hm5, by rw [List.map_append]; exact SqT.of upd_same, fun s hs => ⟨by rw [lr]; have := (hf s hs).1; omega, (hf s hs).2⟩, by omega, fun H7 s7 => ?_⟩
    have e2 : slabOf (List.replicate (ch ++ [r]).length 0) ss (ch ++ [r]) 0 = some j := by
      unfold slabOf
      rw [lr, List.replicate_succ', hits_more (by rw [hch.len, List.length_replicate]) r0 (by rw [List.length_replicate]; exact hf), ej]
      rfl
    rw [e2]
    refine ⟨_, rfl, _, rfl, m, t, ch, ss, rfl, hm5.same s7, same_tup (juv.trans s7) tt5, by rw [hch.len]; exact hf, by rw [hch.len]; omega, fun H8 s8 => ?_⟩
    rw [oj]
    refine ⟨rfl, _, rfl, ?_⟩
    rw [decide_eq_true rfl]
    refine iteF ?_
    exact ⟨x35.trans (ex1_of_same ((juv.trans s7).trans s8)), (f5.kept ((juv.trans s7).trans s8)).le (by omega), _, rfl⟩
  · rintro σ H3 ⟨x3, f3, y5, rfl⟩
    have x03 := x02.trans x3
    have ea3 := x03 _ _ nap ea
    have hm3 := (hm.drawn hF nmp x03).at_
    refine ⟨_, rfl, _, rfl, (by show 1 ≤ sizeLine; decide), fun q1 nq1 => ?_⟩
    have j4 := new_same (o := .lst [.int wide]) nq1
    refine ⟨a, q1, _, _, rfl, rfl, j4 _ _ ea3, upd_same, by rw [List.length_map]; simp only [List.length_singleton]; omega, fun q2 nq2 => ?_⟩
    have j5 := j4.trans (new_same (o := .lst (z.map V.int ++ [.int wide])) nq2)
    refine ⟨_, rfl, _, rfl, a, m, z, ss, rfl, SqL.of (j5 _ _ ea3), hm3.same j5, hz.mono (by omega), hL.weak, by omega, fun c1 H6 s6 n6 e6 => ?_⟩
    have j6 := j5.trans s6
    have eq2 := s6 _ _ (upd_same (o := .lst (z.map V.int ++ [.int wide])) (a := q2))
    refine ⟨c1, rfl, ⟨_, SqL.of e6⟩, fun D nD => ?_⟩
    refine lc_it walk_list (fun i H7 => Same H6 H7 ∧ H7 D = some (.lst ((((mets z ss).map (· * wide)).take i).map V.int))) ⟨new_same nD, by rw [List.take_zero]; exact upd_same⟩ (fun i H7 _ h => SqL.of (h.1 _ _ e6)) ?_ ?_
    · rintro i x H7 H8 hi ⟨s7, eD⟩ ⟨rfl, ex⟩
      rw [List.length_map, mets_len] at hi
      obtain ⟨mm, emm, rfl⟩ := map_at ex
      refine ⟨rfl, ?_⟩
      refine ⟨_, rfl, _, rfl, _, _, rfl, rfl, .inr ⟨by omega, by omega⟩, ?_⟩
      refine ⟨_, eD, by rw [List.length_map, List.length_take, List.length_map, mets_len]; omega, own_same nD s7, ?_⟩
      rw [upd_same, take_at (x := mm * wide) (by rw [List.getElem?_map, emm] <;> rfl), List.map_append]
      rfl
    rintro H7 ⟨s7, eD⟩
    rw [List.length_map, List.take_of_length_le (by rw [List.length_map]; exact Nat.le_refl _)] at eD
    have eq7 : H7 q2 = some (.lst ((z ++ [wide]).map V.int)) := by
      rw [List.map_append]
      exact s7 _ _ eq2
    have j7 := j6.trans s7
    have hw : In 60 (z ++ [wide]) := fun x hx => by
      rcases List.mem_append.mp hx with h | h
      · exact hz x h
      · rw [List.mem_singleton.mp h]
        omega
    have hLw : Leg (z ++ [wide]) ss := leg_more w1 hL
    refine ⟨_, rfl, _, rfl, q2, m, _, ss, rfl, SqL.of eq7, hm3.same j7, hw.mono (by omega), hLw.weak, by omega, fun c2 H8 s8 n8 e8 => ?_⟩
    rw [mets_more hf] at e8
    refine ⟨_, rfl, 1, by decide, .inl ⟨c2, D, _, _, rfl, rfl, SqL.of e8, SqL.of (s8 _ _ eD), ints_same _⟩, _, rfl, ?_⟩
    refine iteT ?_
    refine ⟨_, rfl, _, rfl, q2, m, _, ss, rfl, SqL.of (s8 _ _ eq7), hm3.same (j7.trans s8), hLw, fun H9 s9 => ?_⟩
    refine ⟨_, _, rfl, rfl, ?_⟩
    rw [decide_eq_true (show (0 : Int) ∈ lft (z ++ [wide]) ss by rw [lft_more hf]; exact List.mem_append_left _ h0)]
    have lc12 : ((cb.map V.ref).length : Int) ≤ 12 := by rw [List.length_map, lcb]; omega
    exact q _ (x03.trans (ex1_of_same ((j7.trans s8).trans s9))) ((f3.kept ((j7.trans s8).trans s9)).le (by omega))
end
end K27
end

section
set_option Elab.async false
set_option linter.all false
set_option maxRecDepth 100000
set_option maxHeartbeats 8000000
namespace K27
open PySem PySem.Spec PyProof.Rows L2 Gd Bx
abbrev sTurn : Stmt := topS 20
abbrev nTurn : List Str := ["_law_feed_here", "_law_sizes_here", "_law_slabs", "_law_drawn_ones", "_law_size"]
theorem scTurn : FnScope nTurn ["_law_feed_here"] (defScope sTurn) := ⟨rfl, rfl, rfl, by decide +kernel, rfl, by decide +kernel, by decide +kernel⟩
def spTurn : Sp := fun vs H Q _ => ∃ (p : Addr) (S : Int), vs = [.ref p] ∧ Feed H p S ∧ S ≤ 1000 ∧ ∀ H', Ex1 p H H' → Q (.bl true) H'
def up1 (x : Int) : Int := if x > 1 then x else 1
section
variable {P : Program} {w : World} {K : PySem.W.Frag} {mg : Str → Option Value} {base : Heap} {f fS fW fD fR fT fP fJ fX : Addr} {fd dS dW dD dR dT dP dJ dX : FuncData}
theorem ok_turn (F : Fun K "_law_turn" "_law_turn" sTurn f fd) (mx : mg "max" = none) (mn : mg "len" = none)
    (FS : Fun K "_law_sizes" "_law_sizes" sSizes fS dS) (GS : FnOk P w K mg base CX0 2 fS dS ["_law_feed_here", "_law_most"] spSizes) (bS : Binds K dS ["_law_feed_here", "_law_most"] []) (gS : mg "_law_sizes" = some (.ref fS))
    (FW : Fun K "_law_whole" "_law_whole" sWhole fW dW) (GW : FnOk P w K mg base CX0 2 fW dW ["_law_feed_here", "_law_sizes_here"] (spWhole K)) (bW : Binds K dW ["_law_feed_here", "_law_sizes_here"] []) (gW : mg "_law_whole" = some (.ref fW))
    (FD : Fun K "_law_drawn" "_law_drawn" sDrawn fD dD) (GD : FnOk P w K mg base CX0 2 fD dD ["_law_feed_here", "_law_sizes_here"] (spDrawn K)) (bD : Binds K dD ["_law_feed_here", "_law_sizes_here"] []) (gD : mg "_law_drawn" = some (.ref fD))
    (FR : Fun K "_law_order" "_law_order" sOrder fR dR) (GR : FnOk P w K mg base CX0 2 fR dR ["_law_feed_here", "_law_many"] spOrder) (bR : Binds K dR ["_law_feed_here", "_law_many"] []) (gR : mg "_law_order" = some (.ref fR))
    (FT : Fun K "_law_turned_right" "_law_turned_right" sTurned fT dT) (GT : FnOk P w K mg base CX0 4 fT dT ["_law_order_here", "_law_sizes_here", "_law_slabs", "_law_drawn_ones"] (spTurned K)) (bT : Binds K dT ["_law_order_here", "_law_sizes_here", "_law_slabs", "_law_drawn_ones"] []) (gT : mg "_law_turned_right" = some (.ref fT))
    (FP : Fun K "_law_parted_right" "_law_parted_right" sParted fP dP) (GP : FnOk P w K mg base CX0 4 fP dP ["_law_feed_here", "_law_sizes_here", "_law_slabs", "_law_drawn_ones"] (spParted K)) (bP : Binds K dP ["_law_feed_here", "_law_sizes_here", "_law_slabs", "_law_drawn_ones"] []) (gP : mg "_law_parted_right" = some (.ref fP))
    (FJ : Fun K "_law_joined_right" "_law_joined_right" sJR fJ dJ) (GJ : FnOk P w K mg base CX0 4 fJ dJ ["_law_sizes_here", "_law_slabs", "_law_drawn_ones"] (spJR K)) (bJ : Binds K dJ ["_law_sizes_here", "_law_slabs", "_law_drawn_ones"] []) (gJ : mg "_law_joined_right" = some (.ref fJ))
    (FX : Fun K "_law_wider_right" "_law_wider_right" sWider fX dX) (GX : FnOk P w K mg base CX0 4 fX dX ["_law_feed_here", "_law_sizes_here", "_law_slabs", "_law_drawn_ones"] (spWider K)) (bX : Binds K dX ["_law_feed_here", "_law_sizes_here", "_law_slabs", "_law_drawn_ones"] []) (gX : mg "_law_wider_right" = some (.ref fX)) :
    FnOk P w K mg base CX0 5 f fd ["_law_feed_here"] spTurn := by
  refine F.ok scTurn (fun vs H Q E h => ?_) (fun cdv A outer s H vs Q E hr h => ?_)
  · obtain ⟨p, S, rfl, _⟩ := h
    rfl
  obtain ⟨p, S, rfl, hF, hS, q⟩ := h
  have nd := scTurn.nd
  have zl : sizeLine = 16777216 := rfl
  have hr2 := hr.mono (show 2 ≤ 4 by decide)
  refine ⟨_, pss_cons (ps_setLc (i := 1) (own := [("_law_size", 4)]) (g := gName 4) (tt := tYes) rfl nd rfl rfl (by rfl) (pi_list (pe_call GS hr2 (by rfl) gS FS.kp bS .nil pass0 (pa_cons (pv 0) (pa_cons pe_int pa_nil)))) (blkOk_by (N := nTurn) (sc := defScope sTurn) (by decide +kernel))
        (fun _ _ _ _ _ => pg_name (i := 4) nd rfl (Or.inl rfl)) (fun _ _ _ _ _ => pts_nil) (fun _ _ _ _ _ => pe_callB (call_max2 rfl) (by rfl) mx (by decide +kernel) (pa_cons pe_int (pa_cons (pv 4) pa_nil))))
    (pss_cons (ps_set (i := 2) nd rfl (.inl rfl) (pe_call GW hr2 (by rfl) gW FW.kp bW .nil pass0 (pa_cons (pv 0) (pa_cons (pv 1) pa_nil))))
    (pss_cons (ps_set (i := 3) nd rfl (.inl rfl) (pe_call GD hr2 (by rfl) gD FD.kp bD .nil pass0 (pa_cons (pv 0) (pa_cons (pv 1) pa_nil))))
    (pss_cons (ps_if (pt_not (pt_val (pe_call GT hr (by rfl) gT FT.kp bT .nil pass0 (pa_cons (pe_call GR hr2 (by rfl) gR FR.kp bR .nil pass0 (pa_cons (pv 0) (pa_cons (pe_callB call_len_seq (by rfl) mn PySem.boot_len (pa_cons (pv 1) pa_nil)) pa_nil)))
        (pa_cons (pv 1) (pa_cons (pv 2) (pa_cons (pv 3) pa_nil))))))) pss_never pss_nil)
    (pss_cons (ps_if (PW.pt (pw_or (pt_not (pt_val (pe_call GP hr (by rfl) gP FP.kp bP .nil pass0 (pa_cons (pv 0) (pa_cons (pv 1) (pa_cons (pv 2) (pa_cons (pv 3) pa_nil)))))))
        (pw_or1 (pt_not (pt_val (pe_call GJ hr (by rfl) gJ FJ.kp bJ .nil pass0 (pa_cons (pv 1) (pa_cons (pv 2) (pa_cons (pv 3) pa_nil))))))))) pss_never pss_nil)
    (pss_one (ps_ret (pe_or (pe_cmpR op_gt (pe_callB call_len_seq (by rfl) mn PySem.boot_len (pa_cons (pv 1) pa_nil)) pe_int (nomark _))
      (pe_one (pe_call GX hr (by rfl) gX FX.kp bX .nil pass0 (pa_cons (pv 0) (pa_cons (pv 1) (pa_cons (pv 2) (pa_cons (pv 3) pa_nil))))))))))))), ?_⟩
  refine ⟨_, rfl, p, S, rfl, hF, by omega, fun l0 z0 H1 x1 f1 n1 e1 z1 z3 hz0 => ?_⟩
  have nl0p := hF.not n1
  refine ⟨l0, rfl, ⟨_, SqL.of e1⟩, fun l nl => ?_⟩
  have nlp := f1.not nl
  refine lc_it walk_list (fun i H2 => Same H1 H2 ∧ H2 l = some (.lst (((z0.map up1).take i).map V.int))) ⟨new_same nl, by rw [List.take_zero]; exact upd_same⟩ (fun i H2 _ h => SqL.of (h.1 _ _ e1)) ?_ ?_
  · rintro i x H2 H3 hi ⟨s2, el⟩ ⟨rfl, ex⟩
    obtain ⟨y, ey, rfl⟩ := map_at ex
    refine ⟨rfl, ?_⟩
    refine ⟨_, rfl, _, _, rfl, ?_⟩
    refine ⟨_, el, by rw [List.length_map, List.length_take, List.length_map]; omega, own_same nl s2, ?_⟩
    rw [upd_same, take_at (x := up1 y) (by rw [List.getElem?_map, ey] <;> rfl), List.map_append]
    rfl
  rintro H2 ⟨s2, el⟩
  rw [List.length_map, List.take_of_length_le (by rw [List.length_map]; exact Nat.le_refl _)] at el
  have hz : In 60 (z0.map up1) := fun x hx => by
    obtain ⟨y, hy, rfl⟩ := List.mem_map.mp hx
    have := hz0 y hy
    unfold up1
    split <;> omega
  have lz : (z0.map up1).length = z0.length := List.length_map ..
  generalize z0.map up1 = z at *
  have f2 := f1.kept s2
  have x2 := x1.trans (ex1_of_same s2)
  refine ⟨_, rfl, _, rfl, p, l, _, z, rfl, f2, by omega, el, nlp, by omega, by omega, hz, fun m ss H3 x3 f3 n3 em hL h0 hn => ?_⟩
  have nmp := f2.not n3
  have e3 := x3 _ _ nlp el
  refine ⟨_, rfl, _, rfl, p, l, _, z, rfl, f3, by omega, e3, nlp, by omega, by omega, hz, fun d cs H4 x4 f4 n4 hc oc lc => ?_⟩
  have ndp := f3.not n4
  have e4 := x4 _ _ nlp e3
  have em4 := em.drawn f3 nmp x4
  have x04 := (x2.trans x3).trans x4
  refine ⟨_, rfl, _, rfl, l, _, rfl, .inl (SqL.of e4), ?_⟩
  refine ⟨p, _, z.length, by rw [List.length_map]; rfl, f4, by omega, by omega, by omega, fun o1 o H5 x5 f5 n5 e5 ho => ?_⟩
  have em5 := em4.drawn f4 nmp x5
  have hc5 := hc.drawn f4 ndp x5
  have e45 := x5 _ _ nlp e4
  refine ⟨_, rfl, _, rfl, _, rfl, o1, l, m, d, o, z, ss, cs, rfl, SqL.of e5, SqL.of e45, em5.at_, hc5, ho, hz, hL, h0, hn, by omega, by omega, oc, fun H6 s6 => ?_⟩
  refine ⟨_, rfl, ?_⟩
  refine iteF ?_
  have f6 := f5.kept s6
  have x6 : Ex1 p H5 H6 := ex1_of_same s6
  have em6 := em5.drawn f5 nmp x6
  have hc6 := hc5.drawn f5 ndp x6
  have e6 := s6 _ _ e45
  refine ⟨_, rfl, _, rfl, _, rfl, _, rfl, p, l, m, d, _, z, ss, cs, rfl, f6, by omega, e6, nlp, em6, nmp, hc6, ndp, hz, hL, h0, hn, by omega, by omega, oc, fun H7 x7 f7 => ?_⟩
  refine ⟨_, rfl, ?_⟩
  refine iteF ?_
  have em7 := em6.drawn f6 nmp x7
  have hc7 := hc6.drawn f6 ndp x7
  have e7 := x7 _ _ nlp e6
  refine ⟨_, rfl, _, rfl, _, rfl, l, m, d, z, ss, cs, rfl, SqL.of e7, em7.at_, hc7, hz, hL, h0, hn, by omega, by omega, oc, fun H8 s8 => ?_⟩
  refine ⟨_, rfl, ?_⟩
  refine iteF ?_
  have f8 := f7.kept s8
  have x8 : Ex1 p H7 H8 := ex1_of_same s8
  have e8 := s8 _ _ e7
  have x08 := (((x04.trans x5).trans x6).trans x7).trans x8
  refine ⟨_, rfl, l, _, rfl, .inl (SqL.of e8), _, _, rfl, rfl, _, rfl, ite2 (fun e => ?_) (fun e => ?_)⟩
  · exact q _ x08
  · refine ⟨_, rfl, _, rfl, _, rfl, _, rfl, p, l, m, d, _, z, ss, cs, rfl, f8, by omega, e8, nlp, em7.drawn f7 nmp x8, nmp, hc7.drawn f7 ndp x8, ndp, hz, hL, h0, hn, by omega, by omega, oc, lc, fun H9 x9 f9 => ?_⟩
    exact q _ (x08.trans x9)
end
end K27
end

section
set_option Elab.async false
set_option linter.all false
set_option maxRecDepth 100000
set_option maxHeartbeats 4000000
namespace K27
open PySem PySem.Spec PyProof.Rows L2 Gd Bx
abbrev sLaw : Stmt := topS 21
theorem scLaw : FnScope ["_law_script", "_law_k"] ["_law_script"] (defScope sLaw) :=
  ⟨rfl, rfl, rfl, by decide +kernel, rfl, by decide +kernel, by decide +kernel⟩
def spLaw (K : PySem.W.Frag) : Sp := fun vs H Q _ => ∃ (a : Addr) (ns : List Int), vs = [.ref a] ∧ SqL K H a (ns.map V.int) ∧ ns.length ≤ 63 ∧ ∀ H', Q (.bl true) H'
theorem list_by {K : PySem.W.Frag} {H H' : Hp} {p a : Addr} {xs : List V} (n : H p = none) (x : Ex1 p H H') (h : SqL K H a xs) : SqL K H' a xs := by
  rcases h with (h | ⟨o, h⟩) | h
  · exact .inl (.inl (x _ _ (ne_of_none h n) h))
  · exact .inl (.inr ⟨o, x _ _ (ne_of_none h n) h⟩)
  · exact .inr h
section
variable {P : Program} {w : World} {K : PySem.W.Frag} {mg : Str → Option Value} {base : Heap} {f fF fT : Addr} {fd dF dT : FuncData}
theorem ok_law (F : Fun K "law" "law" sLaw f fd) (mr : mg "range" = none) (mm : mg "min" = none) (mn : mg "len" = none)
    (FF : Fun K "_law_feed" "_law_feed" sFeed fF dF) (GF : FnOk P w K mg base CX0 1 fF dF ["_law_script", "_law_k"] (spFeed K)) (bF : Binds K dF ["_law_script", "_law_k"] []) (gF : mg "_law_feed" = some (.ref fF))
    (FT : Fun K "_law_turn" "_law_turn" sTurn fT dT) (GT : FnOk P w K mg base CX0 5 fT dT ["_law_feed_here"] spTurn) (bT : Binds K dT ["_law_feed_here"] []) (gT : mg "_law_turn" = some (.ref fT)) :
    FnG P w K mg base CX0 6 f fd ["_law_script"] (spLaw K) := by
  refine okG F scLaw (fun vs H Q E h => ?_) (fun cv A out s H vs Q E gd hr h => ?_)
  · obtain ⟨a, ns, rfl, _⟩ := h
    rfl
  obtain ⟨a, ns, rfl, ha, hn, q⟩ := h
  have nd := scLaw.nd
  have hr1 := hr.mono (show 1 ≤ 5 by decide)
  refine ⟨_, pss_cons (ps_for PassesOwn.never rfl (pi_range1 (by rfl) mr (pa_cons (pe_callB (call_min2 rfl) (by rfl) mm (by decide +kernel) (pa_cons pe_int (pa_cons (pe_callB call_len_seq (by rfl) mn PySem.boot_len (pa_cons (pv 0) pa_nil)) pa_nil))) pa_nil)) (pg_name (i := 1) nd rfl (.inl rfl))
      (pss_one (ps_if (pt_not (pt_val (pe_call GT hr (by rfl) gT FT.kp bT .nil pass0 (pa_cons (pe_call GF hr1 (by rfl) gF FF.kp bF .nil pass0 (pa_cons (pv 0) (pa_cons (pv 1) pa_nil))) pa_nil)))) pss_never pss_nil)))
    (pss_one (ps_ret (pe_call GT hr (by rfl) gT FT.kp bT .nil pass0 (pa_cons (pe_lst (pa_cons pe_int (pa_cons pe_int (pa_cons pe_int pa_nil)))) pa_nil)))), ?_⟩
  refine ⟨_, rfl, a, _, rfl, .inl ha, 3, _, rfl, _, rfl, by split <;> omega, by split <;> omega, ?_⟩
  refine for_it walk_upto (fun i σ H1 => SqL K H1 a (ns.map V.int) ∧ ∃ y, σ = [some (.ref a), y]) ⟨ha, none, rfl⟩ (fun _ _ _ _ _ => trivial) ?_ ?_
  · rintro i x σ H1 H2 hi ⟨h1, y, rfl⟩ ⟨rfl, rfl⟩
    have hi3 : i ≤ 3 := by
      split at hi <;> omega
    refine ⟨_, rfl, _, rfl, a, ns, _, rfl, h1, by omega, by omega, fun p fs np fp => ?_⟩
    refine ⟨p, 0, rfl, fp, by omega, fun H3 x3 => ?_⟩
    refine ⟨_, rfl, ?_⟩
    refine iteF ?_
    exact ⟨list_by np (Ex1.at.trans x3) h1, _, rfl⟩
  · rintro σ H1 ⟨h1, y, rfl⟩
    refine ⟨(by show 3 ≤ sizeLine; decide), fun p np => ?_⟩
    exact ⟨p, 0, rfl, Feed.here (by omega) (by omega), by omega, fun H3 x3 => q H3⟩
end
end K27
end

section
set_option Elab.async false
set_option linter.all false
set_option maxRecDepth 100000
set_option maxHeartbeats 8000000
namespace K27
open PySem PySem.Spec PyProof.Rows L2 Gd
theorem all_mk {l : PySem.W.OpenLaw} {w : World} {K : PySem.W.Frag} {h : Heap} {mg : Str → Option Value} {fa : Addr} {f0 f1 f2 f3 f4 f5 f6 f7 f8 f9 f10 f11 f12 f13 f14 f15 f16 f17 : Addr}  (X : K.In h) (G : h.Ns mainGlobals mg) (hfa : mg "law" = some (.ref fa))
    {od0 an0 od1 an1 od2 an2 od3 an3 od4 an4 od5 an5 od6 an6 od7 an7 od8 an8 od9 an9 od10 an10 od11 an11 od12 an12 od13 an13 od14 an14 od15 an15 od16 an16 od17 an17 : Option Addr} {sl0 sl1 sl2 sl3 sl4 sl5 sl6 sl7 sl8 sl9 sl10 sl11 sl12 sl13 sl14 sl15 sl16 sl17 : Array (Option Value)} {oc0 kV0 dc0 pm0 cd0 ct0 oc1 kV1 dc1 pm1 cd1 ct1 oc2 kV2 dc2 pm2 cd2 ct2 oc3 kV3 dc3 pm3 cd3 ct3 oc4 kV4 dc4 pm4 cd4 ct4 oc5 kV5 dc5 pm5 cd5 ct5 oc6 kV6 dc6 pm6 cd6 ct6 oc7 kV7 dc7 pm7 cd7 ct7 oc8 kV8 dc8 pm8 cd8 ct8 oc9 kV9 dc9 pm9 cd9 ct9 oc10 kV10 dc10 pm10 cd10 ct10 oc11 kV11 dc11 pm11 cd11 ct11 oc12 kV12 dc12 pm12 cd12 ct12 oc13 kV13 dc13 pm13 cd13 ct13 oc14 kV14 dc14 pm14 cd14 ct14 oc15 kV15 dc15 pm15 cd15 ct15 oc16 kV16 dc16 pm16 cd16 ct16 oc17 kV17 dc17 pm17 cd17 ct17 : Value}
    (aF0 : PySem.W.nsIn K mainGlobals "is_whole" = some (some (.ref f0)))
    (lF0 : K.lookup f0 = some ⟨oc0, od0, .func (PySem.W.fnOf "is_whole" "is_whole" (defArgs sIsW) (defBody sIsW) (defScope sIsW) .none kV0 dc0 pm0 an0 cd0 ct0), sl0⟩)
    (cF0 : PySem.W.codeIn K cd0 "is_whole" = true)
    (kF0 : PySem.W.keepIn K (.ref f0) = true)
    (aF1 : PySem.W.nsIn K mainGlobals "are_whole" = some (some (.ref f1)))
    (lF1 : K.lookup f1 = some ⟨oc1, od1, .func (PySem.W.fnOf "are_whole" "are_whole" (defArgs sWh) (defBody sWh) (defScope sWh) .none kV1 dc1 pm1 an1 cd1 ct1), sl1⟩)
    (cF1 : PySem.W.codeIn K cd1 "are_whole" = true)
    (kF1 : PySem.W.keepIn K (.ref f1) = true)
    (aF2 : PySem.W.nsIn K mainGlobals "_is_slab" = some (some (.ref f2)))
    (lF2 : K.lookup f2 = some ⟨oc2, od2, .func (PySem.W.fnOf "_is_slab" "_is_slab" (defArgs sIsSl) (defBody sIsSl) (defScope sIsSl) .none kV2 dc2 pm2 an2 cd2 ct2), sl2⟩)
    (cF2 : PySem.W.codeIn K cd2 "_is_slab" = true)
    (kF2 : PySem.W.keepIn K (.ref f2) = true)
    (aF3 : PySem.W.nsIn K mainGlobals "slab_of" = some (some (.ref f3)))
    (lF3 : K.lookup f3 = some ⟨oc3, od3, .func (PySem.W.fnOf "slab_of" "slab_of" (defArgs sOf) (defBody sOf) (defScope sOf) .none kV3 dc3 pm3 an3 cd3 ct3), sl3⟩)
    (cF3 : PySem.W.codeIn K cd3 "slab_of" = true)
    (kF3 : PySem.W.keepIn K (.ref f3) = true)
    (aF4 : PySem.W.nsIn K mainGlobals "met_by" = some (some (.ref f4)))
    (lF4 : K.lookup f4 = some ⟨oc4, od4, .func (PySem.W.fnOf "met_by" "met_by" (defArgs sMet) (defBody sMet) (defScope sMet) .none kV4 dc4 pm4 an4 cd4 ct4), sl4⟩)
    (cF4 : PySem.W.codeIn K cd4 "met_by" = true)
    (kF4 : PySem.W.keepIn K (.ref f4) = true)
    (aF5 : PySem.W.nsIn K mainGlobals "_law_feed" = some (some (.ref f5)))
    (lF5 : K.lookup f5 = some ⟨oc5, od5, .func (PySem.W.fnOf "_law_feed" "_law_feed" (defArgs sFeed) (defBody sFeed) (defScope sFeed) .none kV5 dc5 pm5 an5 cd5 ct5), sl5⟩)
    (cF5 : PySem.W.codeIn K cd5 "_law_feed" = true)
    (kF5 : PySem.W.keepIn K (.ref f5) = true)
    (aF6 : PySem.W.nsIn K mainGlobals "_law_take" = some (some (.ref f6)))
    (lF6 : K.lookup f6 = some ⟨oc6, od6, .func (PySem.W.fnOf "_law_take" "_law_take" (defArgs sTake) (defBody sTake) (defScope sTake) .none kV6 dc6 pm6 an6 cd6 ct6), sl6⟩)
    (cF6 : PySem.W.codeIn K cd6 "_law_take" = true)
    (kF6 : PySem.W.keepIn K (.ref f6) = true)
    (aF7 : PySem.W.nsIn K mainGlobals "_law_sizes" = some (some (.ref f7)))
    (lF7 : K.lookup f7 = some ⟨oc7, od7, .func (PySem.W.fnOf "_law_sizes" "_law_sizes" (defArgs sSizes) (defBody sSizes) (defScope sSizes) .none kV7 dc7 pm7 an7 cd7 ct7), sl7⟩)
    (cF7 : PySem.W.codeIn K cd7 "_law_sizes" = true)
    (kF7 : PySem.W.keepIn K (.ref f7) = true)
    (aF8 : PySem.W.nsIn K mainGlobals "_law_whole" = some (some (.ref f8)))
    (lF8 : K.lookup f8 = some ⟨oc8, od8, .func (PySem.W.fnOf "_law_whole" "_law_whole" (defArgs sWhole) (defBody sWhole) (defScope sWhole) .none kV8 dc8 pm8 an8 cd8 ct8), sl8⟩)
    (cF8 : PySem.W.codeIn K cd8 "_law_whole" = true)
    (kF8 : PySem.W.keepIn K (.ref f8) = true)
    (aF9 : PySem.W.nsIn K mainGlobals "_law_drawn" = some (some (.ref f9)))
    (lF9 : K.lookup f9 = some ⟨oc9, od9, .func (PySem.W.fnOf "_law_drawn" "_law_drawn" (defArgs sDrawn) (defBody sDrawn) (defScope sDrawn) .none kV9 dc9 pm9 an9 cd9 ct9), sl9⟩)
    (cF9 : PySem.W.codeIn K cd9 "_law_drawn" = true)
    (kF9 : PySem.W.keepIn K (.ref f9) = true)
    (aF10 : PySem.W.nsIn K mainGlobals "_law_order" = some (some (.ref f10)))
    (lF10 : K.lookup f10 = some ⟨oc10, od10, .func (PySem.W.fnOf "_law_order" "_law_order" (defArgs sOrder) (defBody sOrder) (defScope sOrder) .none kV10 dc10 pm10 an10 cd10 ct10), sl10⟩)
    (cF10 : PySem.W.codeIn K cd10 "_law_order" = true)
    (kF10 : PySem.W.keepIn K (.ref f10) = true)
    (aF11 : PySem.W.nsIn K mainGlobals "_law_turned_right" = some (some (.ref f11)))
    (lF11 : K.lookup f11 = some ⟨oc11, od11, .func (PySem.W.fnOf "_law_turned_right" "_law_turned_right" (defArgs sTurned) (defBody sTurned) (defScope sTurned) .none kV11 dc11 pm11 an11 cd11 ct11), sl11⟩)
    (cF11 : PySem.W.codeIn K cd11 "_law_turned_right" = true)
    (kF11 : PySem.W.keepIn K (.ref f11) = true)
    (aF12 : PySem.W.nsIn K mainGlobals "_law_parted_right" = some (some (.ref f12)))
    (lF12 : K.lookup f12 = some ⟨oc12, od12, .func (PySem.W.fnOf "_law_parted_right" "_law_parted_right" (defArgs sParted) (defBody sParted) (defScope sParted) .none kV12 dc12 pm12 an12 cd12 ct12), sl12⟩)
    (cF12 : PySem.W.codeIn K cd12 "_law_parted_right" = true)
    (kF12 : PySem.W.keepIn K (.ref f12) = true)
    (aF13 : PySem.W.nsIn K mainGlobals "_law_joined" = some (some (.ref f13)))
    (lF13 : K.lookup f13 = some ⟨oc13, od13, .func (PySem.W.fnOf "_law_joined" "_law_joined" (defArgs sJoined) (defBody sJoined) (defScope sJoined) .none kV13 dc13 pm13 an13 cd13 ct13), sl13⟩)
    (cF13 : PySem.W.codeIn K cd13 "_law_joined" = true)
    (kF13 : PySem.W.keepIn K (.ref f13) = true)
    (aF14 : PySem.W.nsIn K mainGlobals "_law_joined_right" = some (some (.ref f14)))
    (lF14 : K.lookup f14 = some ⟨oc14, od14, .func (PySem.W.fnOf "_law_joined_right" "_law_joined_right" (defArgs sJR) (defBody sJR) (defScope sJR) .none kV14 dc14 pm14 an14 cd14 ct14), sl14⟩)
    (cF14 : PySem.W.codeIn K cd14 "_law_joined_right" = true)
    (kF14 : PySem.W.keepIn K (.ref f14) = true)
    (aF15 : PySem.W.nsIn K mainGlobals "_law_wider_right" = some (some (.ref f15)))
    (lF15 : K.lookup f15 = some ⟨oc15, od15, .func (PySem.W.fnOf "_law_wider_right" "_law_wider_right" (defArgs sWider) (defBody sWider) (defScope sWider) .none kV15 dc15 pm15 an15 cd15 ct15), sl15⟩)
    (cF15 : PySem.W.codeIn K cd15 "_law_wider_right" = true)
    (kF15 : PySem.W.keepIn K (.ref f15) = true)
    (aF16 : PySem.W.nsIn K mainGlobals "_law_turn" = some (some (.ref f16)))
    (lF16 : K.lookup f16 = some ⟨oc16, od16, .func (PySem.W.fnOf "_law_turn" "_law_turn" (defArgs sTurn) (defBody sTurn) (defScope sTurn) .none kV16 dc16 pm16 an16 cd16 ct16), sl16⟩)
    (cF16 : PySem.W.codeIn K cd16 "_law_turn" = true)
    (kF16 : PySem.W.keepIn K (.ref f16) = true)
    (aF17 : PySem.W.nsIn K mainGlobals "law" = some (some (.ref f17)))
    (lF17 : K.lookup f17 = some ⟨oc17, od17, .func (PySem.W.fnOf "law" "law" (defArgs sLaw) (defBody sLaw) (defScope sLaw) .none kV17 dc17 pm17 an17 cd17 ct17), sl17⟩)
    (cF17 : PySem.W.codeIn K cd17 "law" = true)
    (kF17 : PySem.W.keepIn K (.ref f17) = true)
    (z_isinstance : PySem.W.nsIn K mainGlobals "isinstance" = some none)
    (z_int : PySem.W.nsIn K mainGlobals "int" = some none)
    (z_bool : PySem.W.nsIn K mainGlobals "bool" = some none)
    (z_tuple : PySem.W.nsIn K mainGlobals "tuple" = some none)
    (z_list : PySem.W.nsIn K mainGlobals "list" = some none)
    (z_len : PySem.W.nsIn K mainGlobals "len" = some none)
    (z_all : PySem.W.nsIn K mainGlobals "all" = some none)
    (z_zip : PySem.W.nsIn K mainGlobals "zip" = some none)
    (z_enumerate : PySem.W.nsIn K mainGlobals "enumerate" = some none)
    (z_range : PySem.W.nsIn K mainGlobals "range" = some none)
    (z_min : PySem.W.nsIn K mainGlobals "min" = some none)
    (z_max : PySem.W.nsIn K mainGlobals "max" = some none)
    (z_abs : PySem.W.nsIn K mainGlobals "abs" = some none) :
    ∃ fd : FuncData, (∀ (s : Shared) (v : Value), BindsTo s fd ⟨[v], []⟩ [("_law_script", v)]) ∧ ∀ base : Heap, K.In base → base.Ns mainGlobals mg → FnG l.prog w K mg base CX0 6 fa fd ["_law_script"] (spLaw K) := by
  have e := hfa.symm.trans (PySem.W.mg_of X G aF17)
  cases e
  have F0 := fun_mk (st := sIsW) lF0 cF0 kF0
  have b0 := F0.binds (ps := ["thing"]) fun _ _ _ _ _ _ us hl => match us, hl with | [_], _ => rfl
  have m0 := PySem.W.mg_of X G aF0
  have F1 := fun_mk (st := sWh) lF1 cF1 kF1
  have b1 := F1.binds (ps := ["sizes", "thing"]) fun _ _ _ _ _ _ us hl => match us, hl with | [_, _], _ => rfl
  have m1 := PySem.W.mg_of X G aF1
  have F2 := fun_mk (st := sIsSl) lF2 cF2 kF2
  have b2 := F2.binds (ps := ["rest", "thing"]) fun _ _ _ _ _ _ us hl => match us, hl with | [_, _], _ => rfl
  have m2 := PySem.W.mg_of X G aF2
  have F3 := fun_mk (st := sOf) lF3 cF3 kF3
  have b3 := F3.binds (ps := ["slabs", "positions"]) fun _ _ _ _ _ _ us hl => match us, hl with | [_, _], _ => rfl
  have m3 := PySem.W.mg_of X G aF3
  have F4 := fun_mk (st := sMet) lF4 cF4 kF4
  have b4 := F4.binds (ps := ["sizes", "slabs"]) fun _ _ _ _ _ _ us hl => match us, hl with | [_, _], _ => rfl
  have m4 := PySem.W.mg_of X G aF4
  have F5 := fun_mk (st := sFeed) lF5 cF5 kF5
  have b5 := F5.binds (ps := ["_law_script", "_law_k"]) fun _ _ _ _ _ _ us hl => match us, hl with | [_, _], _ => rfl
  have m5 := PySem.W.mg_of X G aF5
  have F6 := fun_mk (st := sTake) lF6 cF6 kF6
  have b6 := F6.binds (ps := ["_law_feed_here", "_law_many"]) fun _ _ _ _ _ _ us hl => match us, hl with | [_, _], _ => rfl
  have m6 := PySem.W.mg_of X G aF6
  have F7 := fun_mk (st := sSizes) lF7 cF7 kF7
  have b7 := F7.binds (ps := ["_law_feed_here", "_law_most"]) fun _ _ _ _ _ _ us hl => match us, hl with | [_, _], _ => rfl
  have m7 := PySem.W.mg_of X G aF7
  have F8 := fun_mk (st := sWhole) lF8 cF8 kF8
  have b8 := F8.binds (ps := ["_law_feed_here", "_law_sizes_here"]) fun _ _ _ _ _ _ us hl => match us, hl with | [_, _], _ => rfl
  have m8 := PySem.W.mg_of X G aF8
  have F9 := fun_mk (st := sDrawn) lF9 cF9 kF9
  have b9 := F9.binds (ps := ["_law_feed_here", "_law_sizes_here"]) fun _ _ _ _ _ _ us hl => match us, hl with | [_, _], _ => rfl
  have m9 := PySem.W.mg_of X G aF9
  have F10 := fun_mk (st := sOrder) lF10 cF10 kF10
  have b10 := F10.binds (ps := ["_law_feed_here", "_law_many"]) fun _ _ _ _ _ _ us hl => match us, hl with | [_, _], _ => rfl
  have m10 := PySem.W.mg_of X G aF10
  have F11 := fun_mk (st := sTurned) lF11 cF11 kF11
  have b11 := F11.binds (ps := ["_law_order_here", "_law_sizes_here", "_law_slabs", "_law_drawn_ones"]) fun _ _ _ _ _ _ us hl => match us, hl with | [_, _, _, _], _ => rfl
  have m11 := PySem.W.mg_of X G aF11
  have F12 := fun_mk (st := sParted) lF12 cF12 kF12
  have b12 := F12.binds (ps := ["_law_feed_here", "_law_sizes_here", "_law_slabs", "_law_drawn_ones"]) fun _ _ _ _ _ _ us hl => match us, hl with | [_, _, _, _], _ => rfl
  have m12 := PySem.W.mg_of X G aF12
  have F13 := fun_mk (st := sJoined) lF13 cF13 kF13
  have b13 := F13.binds (ps := ["_law_slabs"]) fun _ _ _ _ _ _ us hl => match us, hl with | [_], _ => rfl
  have m13 := PySem.W.mg_of X G aF13
  have F14 := fun_mk (st := sJR) lF14 cF14 kF14
  have b14 := F14.binds (ps := ["_law_sizes_here", "_law_slabs", "_law_drawn_ones"]) fun _ _ _ _ _ _ us hl => match us, hl with | [_, _, _], _ => rfl
  have m14 := PySem.W.mg_of X G aF14
  have F15 := fun_mk (st := sWider) lF15 cF15 kF15
  have b15 := F15.binds (ps := ["_law_feed_here", "_law_sizes_here", "_law_slabs", "_law_drawn_ones"]) fun _ _ _ _ _ _ us hl => match us, hl with | [_, _, _, _], _ => rfl
  have m15 := PySem.W.mg_of X G aF15
  have F16 := fun_mk (st := sTurn) lF16 cF16 kF16
  have b16 := F16.binds (ps := ["_law_feed_here"]) fun _ _ _ _ _ _ us hl => match us, hl with | [_], _ => rfl
  have m16 := PySem.W.mg_of X G aF16
  have F17 := fun_mk (st := sLaw) lF17 cF17 kF17
  have m17 := PySem.W.mg_of X G aF17
  have y_isinstance := PySem.W.mg_none_of X G z_isinstance
  have y_int := PySem.W.mg_none_of X G z_int
  have y_bool := PySem.W.mg_none_of X G z_bool
  have y_tuple := PySem.W.mg_none_of X G z_tuple
  have y_list := PySem.W.mg_none_of X G z_list
  have y_len := PySem.W.mg_none_of X G z_len
  have y_all := PySem.W.mg_none_of X G z_all
  have y_zip := PySem.W.mg_none_of X G z_zip
  have y_enumerate := PySem.W.mg_none_of X G z_enumerate
  have y_range := PySem.W.mg_none_of X G z_range
  have y_min := PySem.W.mg_none_of X G z_min
  have y_max := PySem.W.mg_none_of X G z_max
  have y_abs := PySem.W.mg_none_of X G z_abs
  refine ⟨PySem.W.fnOf "law" "law" (defArgs sLaw) (defBody sLaw) (defScope sLaw) .none kV17 dc17 pm17 an17 cd17 ct17, fun s v => .of_eq rfl, fun base _ _ => ?_⟩
  have gIsW := ok_isw (P := l.prog) (w := w) (base := base) F0 y_isinstance y_int y_bool
  have gIsS := ok_issl (P := l.prog) (w := w) (base := base) F2 y_isinstance y_tuple y_len F0 gIsW b0 m0
  have gWh := ok_wh (P := l.prog) (w := w) (base := base) F1 y_isinstance y_list F2 gIsS b2 m2
  have gOf := ok_of (P := l.prog) (w := w) (base := base) F3 y_enumerate y_all y_zip
  have gMet := ok_met (P := l.prog) (w := w) (base := base) F4 y_list y_enumerate
  have gFeed := ok_feed (P := l.prog) (w := w) (base := base) F5 y_len y_abs
  have gSizes := ok_sizes (P := l.prog) (w := w) (base := base) F7 y_range F6 b6 m6
  have gWhole := ok_whole (K := K) (P := l.prog) (w := w) (base := base) F8 y_list y_len y_min F6 b6 m6
  have gDrawn := ok_drawn (K := K) (P := l.prog) (w := w) (base := base) F9 y_tuple y_len y_range F6 b6 m6
  have gOrder := ok_order (K := K) (P := l.prog) (w := w) (base := base) F10 y_list y_range y_len F6 b6 m6
  have gTurned := ok_turned (P := l.prog) (w := w) (base := base) F11 y_tuple F3 gOf b3 m3 F4 gMet b4 m4 F1 gWh b1 m1
  have gParted := ok_parted (P := l.prog) (w := w) (base := base) F12 y_range y_len y_int F6 b6 m6 F3 gOf b3 m3 F4 gMet b4 m4 F1 gWh b1 m1
  have gJoined := ok_joined (K := K) (P := l.prog) (w := w) (base := base) F13 y_len (mg := mg)
  have gJR := ok_jr (P := l.prog) (w := w) (base := base) F14 y_len y_zip F13 gJoined b13 m13 F3 gOf b3 m3 F4 gMet b4 m4 F1 gWh b1 m1
  have gWider := ok_wider (P := l.prog) (w := w) (base := base) F15 F6 b6 m6 F3 gOf b3 m3 F4 gMet b4 m4 F1 gWh b1 m1
  have gTurn := ok_turn (P := l.prog) (w := w) (base := base) F16 y_max y_len F7 gSizes b7 m7 F8 gWhole b8 m8 F9 gDrawn b9 m9 F10 gOrder b10 m10 F11 gTurned b11 m11 F12 gParted b12 m12 F14 gJR b14 m14 F15 gWider b15 m15
  exact ok_law F17 y_range y_min y_len F5 gFeed b5 m5 F16 gTurn b16 m16

end K27
open PySem PySem.W PyProof.Rows
set_option maxRecDepth 100000 in
set_option maxHeartbeats 0 in
theorem PySem.Challenge.cw_plansamid_k27_whole_turned_parted_put_to_holds : PySem.Challenge.rw_plansamid_k27_whole_turned_parted_put_to.Holds := by
  w_on; o_law; k_head; (case hw => w_witness2)
  k_fill
  refine Gd.walkG (l := PySem.Challenge.rw_plansamid_k27_whole_turned_parted_put_to) (m := 63) (n := 6) (x := "_law_script") (sp := K27.spLaw) rfl (by decide) rfl ⟨rfl, by decide, by decide⟩ (fun w h Y => PySem.W.kIn_of Y) ?F ?S
  case S =>
    intro K H a ns h1 _ _ h4; exact ⟨a, ns, rfl, h4, h1, fun _ => rfl⟩
  case F =>
    intro w mg fa h KX G hmg
    refine' K27.all_mk KX G hmg ?aF0 ?lF0 ?cF0 ?kF0 ?aF1 ?lF1 ?cF1 ?kF1 ?aF2 ?lF2 ?cF2 ?kF2 ?aF3 ?lF3 ?cF3 ?kF3 ?aF4 ?lF4 ?cF4 ?kF4 ?aF5 ?lF5 ?cF5 ?kF5 ?aF6 ?lF6 ?cF6 ?kF6 ?aF7 ?lF7 ?cF7 ?kF7 ?aF8 ?lF8 ?cF8 ?kF8 ?aF9 ?lF9 ?cF9 ?kF9 ?aF10 ?lF10 ?cF10 ?kF10 ?aF11 ?lF11 ?cF11 ?kF11 ?aF12 ?lF12 ?cF12 ?kF12 ?aF13 ?lF13 ?cF13 ?kF13 ?aF14 ?lF14 ?cF14 ?kF14 ?aF15 ?lF15 ?cF15 ?kF15 ?aF16 ?lF16 ?cF16 ?kF16 ?aF17 ?lF17 ?cF17 ?kF17 ?z_isinstance ?z_int ?z_bool ?z_tuple ?z_list ?z_len ?z_all ?z_zip ?z_enumerate ?z_range ?z_min ?z_max ?z_abs
    (case aF0 => k_is)
    (case lF0 => k_is)
    (case cF0 => k_is)
    (case kF0 => k_is)
    (case aF1 => k_is)
    (case lF1 => k_is)
    (case cF1 => k_is)
    (case kF1 => k_is)
    (case aF2 => k_is)
    (case lF2 => k_is)
    (case cF2 => k_is)
    (case kF2 => k_is)
    (case aF3 => k_is)
    (case lF3 => k_is)
    (case cF3 => k_is)
    (case kF3 => k_is)
    (case aF4 => k_is)
    (case lF4 => k_is)
    (case cF4 => k_is)
    (case kF4 => k_is)
    (case aF5 => k_is)
    (case lF5 => k_is)
    (case cF5 => k_is)
    (case kF5 => k_is)
    (case aF6 => k_is)
    (case lF6 => k_is)
    (case cF6 => k_is)
    (case kF6 => k_is)
    (case aF7 => k_is)
    (case lF7 => k_is)
    (case cF7 => k_is)
    (case kF7 => k_is)
    (case aF8 => k_is)
    (case lF8 => k_is)
    (case cF8 => k_is)
    (case kF8 => k_is)
    (case aF9 => k_is)
    (case lF9 => k_is)
    (case cF9 => k_is)
    (case kF9 => k_is)
    (case aF10 => k_is)
    (case lF10 => k_is)
    (case cF10 => k_is)
    (case kF10 => k_is)
    (case aF11 => k_is)
    (case lF11 => k_is)
    (case cF11 => k_is)
    (case kF11 => k_is)
    (case aF12 => k_is)
    (case lF12 => k_is)
    (case cF12 => k_is)
    (case kF12 => k_is)
    (case aF13 => k_is)
    (case lF13 => k_is)
    (case cF13 => k_is)
    (case kF13 => k_is)
    (case aF14 => k_is)
    (case lF14 => k_is)
    (case cF14 => k_is)
    (case kF14 => k_is)
    (case aF15 => k_is)
    (case lF15 => k_is)
    (case cF15 => k_is)
    (case kF15 => k_is)
    (case aF16 => k_is)
    (case lF16 => k_is)
    (case cF16 => k_is)
    (case kF16 => k_is)
    (case aF17 => k_is)
    (case lF17 => k_is)
    (case cF17 => k_is)
    (case kF17 => k_is)
    (case z_isinstance => k_is)
    (case z_int => k_is)
    (case z_bool => k_is)
    (case z_tuple => k_is)
    (case z_list => k_is)
    (case z_len => k_is)
    (case z_all => k_is)
    (case z_zip => k_is)
    (case z_enumerate => k_is)
    (case z_range => k_is)
    (case z_min => k_is)
    (case z_max => k_is)
    (case z_abs => k_is)
end
