import PyProof.Rows.All
import Wide.All
import OpenK.AllK
import Wide.FinOn
import HandS.ForMost
import HandS.ForExc
import HandS.EndBits
import HandS.IsInst
import PyProof.ReprRoads
import PyProof.ReprLen
import HandS.TupAny
import PyProof.Rows.IntBool
import KE.KRevSl
import PyProof.FitsInt
import PyProof.NeKinds
import HandS.Conv
import HandS.Text
import HandS.Zip
import KE.GoesZip
import KE.GoesMore
import HandS.Walk
import KE.GoesEnum
import PyProof.EnumFor
import HandS.TupLe
import KE.SortData
import PyProof.TableTree
import PyProof.FactsTree
import PyProof.PlainAttrs
import PyProof.CallType
import PyProof.TupleOfSeq
import HandS.Codes
import PySem.Challenge.RW_plansamid_k18_plans_told

section
set_option Elab.async false
set_option linter.all false
set_option maxRecDepth 100000
set_option maxHeartbeats 4000000
/-! A def's promise where no text of a container is being put together around it (so that repr is served). -/
namespace Gd
open PySem PySem.Spec PyProof.Rows L2

/-- no container is amid its own text -/
def Free (A : Around) : Prop := A.guards = some []

structure FnG (P : Program) (w : World) (K : PySem.W.Frag) (mg : Str → Option Value)
    (base : Heap) (cx : CXT) (n : Nat) (f : Addr) (fd : FuncData) (ps : List Str) (sp : Sp) : Prop where
  len : ∀ vs H Q E, sp vs H Q E → vs.length = ps.length
  run : ∀ (A : Around) (out : List Env) (s : Shared) (H : Hp) (args : Args) (us : List Value)
      (vs : List V) (Q : VK) (E : XK), Free A → Room n A → Env0 P w K mg base A out s H →
      BindsTo s fd args (ps.zip us) → Vals vs us → sp vs H Q E →
      codeAny (model P w) A (.call (.ref f) args) (CR cx out P w H s Q E) s

section
variable {P : Program} {w : World} {K : PySem.W.Frag} {mg : Str → Option Value} {base : Heap} {cx : CXT}
theorem FnG.ofOk {n : Nat} {f : Addr} {fd : FuncData} {ps : List Str} {sp : Sp}
    (F : FnOk P w K mg base cx n f fd ps sp) : FnG P w K mg base cx n f fd ps sp :=
  ⟨F.len, fun A out s H args us vs Q E _ => F.run A out s H args us vs Q E⟩
theorem FnG.mono {m n : Nat} {f : Addr} {fd : FuncData} {ps : List Str} {sp : Sp}
    (F : FnG P w K mg base cx m f fd ps sp) (h : m ≤ n) : FnG P w K mg base cx n f fd ps sp :=
  ⟨F.len, fun A out s H args us vs Q E g r => F.run A out s H args us vs Q E g (r.mono h)⟩
end

section
variable {X : Cx} {cx : CXT} {n : Nat} {f : Addr} {fd : FuncData} {ps : List Str} {sp : Sp}
  {dvs : List V} {ds : List Value} {E : XK} {x : Str} {p pos : Pos} {e : Expr} {es : List Expr} {t : TA}

theorem run_g {pins : List (Addr × Obj)} {σ : L2.St} {H : Hp} {s : Shared} {Q : VK} {us : List Value} {vs : List V}
    (F : FnG X.prog X.w X.K X.mg X.base cx n f fd ps sp) (g : Free X.A) (hr : Room n X.A)
    (hb : Binds X.K fd ps ds) (hd : Vals dvs ds) (hx : Passes cx X E)
    (I : Inv X pins σ H s) (r : Vals vs us) (h : sp (vs ++ dvs) H Q E) :
    wpAny (model X.prog X.w) X.A (call (.ref f) us) (EP X pins σ Q) X.xe s := by
  have rr : Vals (vs ++ dvs) (us ++ ds) := r.append hd
  have hl : (us ++ ds).length = ps.length := (Paired.length rr).symm.trans (F.len _ _ _ _ h)
  have all := F.run X.A X.stack s H ⟨us, []⟩ (us ++ ds) (vs ++ dvs) Q E g hr I.env0 (hb s us I.kIn hl) rr h
  refine wpAny_call (codeAny_mono all ?_)
  intro o s' z
  cases o with
  | error er => exact hx pins σ H s er s' I z
  | ok fl =>
    cases fl with
    | ret u => exact I.after z
    | _ => exact False.elim z

theorem pe_callG (F : FnG X.prog X.w X.K X.mg X.base cx n f fd ps sp) (g : Free X.A) (hr : Room n X.A)
    (hg : Gl X x) (hm : X.mg x = some (.ref f)) (hk : PySem.W.keepIn X.K (.ref f) = true)
    (hb : Binds X.K fd ps ds) (hd : Vals dvs ds) (hx : Passes cx X E) (ha : PA X (e :: es) t)
    (hdb : (x == ("__debug__" : Str)) = false := by decide)
    (he : starEach (e :: es) X.env = (false, eval e X.env) :: starEach es X.env := by rfl)
    (hpl : (backTo pos (starEach es X.env)).any (·.1) = false := by rfl) :
    PE X (.Call (.Name x p) (e :: es) [] pos) (tCall sp dvs E t) := by
  constructor
  intro pins s σ H Q I h
  refine wpAny_Call_Name_kw (ld_glob I hg hm ?_ hdb)
  have args := ha.run pos pins s σ H _ I h
  refine PySem.W.callWith_K (h₀ := X.base) I.ok.mod.kin hk (thn args ?_) he hpl
  rintro us s1 ⟨vs, H1, J, r, q⟩
  exact ⟨J.kIn, run_g F g hr hb hd hx J r q⟩
end

/-! ### by the body -/
section
variable {P : Program} {w : World} {K : PySem.W.Frag} {mg : Str → Option Value} {base : Heap}
theorem FnG.body {cx : CXT} {n : Nat} {f : Addr} {nm ql : Str} {pr : Arguments} {bd : List Stmt} {sc : Scope}
    {dV kV dc pm cv ct oc : Value} {an od : Option Addr} {sl : Array (Option Value)} {N ps : List Str} {sp : Sp}
    (lk : K.lookup f = some ⟨oc, od, .func (PySem.W.fnOf nm ql pr bd sc dV kV dc pm an cv ct), sl⟩)
    (hc : PySem.W.codeIn K cv ql = true) (S : FnScope N ps sc) (len : ∀ vs H Q E, sp vs H Q E → vs.length = ps.length)
    (hb : ∀ (A : Around) (out : List Env) (s : Shared) (H : Hp) (vs : List V) (Q : VK) (E : XK),
      Free (A.deeper (envOfC ql sc s.heap.objs.size f cv)) → Room n (A.deeper (envOfC ql sc s.heap.objs.size f cv)) →
      sp vs H Q E → ∃ t, PSs (cxOf cx P w K mg base N ql sc f cv A out s H E) bd t ∧
        t { nx := fun _ H' => Q .non H', rt := Q } (start N vs) H) :
    FnG P w K mg base cx (n + 1) f (PySem.W.fnOf nm ql pr bd sc dV kV dc pm an cv ct) ps sp := by
  refine ⟨len, ?_⟩
  intro A out s H args us vs Q E g hr e0 hbd r hsp
  have hl := len _ _ _ _ hsp
  have KX : K.In s.heap := e0.mod.kin.keeps fun b o e => (e0.bs b o e).1
  have lim : s.heap.NoLimit := e0.mod.nolimit.keeps fun b o e => (e0.bs b o e).1
  have kinds : ∀ y ∈ ps.zip us, sc.names.lookup y.1 = some .local ∨
      (sc.names.lookup y.1 = some .cell ∧
        ((cellsFrom (s.heap.objs.size + 1) sc.names []).lookup y.1).isSome = true) := by
    rintro ⟨y, v⟩ hy
    rcases S.par y (List.of_mem_zip hy).1 with q | q
    · left; exact q
    · right; exact ⟨q, PySem.W.cellsFrom_some _ _ _ (.inl q)⟩
  have code := PySem.W.codeRec_of KX hc
  refine codeAny_call_function hr.depth (KX _ _ lk) rfl S.co S.gen rfl code (hbd _ _ _ _ ?_)
  refine wpAny_newFunctionEnv_cells S.kind kinds ?_
  intro env he s1 x
  subst he
  refine ⟨lim.keeps x.toInCall.keep, codeAny_func ?_⟩
  obtain ⟨t, ht, hq⟩ := hb A out s H vs Q E g (hr.deeper _) hsp
  have I := inv_start (CX := cx) (P := P) (w := w) (E := E) S hr.hd e0 hl r x
  refine wpAny_mono (ht.run [] s1 (start N vs) H _ I hq) ?_ fun er s' z => z
  intro fl s' z
  cases fl with
  | ret u =>
    obtain ⟨v, σ', H', J, rv, q⟩ := z
    exact ⟨v, H', J.os, J.bare, J.base, J.hok, rv, q⟩
  | next =>
    obtain ⟨σ', H', J, q⟩ := z
    exact ⟨V.non, H', J.os, J.bare, J.base, J.hok, rfl, q⟩
  | brk =>
    obtain ⟨_, _, _, q⟩ := z
    exact q.elim
  | cont =>
    obtain ⟨_, _, _, q⟩ := z
    exact q.elim

theorem okG {x ql : Str} {st : Stmt} {f : Addr} {fd : FuncData} {N ps : List Str} {n : Nat} {sp : Sp}
    (F : Fun K x ql st f fd) (S : FnScope N ps (defScope st)) (len : ∀ vs H Q E, sp vs H Q E → vs.length = ps.length)
    (hb : ∀ (cv : Value) (A : Around) (out : List Env) (s : Shared) (H : Hp) (vs : List V) (Q : VK) (E : XK),
      Free (A.deeper (envOfC ql (defScope st) s.heap.objs.size f cv)) →
      Room n (A.deeper (envOfC ql (defScope st) s.heap.objs.size f cv)) → sp vs H Q E →
      ∃ t, PSs (cxOf CX0 P w K mg base N ql (defScope st) f cv A out s H E).nox (defBody st) t ∧
        t { nx := fun _ H' => Q .non H', rt := Q } (start N vs) H) :
    FnG P w K mg base CX0 (n + 1) f fd ps sp := by
  obtain ⟨oc, od, kV, dc, pm, an, cv, ct, sl, rfl, lk, hc⟩ := F.ex
  refine FnG.body lk hc S len ?_
  intro A out s H vs Q E g hr hsp
  obtain ⟨t, h, q⟩ := hb cv A out s H vs Q E g hr hsp
  exact ⟨t, h.nox, q⟩
end
end Gd
end

section
set_option Elab.async false
set_option linter.all false
set_option maxRecDepth 100000
set_option maxHeartbeats 4000000
/-! The end of a law's row from a promise of Gd.FnG. -/
namespace Gd
open PySem PySem.Spec PyProof.Rows L2

/-- what is wanted of the law's own call -/
def Yes (s1 : Shared) (r : Result) (s' : Shared) : Prop :=
  r = .ok (.ret (.bool true)) ∧ OldK s1.heap s'.heap ∧ s'.os = s1.os ∧ AllBare s'.gens

section
variable {P : Program} {w : World} {K : PySem.W.Frag} {mg mb : Str → Option Value} {cx : CXT} {n : Nat}
  {fa a : Addr} {fd : FuncData} {x : Str} {sp : Sp} {s1 : Shared} {vs : List Value} {ns : List Int}

theorem begun (H : Hp) (only : Only H) (hS : SqL K H a (ns.map V.int)) (hok : HOk P w H s1.heap)
    (at_a : ∀ b, H b ≠ none → b = a) (noK : H a ≠ none → K.lookup a = none)
    (KX : K.In s1.heap) (hns : s1.heap.Ns mainGlobals mg) (hb : s1.heap.Ns builtinsNs mb)
    (hbb : ∀ y : Str, y ≠ "__name__" → mb y = bootBuiltins y) (hlim : s1.heap.NoLimit) (hg : s1.gens = #[])
    (ha : s1.heap.get? a = some { cls := .type "list", data := .seq vs.toArray }) (hr : Room n callerA)
    (F : ∀ base : Heap, K.In base → base.Ns mainGlobals mg → FnG P w K mg base cx n fa fd [x] sp)
    (hbind : ∀ (s : Shared) (u : Value), BindsTo s fd ⟨[u], []⟩ [(x, u)])
    (hsp : sp [.ref a] H (fun v _ => v = .bl true) fun _ _ _ => False)
    (hCX : ∀ e s', cx [] H s1 (fun _ _ _ => False) e s' → False) :
    codeAny (model P w) callerA (.call (.ref fa) ⟨[.ref a], []⟩) (Yes s1) s1 := by
  -- the base: what isn't tracked
  let B := hidT s1.heap H
  have toB : ∀ {b : Addr} {o : Obj}, s1.heap.get? b = some o → H b = none → B.get? b = some o :=
    fun e z => hidT_get e z
  have notDict : ∀ {b : Addr} {o : Obj} {es : Array DictEntry} {m : Nat},
      s1.heap.get? b = some o → o.data = .dict es m → H b = none := by
    intro b o es m e d
    cases q : H b with
    | none => rfl
    | some u =>
      exfalso
      have eb : b = a := at_a b (by simp [q])
      rw [eb, ha] at e
      cases Option.some.inj e
      cases d
  have nsB : ∀ {b : Addr} {m : Str → Option Value}, s1.heap.Ns b m → B.Ns b m := by
    rintro b m ⟨o, es, ep, e, d, r⟩
    exact ⟨o, es, ep, toB e (notDict e d), d, r⟩
  have inB : K.In B := by
    intro b o e
    refine toB (KX b o e) ?_
    cases q : H b with
    | none => rfl
    | some u =>
      have eb : b = a := at_a b (by simp [q])
      have z := noK (by rw [← eb, q]; simp)
      rw [eb, z] at e
      cases e
  have modB : Mod K mg B := by
    obtain ⟨mc, l1, l2⟩ := hlim
    exact ⟨inB, nsB hns, ⟨mb, nsB hb, hbb⟩, ⟨mc, nsB l1, l2⟩⟩
  have nil : ∀ {b : Addr}, b ∉ ([] : List Addr) := fun z => nomatch z
  have e0 : Env0 P w K mg B callerA [] s1 H :=
    ⟨rfl, modB, fun b o e => of_hidT e, Nat.le_of_eq (hidT_size _ _), trivial, fun b z => (nil z).elim, hok, .of_eq hg⟩
  have got := (F B inB (nsB hns)).run callerA [] s1 H ⟨[.ref a], []⟩ [.ref a] [.ref a] _ _ rfl hr e0
    (hbind s1 (.ref a)) (.cons rfl .nil) hsp
  refine codeAny_mono got ?_
  intro r s' z
  cases r with
  | error er => exact (hCX er s' z).elim
  | ok fl =>
    cases fl with
    | ret u =>
      obtain ⟨v, H', os, bare, un, hok', rv, q⟩ := z
      obtain rfl : v = .bl true := q
      obtain rfl : u = Value.bool true := rv
      refine ⟨rfl, OldK.of_keep ?_, os, bare⟩
      intro b o e
      cases q : H b with
      | none => exact un.keep b o e q (fun z => (nil z).elim) (fun z => (nil z).elim)
      | some u =>
        rcases only b with z | ⟨ob, xs, z⟩
        · exact nomatch q.symm.trans z
        · obtain ⟨g1, _⟩ := hok b _ z
          obtain ⟨g2, _⟩ := hok' b _ (un.frzs b ob _ z)
          exact g2.trans (g1.symm.trans e)
    | _ => exact False.elim z

theorem law_callG (KX : K.In s1.heap) (hns : s1.heap.Ns mainGlobals mg) (hb : s1.heap.Ns builtinsNs mb)
    (hbb : ∀ y : Str, y ≠ "__name__" → mb y = bootBuiltins y) (hlim : s1.heap.NoLimit) (hg : s1.gens = #[])
    (ha : s1.heap.get? a = some { cls := .type "list", data := .seq vs.toArray }) (hi : IntsAre vs ns)
    (hl : ns.length ≤ sizeLine) (hr : Room n callerA)
    (F : ∀ base : Heap, K.In base → base.Ns mainGlobals mg → FnG P w K mg base cx n fa fd [x] sp)
    (hbind : ∀ (s : Shared) (u : Value), BindsTo s fd ⟨[u], []⟩ [(x, u)])
    (hsp : ∀ H : Hp, Only H → SqL K H a (ns.map V.int) → sp [.ref a] H (fun v _ => v = .bl true) fun _ _ _ => False)
    (hCX : ∀ H e s', cx [] H s1 (fun _ _ _ => False) e s' → False) :
    codeAny (model P w) callerA (.call (.ref fa) ⟨[.ref a], []⟩) (Yes s1) s1 := by
  have rv := vals_ints hi
  have hz : vs.toArray.size ≤ sizeLine := by
    rw [List.size_toArray, hi.length]
    exact hl
  cases hk : K.lookup a with
  | some o =>
    have e : some o = some _ := (KX a o hk).symm.trans ha
    cases e
    have here : SqL K (fun _ => none) a (ns.map V.int) := .inr ⟨_, vs.toArray, _, hk, rfl, rfl, rfl, hz, by simpa using rv⟩
    have only : Only (fun _ => none) := fun _ => .inl rfl
    exact begun (fun _ => none) only here (fun b u z => nomatch z) (fun b z => absurd rfl z) (fun z => absurd rfl z)
      KX hns hb hbb hlim hg ha hr F hbind (hsp _ only here) (hCX _)
  | none =>
    let H : Hp := fun b => if b = a then some (.frz { cls := .type "list", data := .seq vs.toArray } (.lst (ns.map V.int))) else none
    have Ha : H a = some (.frz { cls := .type "list", data := .seq vs.toArray } (.lst (ns.map V.int))) := if_pos rfl
    have Hn : ∀ {b : Addr}, b ≠ a → H b = none := fun z => if_neg z
    have only : Only H := by
      intro b
      by_cases eb : b = a
      · right
        subst eb
        exact ⟨_, _, Ha⟩
      · left
        exact Hn eb
    have here : SqL K H a (ns.map V.int) := .inl (.inr ⟨_, Ha⟩)
    refine begun H only here ?_ ?_ (fun _ => hk) KX hns hb hbb hlim hg ha hr F hbind (hsp _ only here) (hCX _)
    · intro b u z
      by_cases eb : b = a
      · subst eb
        rw [Ha] at z
        cases z
        exact ⟨ha, by rw [List.length_map]; exact hl, vs, _, rv, ha⟩
      · rw [Hn eb] at z
        cases z
    · intro b z
      by_cases eb : b = a
      · exact eb
      · exact absurd (Hn eb) z
end

theorem walkG {l : PySem.W.OpenLaw} {m n : Nat} {q : Program} {loose : List Str} {XP : (Str → Option Value) → Heap → Prop}
    {YP : World → Heap → Prop} {d : DefRec} {K : Params → PySem.W.Frag} {sp : PySem.W.Frag → Sp} {x : Str}
    (hn : l.most = some m) (hm : m ≤ sizeLine) (hdf : d.params.defaults = []) (hr : Room n callerA)
    (hY : ∀ (w : World) (h : Heap), YP w h → (K w.params).In h)
    (F : ∀ (w : World) (mg : Str → Option Value) (fa : Addr) (h : Heap), (K w.params).In h → h.Ns mainGlobals mg →
      mg d.name = some (.ref fa) → ∃ fd : FuncData, (∀ (s : Shared) (u : Value), BindsTo s fd ⟨[u], []⟩ [(x, u)]) ∧
        ∀ base : Heap, (K w.params).In base → base.Ns mainGlobals mg →
          FnG l.prog w (K w.params) mg base CX0 n fa fd [x] (sp (K w.params)))
    (hsp : ∀ (K : PySem.W.Frag) (H : Hp) (a : Addr) (ns : List Int), ns.length ≤ m →
      (∀ z ∈ ns, Builtin.Int.intBits z ≤ 1048576) → Only H → SqL K H a (ns.map V.int) →
      sp K [.ref a] H (fun v _ => v = .bl true) fun _ _ _ => False) :
    PySem.W.WalkO q loose XP YP l.row.toRowW d [] (fun f vs => PySem.call f vs) := by
  refine Att.attach_callB hn hdf ?_
  intro w s0 s1 mg mb fa o pm cd dc a vs ns G Y ho hd hcd hmg hobj hints hlen hbits hg
  have KX := hY w _ Y
  obtain ⟨fd, hb, hF⟩ := F w mg fa _ KX G.T.g hmg
  exact law_callG KX G.T.g G.T.b G.T.builtins G.T.nolimit hg hobj hints (Nat.le_trans hlen hm) hr hF hb
    (fun H only hS => hsp _ H a ns hlen hbits only hS) fun H e s' z => z.elim
end Gd
end

section
set_option Elab.async false
set_option linter.all false
set_option maxRecDepth 100000
set_option maxHeartbeats 4000000
/-! What the laws draw from: a list of three numbers, of which each draw takes one more. -/
namespace Gd
open PySem PySem.Spec PyProof.Rows L2

/-- at p: what is left of a great number, the seed, how many were drawn, at most S -/
def Feed (H : Hp) (p : Addr) (S : Int) : Prop := ∃ g x s : Int, H p = some (.lst [.int g, .int x, .int s]) ∧ 0 ≤ s ∧ s ≤ S
theorem Feed.le {H : Hp} {p : Addr} {S T : Int} (h : Feed H p S) (l : S ≤ T) : Feed H p T := by
  obtain ⟨g, x, s, e, a, b⟩ := h
  exact ⟨g, x, s, e, a, by omega⟩
theorem Feed.here {H : Hp} {p : Addr} {S g x s : Int} (h0 : 0 ≤ s) (h : s ≤ S) : Feed (upd H p (.lst [.int g, .int x, .int s])) p S :=
  ⟨g, x, s, upd_same, h0, h⟩
theorem Feed.stays {H : Hp} {p q : Addr} {S : Int} {o : HO} (h : Feed H p S) (n : H q = none) : Feed (upd H q o) p S := by
  obtain ⟨g, x, s, e, a, b⟩ := h
  refine ⟨g, x, s, ?_, a, b⟩
  rw [upd_ne (ne_of_none e n)]
  exact e
/-- all is as it was, but at p -/
def Ex1 (p : Addr) (H H' : Hp) : Prop := ∀ a o, a ≠ p → H a = some o → H' a = some o
theorem Ex1.refl (p : Addr) (H : Hp) : Ex1 p H H := fun _ _ _ h => h
theorem Ex1.trans {p : Addr} {H H1 H2 : Hp} (a : Ex1 p H H1) (b : Ex1 p H1 H2) : Ex1 p H H2 := fun x o n h => b x o n (a x o n h)
theorem Ex1.at {p : Addr} {H : Hp} {o : HO} : Ex1 p H (upd H p o) := fun a u n e => by
  rw [upd_ne n]
  exact e
theorem Ex1.new {p q : Addr} {H : Hp} {o : HO} (n : H q = none) : Ex1 p H (upd H q o) := fun a u _ e => by
  rw [upd_ne (ne_of_none e n)]
  exact e

theorem Feed.lst {H : Hp} {p : Addr} {S : Int} (h : Feed H p S) : ∃ xs, H p = some (.lst xs) := by
  obtain ⟨g, x, s, e, _⟩ := h
  exact ⟨_, e⟩
theorem Feed.ne {H : Hp} {p q : Addr} {S : Int} (h : Feed H p S) (n : H q = none) : q ≠ p := fun z => by
  obtain ⟨xs, e⟩ := h.lst
  rw [z, e] at n
  cases n
def spTake : Sp := fun vs H Q _ => ∃ (p : Addr) (m S : Int), vs = [.ref p, .int m] ∧ Feed H p S ∧ 0 < m ∧ m < 1073741824 ∧
  S ≤ 1000000000 ∧ ∀ (r : Int) (H' : Hp), 0 ≤ r → r < m → Feed H' p (S + 1) → Ex1 p H H' → Q (.int r) H'

theorem fmod_in (a : Int) {b : Int} (h : 0 < b) : 0 ≤ a.fmod b ∧ a.fmod b < b :=
  ⟨Int.fmod_nonneg_of_pos a h, Int.fmod_lt_of_pos a h⟩
end Gd
end

section
set_option Elab.async false
set_option linter.all false
set_option maxRecDepth 100000
set_option maxHeartbeats 4000000
/-! Data: numbers, texts, truths, None, tuples of such. -/
namespace Gd
open PySem PySem.Spec PyProof.Rows L2

mutual
def tupOnly : PyData → Bool
  | .none => true
  | .bool _ => true
  | .int _ => true
  | .str _ => true
  | .tuple ds => decide (ds.length ≤ 1000) && tupOnlyAll ds
  | .list _ => false
  | .dict _ => false
def tupOnlyAll : List PyData → Bool
  | [] => true
  | d :: ds => tupOnly d && tupOnlyAll ds
end

/-- tuples stay -/
def Tups (K : PySem.W.Frag) (H H' : Hp) : Prop := ∀ a xs, SqT K H a xs → SqT K H' a xs
theorem Tups.refl {K : PySem.W.Frag} {H : Hp} : Tups K H H := fun _ _ h => h
theorem Tups.trans {K : PySem.W.Frag} {H H1 H2 : Hp} (a : Tups K H H1) (b : Tups K H1 H2) : Tups K H H2 := fun x y h => b x y (a x y h)
theorem Tups.upd_lst {K : PySem.W.Frag} {H : Hp} {D : Addr} {xs ys : List V} (e : H D = some (.lst xs)) : Tups K H (upd H D (.lst ys)) := by
  intro a zs h
  rcases h with (h | ⟨o, h⟩) | h
  · refine .inl (.inl ?_)
    rw [upd_ne (fun z => by rw [z, e] at h; cases h)]
    exact h
  · refine .inl (.inr ⟨o, ?_⟩)
    rw [upd_ne (fun z => by rw [z, e] at h; cases h)]
    exact h
  · exact .inr h
theorem Tups.of_same {K : PySem.W.Frag} {H H' : Hp} (s : Same H H') : Tups K H H' := by
  intro a zs h
  rcases h with (h | ⟨o, h⟩) | h
  · exact .inl (.inl (s _ _ h))
  · exact .inl (.inr ⟨o, s _ _ h⟩)
  · exact .inr h

theorem Tups.new {K : PySem.W.Frag} {H : Hp} {q : Addr} {o : HO} (n : H q = none) : Tups K H (upd H q o) :=
  .of_same fun b u e => by
    rw [upd_ne (ne_of_none e n)]
    exact e
theorem Ex1.tups {K : PySem.W.Frag} {H H' : Hp} {p : Addr} {xs : List V} (x : Ex1 p H H') (e : H p = some (.lst xs)) : Tups K H H' := by
  intro a zs h
  rcases h with (h | ⟨o, h⟩) | h
  · exact .inl (.inl (x _ _ (fun z => by rw [z, e] at h; cases h) h))
  · exact .inl (.inr ⟨o, x _ _ (fun z => by rw [z, e] at h; cases h) h⟩)
  · exact .inr h
section
variable {K : PySem.W.Frag} {H H' : Hp}
mutual
theorem Dp.tups (t : Tups K H H') : ∀ (d : PyData) {v : V}, tupOnly d = true → Dp K H v d → Dp K H' v d
  | .none, _, _, h => by cases h; exact .non
  | .bool _, _, _, h => by cases h; exact .bl _
  | .int _, _, _, h => by cases h; exact .int _
  | .str _, _, _, h => by cases h; exact .str _
  | .tuple ds, _, o, h => by
    cases h with
    | tup a b =>
      simp only [tupOnly, Bool.and_eq_true] at o
      exact .tup (t _ _ a) (DpAll.tups t ds o.2 b)
  | .list _, _, o, _ => by simp [tupOnly] at o
  | .dict _, _, _, h => by cases h
theorem DpAll.tups (t : Tups K H H') : ∀ (ds : List PyData) {vs : List V}, tupOnlyAll ds = true → DpAll K H vs ds → DpAll K H' vs ds
  | [], _, _, h => by cases h; exact .nil
  | d :: ds, _, o, h => by
    simp only [tupOnlyAll, Bool.and_eq_true] at o
    cases h with
    | cons a b => exact .cons (Dp.tups t d o.1 a) (DpAll.tups t ds o.2 b)
end
mutual
theorem Dp.same (s : Same H H') : ∀ (d : PyData) {v : V}, Dp K H v d → Dp K H' v d
  | .none, _, h => by cases h; exact .non
  | .bool _, _, h => by cases h; exact .bl _
  | .int _, _, h => by cases h; exact .int _
  | .str _, _, h => by cases h; exact .str _
  | .tuple ds, _, h => by
    cases h with
    | tup a b => exact .tup (Tups.of_same s _ _ a) (DpAll.same s ds b)
  | .list ds, _, h => by
    cases h with
    | lst a b => exact .lst (s.seq a) (DpAll.same s ds b)
  | .dict _, _, h => by cases h
theorem DpAll.same (s : Same H H') : ∀ (ds : List PyData) {vs : List V}, DpAll K H vs ds → DpAll K H' vs ds
  | [], _, h => by cases h; exact .nil
  | d :: ds, _, h => by
    cases h with
    | cons a b => exact .cons (Dp.same s d a) (DpAll.same s ds b)
end
theorem DpAll.len : ∀ {vs : List V} {ds : List PyData}, DpAll K H vs ds → vs.length = ds.length
  | _, _, .nil => rfl
  | _, _, .cons _ b => congrArg (· + 1) (DpAll.len b)
theorem DpAll.at_ : ∀ {vs : List V} {ds : List PyData} {i : Nat} {v : V}, DpAll K H vs ds → vs[i]? = some v → ∃ d, ds[i]? = some d ∧ Dp K H v d
  | _, _, _, _, .nil, e => by simp at e
  | _, _, 0, _, .cons a _, e => by
    cases Option.some.inj e
    exact ⟨_, rfl, a⟩
  | _, _, i + 1, _, .cons _ b, e => DpAll.at_ (i := i) b e
theorem DpAll.snoc : ∀ {vs : List V} {ds : List PyData} {v : V} {d : PyData}, DpAll K H vs ds → Dp K H v d → DpAll K H (vs ++ [v]) (ds ++ [d])
  | _, _, _, _, .nil, h => .cons h .nil
  | _, _, _, _, .cons a b, h => .cons a (DpAll.snoc b h)
theorem tupOnlyAll_at : ∀ {ds : List PyData} {i : Nat} {d : PyData}, tupOnlyAll ds = true → ds[i]? = some d → tupOnly d = true
  | [], _, _, _, e => by simp at e
  | x :: r, 0, d, o, e => by
    simp only [tupOnlyAll, Bool.and_eq_true] at o
    cases Option.some.inj e
    exact o.1
  | x :: r, i + 1, d, o, e => by
    simp only [tupOnlyAll, Bool.and_eq_true] at o
    exact tupOnlyAll_at (i := i) o.2 e
theorem tupOnlyAll_take : ∀ {ds : List PyData}, tupOnlyAll ds = true → ∀ i : Nat, tupOnlyAll (ds.take i) = true
  | [], _, i => by rw [List.take_nil] <;> rfl
  | x :: r, o, 0 => rfl
  | x :: r, o, i + 1 => by
    simp only [tupOnlyAll, Bool.and_eq_true] at o
    simp only [List.take_succ_cons, tupOnlyAll, Bool.and_eq_true]
    exact ⟨o.1, tupOnlyAll_take o.2 i⟩
theorem depth_at : ∀ {ds : List PyData} {i : Nat} {d : PyData}, ds[i]? = some d → d.depth ≤ PyData.depthAll ds
  | [], _, _, e => by simp at e
  | x :: r, 0, d, e => by
    cases Option.some.inj e
    simp only [PyData.depthAll]
    omega
  | x :: r, i + 1, d, e => by
    have h := depth_at (ds := r) (i := i) e
    simp only [PyData.depthAll]
    omega
end

/-- the built-in class of data -/
def kindN : PyData → String
  | .none => "NoneType"
  | .bool _ => "bool"
  | .int _ => "int"
  | .str _ => "str"
  | .list _ => "list"
  | .tuple _ => "tuple"
  | .dict _ => "dict"
theorem Dp.kind {K : PySem.W.Frag} {H : Hp} {v : V} {d : PyData} (h : Dp K H v d) (o : tupOnly d = true) : TyX K H v (.type (kindN d)) := by
  cases h with
  | non => exact .base .non
  | bl b => exact .base (.bl b)
  | int i => exact .base (.int i)
  | str x => exact .base (.str x)
  | lst _ _ => simp [tupOnly] at o
  | tup a _ =>
    rcases a with (a | ⟨z, a⟩) | ⟨z, its, n, a, c, _⟩
    · exact .base (.tup a)
    · exact .fTuple a
    · exact .kTuple a c
section
theorem kb0 : kitB "NoneType" "list" = some false ∧ kitB "NoneType" "tuple" = some false ∧ kitB "NoneType" "dict" = some false := by decide +kernel
theorem kb1 : kitB "bool" "list" = some false ∧ kitB "bool" "tuple" = some false ∧ kitB "bool" "dict" = some false := by decide +kernel
theorem kb2 : kitB "int" "list" = some false ∧ kitB "int" "tuple" = some false ∧ kitB "int" "dict" = some false := by decide +kernel
theorem kb3 : kitB "str" "list" = some false ∧ kitB "str" "tuple" = some false ∧ kitB "str" "dict" = some false := by decide +kernel
theorem kb4 : kitB "tuple" "list" = some false ∧ kitB "tuple" "tuple" = some true ∧ kitB "tuple" "dict" = some false := by decide +kernel
theorem kind_list {d : PyData} (o : tupOnly d = true) : kitB (kindN d) "list" = some false := by
  cases d with
  | none => exact kb0.1
  | bool b => exact kb1.1
  | int i => exact kb2.1
  | str x => exact kb3.1
  | tuple ds => exact kb4.1
  | list ds => simp [tupOnly] at o
  | dict ds => simp [tupOnly] at o
theorem kind_dict {d : PyData} (o : tupOnly d = true) : kitB (kindN d) "dict" = some false := by
  cases d with
  | none => exact kb0.2.2
  | bool b => exact kb1.2.2
  | int i => exact kb2.2.2
  | str x => exact kb3.2.2
  | tuple ds => exact kb4.2.2
  | list ds => simp [tupOnly] at o
  | dict ds => simp [tupOnly] at o
theorem kind_tuple {d : PyData} (o : tupOnly d = true) (n : ¬ ∃ ds, d = .tuple ds) : kitB (kindN d) "tuple" = some false := by
  cases d with
  | none => exact kb0.2.1
  | bool b => exact kb1.2.1
  | int i => exact kb2.2.1
  | str x => exact kb3.2.1
  | tuple ds => exact absurd ⟨ds, rfl⟩ n
  | list ds => simp [tupOnly] at o
  | dict ds => simp [tupOnly] at o
end
end Gd
end

section
set_option Elab.async false
set_option linter.all false
set_option maxRecDepth 100000
set_option maxHeartbeats 4000000
/-! repr of data, the reading of a promise that is free of texts under way. -/
namespace Gd
open PySem PySem.Spec PyProof.Rows L2

section
variable {K : PySem.W.Frag} {H : Hp}
mutual
theorem Dp.plain : ∀ (d : PyData) {v : V}, Dp K H v d → d.hasDict = false
  | .none, _, _ => by simp only [PyData.hasDict]
  | .bool _, _, _ => by simp only [PyData.hasDict]
  | .int _, _, _ => by simp only [PyData.hasDict]
  | .str _, _, _ => by simp only [PyData.hasDict]
  | .list ds, _, h => by
    cases h with
    | lst _ k =>
      simp only [PyData.hasDict]
      exact DpAll.plain ds k
  | .tuple ds, _, h => by
    cases h with
    | tup _ k =>
      simp only [PyData.hasDict]
      exact DpAll.plain ds k
  | .dict _, _, h => by cases h
theorem DpAll.plain : ∀ (ds : List PyData) {vs : List V}, DpAll K H vs ds → PyData.hasDictAll ds = false
  | [], _, _ => by simp only [PyData.hasDictAll]
  | d :: ds, _, h => by
    cases h with
    | cons a b =>
      simp only [PyData.hasDictAll, Dp.plain d a, DpAll.plain ds b, Bool.or_self]
end
end

/-- repr(x), x data -/
def rRepr (K : PySem.W.Frag) : List V → Hp → VK → Prop := fun xs H Q =>
  ∃ (x : V) (d : PyData), xs = [x] ∧ Dp K H x d ∧ d.showable = true ∧ d.shown.length ≤ sizeLine ∧ d.depth ≤ 60 ∧ Q (.str d.shown) H

section
variable {X : Cx}
theorem call_repr (g : Free X.A) (hu : X.A.units + 64 < cLine) : CallR X (.builtin "repr") (rRepr X.K) := by
  intro pins s σ H xs us Q I r h
  obtain ⟨x, d, rfl, hd, hs, hz, hdp, q⟩ := h
  obtain ⟨u, rfl, ru⟩ := r.one
  have pl := Dp.plain d hd
  obtain ⟨as, rd⟩ := Dp.reads I d x u hd ru
  have fin : ∀ (h' : Heap) (tk tk' : Nat), (∀ b o, s.heap.get? b = some o → h'.get? b = some o) →
      EP X pins σ Q (.str d.shown tk) { s with heap := h', toks := tk' } :=
    fun h' tk tk' k => ⟨.str d.shown, H, I.kept k, ⟨tk, rfl⟩, q⟩
  have fin0 : ∀ (tk tk' : Nat), EP X pins σ Q (.str d.shown tk) { s with toks := tk' } :=
    fun tk tk' => ⟨.str d.shown, H, I.tok tk', ⟨tk, rfl⟩, q⟩
  cases rd with
  | none => exact P.repr_of_none (fin0 _ _)
  | bool b => exact P.repr_of_bool (fin0 _ _)
  | int i t => exact P.repr_of_int (by simpa [PyData.showable] using hs) (fin0 _ _)
  | str z t => exact P.repr_of_str (fin0 _ _) hz
  | list h1 h2 h3 h4 =>
    exact repr_of_reads' (.list h1 h2 h3 h4) hs (PyData.noDict_hsm pl) g (by omega) (fun _ _ e => e) (fun h' u tk k => fin h' u tk k) hz
  | tuple h1 h2 h3 h4 =>
    exact repr_of_reads' (.tuple h1 h2 h3 h4) hs (PyData.noDict_hsm pl) g (by omega) (fun _ _ e => e) (fun h' u tk k => fin h' u tk k) hz
  | dict h1 h2 h3 h4 h5 => simp [PyData.hasDict] at pl
end
end Gd
end

section
set_option Elab.async false
set_option linter.all false
set_option maxRecDepth 100000
set_option maxHeartbeats 4000000
/-! Data with lists, and with two small dicts; what is not in it: the addresses of N. -/
namespace Gd
open PySem PySem.Spec PyProof.Rows L2

mutual
inductive Dd (K : PySem.W.Frag) (H : Hp) (N : Addr → Prop) : V → PyData → Prop
  | non : Dd K H N .non .none
  | bl (b : Bool) : Dd K H N (.bl b) (.bool b)
  | int (i : Int) : Dd K H N (.int i) (.int i)
  | str (x : Str) : Dd K H N (.str x) (.str x)
  | lst {a : Addr} {xs : List V} {ds : List PyData} : H a = some (.lst xs) → ¬ N a → a ≠ sysModules → DdAll K H N xs ds → Dd K H N (.ref a) (.list ds)
  | tup {a : Addr} {xs : List V} {ds : List PyData} : SqT K H a xs → DdAll K H N xs ds → Dd K H N (.ref a) (.tuple ds)
  | dct0 {a : Addr} : H a = some (.dK []) → ¬ N a → Dd K H N (.ref a) (.dict [])
  | dct1 {a : Addr} {x : Str} {i : Int} : H a = some (.dK [(Sum.inr x, .int i)]) → ¬ N a → Dd K H N (.ref a) (.dict [(.str x, .int i)])
inductive DdAll (K : PySem.W.Frag) (H : Hp) (N : Addr → Prop) : List V → List PyData → Prop
  | nil : DdAll K H N [] []
  | cons {v : V} {vs : List V} {d : PyData} {ds : List PyData} : Dd K H N v d → DdAll K H N vs ds → DdAll K H N (v :: vs) (d :: ds)
end

section
variable {K : PySem.W.Frag} {H H' : Hp} {N N' : Addr → Prop}
mutual
theorem Dd.stay (t : Tups K H H') (x : ∀ a o, ¬ N a → H a = some o → H' a = some o) (m : ∀ a, N' a → N a) : ∀ (d : PyData) {v : V}, Dd K H N v d → Dd K H' N' v d
  | .none, _, h => by cases h; exact .non
  | .bool _, _, h => by cases h; exact .bl _
  | .int _, _, h => by cases h; exact .int _
  | .str _, _, h => by cases h; exact .str _
  | .tuple ds, _, h => by
    cases h with
    | tup a b => exact .tup (t _ _ a) (DdAll.stay t x m ds b)
  | .list ds, _, h => by
    cases h with
    | lst a n g b => exact .lst (x _ _ n a) (fun z => n (m _ z)) g (DdAll.stay t x m ds b)
  | .dict ds, _, h => by
    cases h with
    | dct0 a n => exact .dct0 (x _ _ n a) (fun z => n (m _ z))
    | dct1 a n => exact .dct1 (x _ _ n a) (fun z => n (m _ z))
theorem DdAll.stay (t : Tups K H H') (x : ∀ a o, ¬ N a → H a = some o → H' a = some o) (m : ∀ a, N' a → N a) : ∀ (ds : List PyData) {vs : List V}, DdAll K H N vs ds → DdAll K H' N' vs ds
  | [], _, h => by cases h; exact .nil
  | d :: ds, _, h => by
    cases h with
    | cons a b => exact .cons (Dd.stay t x m d a) (DdAll.stay t x m ds b)
end
theorem Dd.same {v : V} {d : PyData} (s : Same H H') (h : Dd K H N v d) : Dd K H' N v d := Dd.stay (Tups.of_same s) (fun a o _ e => s a o e) (fun _ z => z) d h
theorem DdAll.same {vs : List V} {ds : List PyData} (s : Same H H') (h : DdAll K H N vs ds) : DdAll K H' N vs ds := DdAll.stay (Tups.of_same s) (fun a o _ e => s a o e) (fun _ z => z) ds h
theorem Dd.free {v : V} {d : PyData} (h : Dd K H N v d) : Dd K H (fun _ => False) v d := Dd.stay .refl (fun a o _ e => e) (fun _ z => z.elim) d h
theorem DdAll.free {vs : List V} {ds : List PyData} (h : DdAll K H N vs ds) : DdAll K H (fun _ => False) vs ds := DdAll.stay .refl (fun a o _ e => e) (fun _ z => z.elim) ds h
/-- behind a draw -/
theorem Dd.drawn {p : Addr} {ys : List V} {v : V} {d : PyData} (e : H p = some (.lst ys)) (x : Ex1 p H H') (h : Dd K H (· = p) v d) : Dd K H' (· = p) v d :=
  Dd.stay (x.tups e) (fun a o n q => x a o n q) (fun _ z => z) d h
theorem DdAll.drawn {p : Addr} {ys : List V} {vs : List V} {ds : List PyData} (e : H p = some (.lst ys)) (x : Ex1 p H H') (h : DdAll K H (· = p) vs ds) : DdAll K H' (· = p) vs ds :=
  DdAll.stay (x.tups e) (fun a o n q => x a o n q) (fun _ z => z) ds h
mutual
/-- what is new is not in it -/
theorem Dd.shun {q : Addr} (n : H q = none) : ∀ (d : PyData) {v : V}, Dd K H N v d → Dd K H (fun a => N a ∨ a = q) v d
  | .none, _, h => by cases h; exact .non
  | .bool _, _, h => by cases h; exact .bl _
  | .int _, _, h => by cases h; exact .int _
  | .str _, _, h => by cases h; exact .str _
  | .tuple ds, _, h => by
    cases h with
    | tup a b => exact .tup a (DdAll.shun n ds b)
  | .list ds, _, h => by
    cases h with
    | lst a m g b => exact .lst a (fun z => z.elim m (fun z => by rw [z, n] at a; cases a)) g (DdAll.shun n ds b)
  | .dict ds, _, h => by
    cases h with
    | dct0 a m => exact .dct0 a (fun z => z.elim m (fun z => by rw [z, n] at a; cases a))
    | dct1 a m => exact .dct1 a (fun z => z.elim m (fun z => by rw [z, n] at a; cases a))
theorem DdAll.shun {q : Addr} (n : H q = none) : ∀ (ds : List PyData) {vs : List V}, DdAll K H N vs ds → DdAll K H (fun a => N a ∨ a = q) vs ds
  | [], _, h => by cases h; exact .nil
  | d :: ds, _, h => by
    cases h with
    | cons a b => exact .cons (Dd.shun n d a) (DdAll.shun n ds b)
end
theorem DdAll.len : ∀ {vs : List V} {ds : List PyData}, DdAll K H N vs ds → vs.length = ds.length
  | _, _, .nil => rfl
  | _, _, .cons _ b => congrArg (· + 1) (DdAll.len b)
theorem DdAll.at_ : ∀ {vs : List V} {ds : List PyData} {i : Nat} {v : V}, DdAll K H N vs ds → vs[i]? = some v → ∃ d, ds[i]? = some d ∧ Dd K H N v d
  | _, _, _, _, .nil, e => by simp at e
  | _, _, 0, _, .cons a _, e => by
    cases Option.some.inj e
    exact ⟨_, rfl, a⟩
  | _, _, i + 1, _, .cons _ b, e => DdAll.at_ (i := i) b e
theorem DdAll.app : ∀ {vs us : List V} {ds es : List PyData}, DdAll K H N vs ds → DdAll K H N us es → DdAll K H N (vs ++ us) (ds ++ es)
  | _, _, _, _, .nil, h => h
  | _, _, _, _, .cons a b, h => .cons a (DdAll.app b h)
theorem DdAll.take : ∀ {vs : List V} {ds : List PyData}, DdAll K H N vs ds → ∀ i : Nat, DdAll K H N (vs.take i) (ds.take i)
  | _, _, .nil, i => by rw [List.take_nil, List.take_nil]; exact .nil
  | _, _, .cons _ _, 0 => .nil
  | _, _, .cons a b, i + 1 => .cons a (DdAll.take b i)
theorem DdAll.drop : ∀ {vs : List V} {ds : List PyData}, DdAll K H N vs ds → ∀ i : Nat, DdAll K H N (vs.drop i) (ds.drop i)
  | _, _, .nil, i => by rw [List.drop_nil, List.drop_nil]; exact .nil
  | _, _, .cons a b, 0 => .cons a b
  | _, _, .cons a b, i + 1 => DdAll.drop b i
theorem DdAll.rev : ∀ {vs : List V} {ds : List PyData}, DdAll K H N vs ds → DdAll K H N vs.reverse ds.reverse
  | _, _, .nil => .nil
  | _, _, .cons a b => by
    rw [List.reverse_cons, List.reverse_cons]
    exact DdAll.app (DdAll.rev b) (.cons a .nil)
mutual
theorem Dd.ofDp : ∀ (d : PyData) {v : V}, tupOnly d = true → Dp K H v d → Dd K H N v d
  | .none, _, _, h => by cases h; exact .non
  | .bool _, _, _, h => by cases h; exact .bl _
  | .int _, _, _, h => by cases h; exact .int _
  | .str _, _, _, h => by cases h; exact .str _
  | .tuple ds, _, o, h => by
    cases h with
    | tup a b =>
      simp only [tupOnly, Bool.and_eq_true] at o
      exact .tup a (DdAll.ofDp ds o.2 b)
  | .list _, _, o, _ => by simp [tupOnly] at o
  | .dict _, _, o, _ => by simp [tupOnly] at o
theorem DdAll.ofDp : ∀ (ds : List PyData) {vs : List V}, tupOnlyAll ds = true → DpAll K H vs ds → DdAll K H N vs ds
  | [], _, _, h => by cases h; exact .nil
  | d :: ds, _, o, h => by
    simp only [tupOnlyAll, Bool.and_eq_true] at o
    cases h with
    | cons a b => exact .cons (Dd.ofDp d o.1 a) (DdAll.ofDp ds o.2 b)
end
theorem Dd.kind {v : V} {d : PyData} (h : Dd K H N v d) : TyX K H v (.type (kindN d)) := by
  cases h with
  | non => exact .base .non
  | bl b => exact .base (.bl b)
  | int i => exact .base (.int i)
  | str x => exact .base (.str x)
  | lst e _ _ _ => exact .base (.lst e)
  | dct0 e _ => exact .base (.dK e)
  | dct1 e _ => exact .base (.dK e)
  | tup a _ =>
    rcases a with (a | ⟨z, a⟩) | ⟨z, its, n, a, c, _⟩
    · exact .base (.tup a)
    · exact .fTuple a
    · exact .kTuple a c
end
section
variable {X : Cx} {pins : List (Addr × Obj)} {σ : L2.St} {H : Hp} {s : Shared} {N : Addr → Prop}
theorem dk_reads (I : Inv X pins σ H s) {a : Addr} {kvs : List (Key × V)} (e : H a = some (.dK kvs)) :
    (a == sysModules) = false ∧ ∃ vs, KV kvs vs ∧ s.heap.DictOf (mixKind X.prog X.w) a vs := (I.hok a _ e).2
mutual
theorem Dd.reads (I : Inv X pins σ H s) : ∀ (d : PyData) (v : V) (u : Value), Dd X.K H N v d → RelV v u → ∃ as, Reads s.heap u d as ∧ sysModules ∉ as
  | .none, _, _, h, r => by
    cases h
    cases r
    exact ⟨[], .none, nofun⟩
  | .bool b, _, _, h, r => by
    cases h
    cases r
    exact ⟨[], .bool b, nofun⟩
  | .int i, _, _, h, r => by
    cases h
    obtain ⟨t, rfl⟩ := r
    exact ⟨[], .int i t, nofun⟩
  | .str x, _, _, h, r => by
    cases h
    obtain ⟨t, rfl⟩ := r
    exact ⟨[], .str x t, nofun⟩
  | .list ds, _, _, h, r => by
    cases h with
    | lst hs _ g ha =>
      cases r
      obtain ⟨its, rv, pl, _⟩ := I.list (SqL.of hs)
      obtain ⟨o, n, ho, hc, _, hd⟩ := pl
      obtain ⟨as, hr, hn⟩ := Dd.readsAll I ds _ its ha rv
      refine ⟨_, .list ho hc hd hr, fun m => ?_⟩
      rcases List.mem_cons.mp m with m | m
      · exact g m.symm
      · exact hn m
  | .tuple ds, _, _, h, r => by
    cases h with
    | tup hs ha =>
      cases r
      obtain ⟨its, rv, pl, _⟩ := I.tuple hs
      obtain ⟨o, ho, hc, n, hd⟩ := pl
      obtain ⟨as, hr, hn⟩ := Dd.readsAll I ds _ its ha rv
      exact ⟨as, .tuple ho hc hd hr, hn⟩
  | .dict ds, _, _, h, r => by
    cases h with
    | dct0 e _ =>
      cases r
      obtain ⟨g, vs, kv, o, es, ep, ho, ex, hd, ks, ps, _⟩ := dk_reads I e
      cases kv
      cases hes : es.toList with
      | nil =>
        refine ⟨_, .dict (as := []) (bs := []) ho ex.1 hd ?_ ?_, fun m => ?_⟩
        · rw [hes]; exact .nil
        · rw [hes]; exact .nil
        · rcases List.mem_cons.mp m with m | m
          · rw [← m] at g
            simp at g
          · cases m
      | cons z zs =>
        rw [hes] at ps
        cases ps
    | @dct1 a x i e _ =>
      cases r
      obtain ⟨g, vs, kv, o, es, ep, ho, ex, hd, ks, ps, _⟩ := dk_reads I e
      cases kv with
      | @cons _ q _ _ r0 rest =>
      cases rest
      obtain ⟨qk, qv⟩ := q
      obtain ⟨rk, t, rv⟩ := r0
      dsimp only at rk rv
      subst rk rv
      cases hes : es.toList with
      | nil =>
        rw [hes] at ps
        cases ps
      | cons z zs =>
        rw [hes] at ps
        cases ps with
        | cons p1 p2 p3 =>
        cases p3
        obtain ⟨tk, ek⟩ : ∃ tk, z.key = .str x tk := by
          have p1 : keyIs (Sum.inr x) z.key = true := p1
          rcases keyIs_shape p1 with ⟨i, t, h1, h2⟩ | ⟨y, t, h1, h2⟩
          · cases h1
          · cases h1
            exact ⟨t, h2⟩
        refine ⟨_, .dict (as := [] ++ []) (bs := [] ++ []) ho ex.1 hd ?_ ?_, fun m => ?_⟩
        · rw [hes]
          show ReadsAll s.heap [z.key] [.str x] _
          rw [ek]
          exact .cons (.str x tk) .nil
        · rw [hes]
          show ReadsAll s.heap [z.val] [.int i] _
          rw [p2]
          exact .cons (.int i t) .nil
        · rcases List.mem_cons.mp m with m | m
          · rw [← m] at g
            simp at g
          · cases m
theorem Dd.readsAll (I : Inv X pins σ H s) : ∀ (ds : List PyData) (vs : List V) (us : List Value), DdAll X.K H N vs ds → Vals vs us → ∃ as, ReadsAll s.heap us ds as ∧ sysModules ∉ as
  | [], _, _, h, r => by
    cases h
    cases r
    exact ⟨[], .nil, nofun⟩
  | d :: ds, _, _, h, r => by
    cases h with
    | cons h1 h2 =>
      cases r with
      | cons r1 r2 =>
        obtain ⟨as, q1, n1⟩ := Dd.reads I d _ _ h1 r1
        obtain ⟨bs, q2, n2⟩ := Dd.readsAll I ds _ _ h2 r2
        exact ⟨as ++ bs, .cons q1 q2, fun m => (List.mem_append.mp m).elim n1 n2⟩
end
/-- repr(x), x such data -/
def rReprD (K : PySem.W.Frag) : List V → Hp → VK → Prop := fun xs H Q =>
  ∃ (x : V) (d : PyData) (N : Addr → Prop), xs = [x] ∧ Dd K H N x d ∧ d.showable = true ∧ d.shown.length ≤ sizeLine ∧ d.depth ≤ 60 ∧ Q (.str d.shown) H
theorem call_reprD (g : Free X.A) (hu : X.A.units + 64 < cLine) : CallR X (.builtin "repr") (rReprD X.K) := by
  intro pins s σ H xs us Q I r h
  obtain ⟨x, d, N, rfl, hd, hs, hz, hdp, q⟩ := h
  obtain ⟨u, rfl, ru⟩ := r.one
  obtain ⟨as, rd, hn⟩ := Dd.reads I d x u hd ru
  have fin : ∀ (h' : Heap) (tk tk' : Nat), (∀ b o, s.heap.get? b = some o → h'.get? b = some o) →
      EP X pins σ Q (.str d.shown tk) { s with heap := h', toks := tk' } :=
    fun h' tk tk' k => ⟨.str d.shown, H, I.kept k, ⟨tk, rfl⟩, q⟩
  have fin0 : ∀ (tk tk' : Nat), EP X pins σ Q (.str d.shown tk) { s with toks := tk' } :=
    fun tk tk' => ⟨.str d.shown, H, I.tok tk', ⟨tk, rfl⟩, q⟩
  cases rd with
  | none => exact P.repr_of_none (fin0 _ _)
  | bool b => exact P.repr_of_bool (fin0 _ _)
  | int i t => exact P.repr_of_int (by simpa [PyData.showable] using hs) (fin0 _ _)
  | str z t => exact P.repr_of_str (fin0 _ _) hz
  | list h1 h2 h3 h4 =>
    exact repr_of_reads' (.list h1 h2 h3 h4) hs (fun _ => hn) g (by omega) (fun _ _ e => e) (fun h' u tk k => fin h' u tk k) hz
  | tuple h1 h2 h3 h4 =>
    exact repr_of_reads' (.tuple h1 h2 h3 h4) hs (fun _ => hn) g (by omega) (fun _ _ e => e) (fun h' u tk k => fin h' u tk k) hz
  | dict h1 h2 h3 h4 h5 =>
    exact repr_of_reads' (.dict h1 h2 h3 h4 h5) hs (fun _ => hn) g (by omega) (fun _ _ e => e) (fun h' u tk k => fin h' u tk k) hz
end
end Gd
end

section
set_option Elab.async false
set_option linter.all false
set_option maxRecDepth 100000
set_option maxHeartbeats 4000000
namespace Gd
open PySem PySem.Spec PyProof.Rows L2

section
variable {X : Cx}
/-- the address of a new object is none of the interpreter's own -/
theorem new_no {pins : List (Addr × Obj)} {σ : L2.St} {H : Hp} {s : Shared} (I : Inv X pins σ H s) : s.heap.objs.size ≠ sysModules := Nat.ne_of_gt I.big
def tLstS (t : TA) : TE := fun σ H Q => t σ H fun xs H1 => xs.length ≤ sizeLine ∧ ∀ p, H1 p = none → p ≠ sysModules → Q (.ref p) (upd H1 p (.lst xs))
theorem pe_lstS {es : List Expr} {pos : Pos} {t : TA} (h : PA X es t) : PE X (.List es pos) (tLstS t) := by
  constructor
  intro pins s σ H Q I hq
  refine wpAny_List_spliced (thn (h.run pos pins s σ H _ I hq) ?_)
  rintro us s1 ⟨xs, H1, J, r, z, q⟩
  have hn : H1 s1.heap.objs.size = none := J.hok.fresh (Nat.le_refl _)
  have J2 := J.laid (a := s1.heap.objs.size) (o := .lst xs) (h' := s1.heap.push { cls := .type "list", data := .seq us.toArray }) (t' := s1.toks)
    (fun b u e => Heap.get?_push_of_some _ e) (Nat.le_refl _) ⟨z, us, 0, r, Heap.get?_push_size _ rfl⟩
  exact ⟨by rw [← r.length]; exact z, .ref s1.heap.objs.size, _, J2, rfl, q _ hn (new_no J)⟩
theorem call_listS : CallR X (.type "list") (fun xs H Q => ∃ p ys, xs = [.ref p] ∧ SqT X.K H p ys ∧ ∀ l, H l = none → l ≠ sysModules → Q (.ref l) (upd H l (.lst ys))) := by
  intro pins s σ H xs us Q I r h
  obtain ⟨p, ys, rfl, hq, q⟩ := h
  obtain ⟨u, rfl, rx⟩ := r.one
  cases rx
  obtain ⟨its, r', pl, hz⟩ := I.tuple hq
  have hlen := r'.length
  obtain ⟨o, ho, hc, n, hd⟩ := pl
  refine call_list_seq p (.inr rfl) ho hc hd ?_ (by simp only [List.size_toArray] <;> omega)
  intro h' c' kp e
  have J := I.laid (a := s.heap.objs.size) (o := .lst ys) (t' := s.toks) kp (Nat.le_refl _) ⟨hz, its, c', r', e⟩
  exact ⟨.ref s.heap.objs.size, _, J, rfl, q _ (I.hok.fresh (Nat.le_refl _)) (new_no I)⟩

/-! truths as numbers -/
theorem op_add_bi : OpR X (binaryOp .Add) (fun x y H Q => ∃ k i, x = .bl k ∧ y = .int i ∧ Q (.int ((if k = true then 1 else 0) + i)) H) := by
  intro pins s σ H x y v u Q I rx ry h
  obtain ⟨k, i, rfl, rfl, q⟩ := h
  obtain ⟨t, rfl⟩ := ry
  cases rx
  exact IntBool.add_bool_int ⟨.int ((if k = true then 1 else 0) + i), H, I.tok _, ⟨_, rfl⟩, q⟩
theorem op_sub_ib : OpR X (binaryOp .Sub) (fun x y H Q => ∃ i k, x = .int i ∧ y = .bl k ∧ Q (.int (i - (if k = true then 1 else 0))) H) := by
  intro pins s σ H x y v u Q I rx ry h
  obtain ⟨i, k, rfl, rfl, q⟩ := h
  obtain ⟨t, rfl⟩ := rx
  cases ry
  exact IntBool.sub_int_bool ⟨.int (i - (if k = true then 1 else 0)), H, I.tok _, ⟨_, rfl⟩, q⟩
theorem call_str_bool : CallR X (.type "str") (fun xs H Q => ∃ b, xs = [.bl b] ∧ Q (.str (if b then "True" else "False")) H) := by
  intro pins s σ H xs us Q I r h
  obtain ⟨b, rfl, q⟩ := h
  obtain ⟨u, rfl, rx⟩ := r.one
  cases rx
  exact PySem.P.str_of_bool ⟨.str (if b then "True" else "False"), H, I.tok _, ⟨_, rfl⟩, q⟩
end

/-! a dict is no text -/
section
variable {A : Around} {s : Shared} {P : Program} {w : World}
theorem dict_declines (d : Addr) (b : Str) (u : Tok) :
    Meets (Builtin.«dict.__eq__» ⟨[.ref d, .str b u], []⟩) (fun _ R s => s.TypeIs (.ref d) "dict" ∧ R (.ok (.ret .notImplemented)) s) :=
  .of_wp fun prog w A R s h => by
    obtain ⟨hd, h⟩ := h
    show wpAny _ _ (Builtin.Dict.dictSlotArgs "__eq__" ⟨[.ref d, .str b u], []⟩ >>= _) _ _ s
    refine wpAny_bind ?_
    unfold Builtin.Dict.dictSlotArgs
    refine wpAny_bind (wpAny_notOrdered_dict hd ?_)
    refine wpAny_pure ?_
    refine wpAny_bind (wpAny_isInstance (T := "str") (typeIs_str s b u) PySem.F.sub_str_dict ?_)
    simp only [Bool.not_false, if_true]
    exact wpAny_bind (wpAny_rule (wpAny_pure ⟨_, rfl, h⟩))
theorem str_declines (d : Addr) (es : Array DictEntry) (ep : Nat) (b : Str) (u : Tok) :
    Meets (Builtin.«str.__eq__» ⟨[.str b u, .ref d], []⟩)
      (fun _ R s => s.heap.get? d = some { cls := .type "dict", dict := none, data := .dict es ep, slots := #[] } ∧ R (.ok (.ret .notImplemented)) s) :=
  .of_wp fun prog w A R s h => by
    obtain ⟨hp, g, d, tk, os⟩ := s
    obtain ⟨hd, h⟩ := h
    wp_walk using wpAny_load hd
    exact ⟨_, rfl, h⟩
variable {d : Addr} {es : Array DictEntry} {ep : Nat}
theorem rc_dict_str (b : Str) (u : Tok) (ho : s.heap.get? d = some { cls := .type "dict", dict := none, data := .dict es ep, slots := #[] }) (hu : A.units < cLine) :
    SeqAt.RcAt A s (.ref d) (.str b u) false := fun prog w E Q h =>
  SeqAt.rc_eq_decline_or (k := false) ⟨_, ho, rfl⟩ (typeIs_str s b u) (by decide) PySem.F.sub_str_dict PySem.F.slot_dict_eq PySem.F.slot_str_eq_refl
    (fun _ hq => call_meets PySem.F.slot_dict_eq ⟨_, ho, rfl⟩ PySem.F.entry_dict_eq (PySem.F.args_dict_eq_2 _ _) (dict_declines d b u) ⟨⟨_, ho, rfl⟩, hq⟩)
    (fun _ hq => call_meets PySem.F.slot_str_eq_refl (typeIs_str s b u) PySem.F.entry_str_eq (PySem.F.args_str_eq_2 _ _) (str_declines d es ep b u) ⟨ho, hq⟩)
    (fun _ hq => wpAny_of_eq (rfl : isSame (.ref d) (.str b u) = pure false) hq) (.inr hu) h
theorem rc_str_dict (b : Str) (u : Tok) (ho : s.heap.get? d = some { cls := .type "dict", dict := none, data := .dict es ep, slots := #[] }) (hu : A.units < cLine) :
    SeqAt.RcAt A s (.str b u) (.ref d) false := fun prog w E Q h =>
  SeqAt.rc_eq_decline_or (k := false) (typeIs_str s b u) ⟨_, ho, rfl⟩ (by decide) PySem.F.sub_dict_str PySem.F.slot_str_eq PySem.F.slot_dict_eq_refl
    (fun _ hq => call_meets PySem.F.slot_str_eq (typeIs_str s b u) PySem.F.entry_str_eq (PySem.F.args_str_eq_2 _ _) (str_declines d es ep b u) ⟨ho, hq⟩)
    (fun _ hq => call_meets PySem.F.slot_dict_eq_refl ⟨_, ho, rfl⟩ PySem.F.entry_dict_eq (PySem.F.args_dict_eq_2 _ _) (dict_declines d b u) ⟨⟨_, ho, rfl⟩, hq⟩)
    (fun _ hq => wpAny_of_eq (rfl : isSame (.str b u) (.ref d) = pure false) hq) (.inr hu) h
theorem eq_str_dict (b : Str) (u : Tok) (ho : s.heap.get? d = some { cls := .type "dict", dict := none, data := .dict es ep, slots := #[] }) (hu : A.units < cLine) :
    SeqAt.EqAt A s (.str b u) (.ref d) false := fun prog w E Q h => by
  unfold eqBool
  refine wpAny_holding (wpAny_ite_split (fun q => absurd (eq_of_beq q) nofun) (fun _ => ?_))
  exact wpAny_bind (rc_str_dict b u ho hu prog w E _ (wpAny_truthy_bool h))
end

/-! data beside a text -/
def isStr (d : PyData) (b : Str) : Bool := match d with
  | .str x => x == b
  | _ => false
section
variable {X : Cx} {pins : List (Addr × Obj)} {σ : L2.St} {H : Hp} {s : Shared} {N : Addr → Prop} {A : Around}
theorem Dd.dictAt (I : Inv X pins σ H s) {v : V} {u : Value} {ks : List (PyData × PyData)} (h : Dd X.K H N v (.dict ks)) (r : RelV v u) :
    ∃ d es ep, u = .ref d ∧ s.heap.get? d = some { cls := .type "dict", dict := none, data := .dict es ep, slots := #[] } := by
  have key : ∀ {a : Addr} {kvs : List (Key × V)}, H a = some (.dK kvs) → ∃ es ep, s.heap.get? a = some { cls := .type "dict", dict := none, data := .dict es ep, slots := #[] } := by
    intro a kvs e
    obtain ⟨_, vs, _, o, es, ep, ho, ⟨e1, e2, e3⟩, hd, _⟩ := dk_reads I e
    obtain ⟨oc, od, dt, sl⟩ := o
    dsimp only at e1 e2 e3 hd
    subst e1 e2 e3 hd
    exact ⟨es, ep, ho⟩
  cases h with
  | dct0 e _ =>
    cases r
    obtain ⟨es, ep, ho⟩ := key e
    exact ⟨_, es, ep, rfl, ho⟩
  | dct1 e _ =>
    cases r
    obtain ⟨es, ep, ho⟩ := key e
    exact ⟨_, es, ep, rfl, ho⟩
theorem Dd.strEq (I : Inv X pins σ H s) (hu : A.units < cLine) {d : PyData} {v : V} {u : Value} (h : Dd X.K H N v d) (r : RelV v u) (b : Str) (t : Tok) :
    SeqAt.EqAt A s (.str b t) u (isStr d b) := by
  cases d with
  | none =>
    cases h
    cases r
    exact .str_none b t
  | bool k =>
    cases h
    cases r
    exact .str_bool b t k
  | int i =>
    cases h
    obtain ⟨t2, rfl⟩ := r
    exact .str_int b t i t2
  | str x =>
    cases h
    obtain ⟨t2, rfl⟩ := r
    have e := SeqAt.EqAt.str_str (A := A) (s := s) b t x t2
    have e2 : isStr (.str x) b = (b == x) := by
      show (x == b) = (b == x)
      exact Bool.eq_iff_iff.mpr ⟨fun z => by rw [eq_of_beq z] <;> exact beq_self_eq_true _, fun z => by rw [eq_of_beq z] <;> exact beq_self_eq_true _⟩
    rw [e2]
    exact e
  | list ds =>
    cases h with
    | lst e n g k =>
    cases r
    obtain ⟨its, _, pl, _⟩ := I.list (SqL.of e)
    exact .str_list b t pl.isList hu
  | tuple ds =>
    cases h with
    | tup e k =>
    cases r
    obtain ⟨its, _, pl, _⟩ := I.tuple e
    exact .str_tuple b t pl hu
  | dict ks =>
    obtain ⟨a, es, ep, rfl, ho⟩ := Dd.dictAt I h r
    exact eq_str_dict b t ho hu
end
end Gd
end

section
set_option Elab.async false
set_option linter.all false
set_option maxRecDepth 100000
set_option maxHeartbeats 4000000
/-! Lists of ints and slabs in the heap; what they show. -/
namespace Gd
open PySem PySem.Spec PyProof.Rows L2
theorem int_shown {i : Int} (h : i.natAbs ≤ 10 ^ 40) : (PyData.int i).shown.length ≤ 100 ∧ i.natAbs.log2 < 1920 ∧ (PyData.int i).weight ≤ 200 := by
  have h1 : i.natAbs < 10 ^ 41 := Nat.lt_of_le_of_lt h (by decide)
  have hl : i.natAbs.log2 < 190 := by
    by_cases z : i.natAbs = 0
    · rw [z]; decide
    · exact (Nat.log2_lt z).mpr (Nat.lt_of_lt_of_le h1 (by decide +kernel))
  refine ⟨?_, by omega, ?_⟩
  · have e := int_text_length_le10 (k := 41) (by decide) h1
    have e2 : (PyData.int i).shown.length = (toString i).length := by
      show (Str.ofString (toString i)).length = _
      rw [PySem.ofString_length]
    omega
  · simp only [PyData.weight]
    split <;> omega
theorem ints_leaves : ∀ {ns : List Int}, (∀ i ∈ ns, i.natAbs ≤ 10 ^ 40) → PyData.leavesShortAll 100 (ns.map .int) = true ∧ PyData.showableAll (ns.map .int) = true ∧ PyData.weightAll (ns.map .int) ≤ 201 * ns.length ∧ PyData.depthAll (ns.map .int) = 0
  | [], _ => ⟨rfl, rfl, Nat.zero_le _, rfl⟩
  | i :: ns, h => by
    obtain ⟨a, b, c, d⟩ := ints_leaves (ns := ns) fun j hj => h j (by simp [hj])
    obtain ⟨e1, e2, e3⟩ := int_shown (h i (by simp))
    refine ⟨?_, ?_, ?_, ?_⟩
    · simp only [List.map_cons, PyData.leavesShortAll, a, Bool.and_true, PyData.leavesShort, decide_eq_true_eq]
      exact e1
    · simp only [List.map_cons, PyData.showableAll, b, Bool.and_true, PyData.showable, decide_eq_true_eq]
      exact e2
    · simp only [List.map_cons, PyData.weightAll, List.length_cons]
      omega
    · simp only [List.map_cons, PyData.depthAll, d, PyData.depth]
      omega
/-- repr of a list of ints is served -/
theorem ints_shown {ns : List Int} (h : ∀ i ∈ ns, i.natAbs ≤ 10 ^ 40) (hl : ns.length ≤ 700) :
    (PyData.list (ns.map .int)).showable = true ∧ (PyData.list (ns.map .int)).shown.length ≤ sizeLine ∧ (PyData.list (ns.map .int)).depth ≤ 60 := by
  obtain ⟨a, b, c, d⟩ := ints_leaves h
  have hs := PyData.shown_le 100 (by decide) (.list (ns.map .int)) (by simpa only [PyData.leavesShort] using a)
  have hw : (PyData.list (ns.map .int)).weight ≤ 201 * ns.length + 1 := by
    simp only [PyData.weight]
    omega
  have z : sizeLine = 16777216 := rfl
  refine ⟨by simpa only [PyData.showable] using b, by omega, ?_⟩
  simp only [PyData.depth, d]
  omega
theorem one_shown {i : Int} (h : i.natAbs ≤ 10 ^ 40) : (PyData.int i).showable = true ∧ (PyData.int i).shown.length ≤ sizeLine ∧ (PyData.int i).depth ≤ 60 := by
  obtain ⟨e1, e2, e3⟩ := int_shown h
  have z : sizeLine = 16777216 := rfl
  refine ⟨by simpa [PyData.showable] using e2, by omega, by simp only [PyData.depth]; omega⟩
theorem ints_dp {K : PySem.W.Frag} {H : Hp} : ∀ ns : List Int, DpAll K H (ns.map V.int) (ns.map .int)
  | [] => .nil
  | i :: ns => .cons (.int i) (ints_dp ns)
theorem list_dp {K : PySem.W.Frag} {H : Hp} {a : Addr} {ns : List Int} (h : SqL K H a (ns.map V.int)) : Dp K H (.ref a) (.list (ns.map .int)) := .lst h (ints_dp ns)

/-! what stays -/
theorem new_same {H : Hp} {q : Addr} {o : HO} (n : H q = none) : Same H (upd H q o) := fun b u e => by
  rw [upd_ne (ne_of_none e n)]
  exact e
/-- a new object may change -/
theorem own_same {H H' : Hp} {q : Addr} {o : HO} (n : H q = none) (s : Same H H') : Same H (upd H' q o) := fun b u e => by
  rw [upd_ne (ne_of_none e n)]
  exact s b u e
theorem same_tup {K : PySem.W.Frag} {H H' : Hp} (s : Same H H') {a : Addr} {xs : List V} (h : SqT K H a xs) : SqT K H' a xs := by
  rcases h with (h | ⟨o, h⟩) | h
  · exact .inl (.inl (s _ _ h))
  · exact .inl (.inr ⟨o, s _ _ h⟩)
  · exact .inr h
/-- slabs at a: a list of pairs -/
def SlabsAt (K : PySem.W.Frag) (H : Hp) (a : Addr) (ss : List (Nat × Int)) : Prop :=
  ∃ bs : List Addr, SqL K H a (bs.map V.ref) ∧ bs.length = ss.length ∧ ∀ (i : Nat) (b : Addr) (s : Nat × Int), bs[i]? = some b → ss[i]? = some s → SqT K H b [.int (s.1 : Nat), .int s.2]
theorem SlabsAt.same {K : PySem.W.Frag} {H H' : Hp} {a : Addr} {ss : List (Nat × Int)} (h : SlabsAt K H a ss) (s : Same H H') : SlabsAt K H' a ss := by
  obtain ⟨bs, h1, h2, h3⟩ := h
  exact ⟨bs, s.seq h1, h2, fun i b t e1 e2 => same_tup s (h3 i b t e1 e2)⟩
theorem map_at {α : Type} {f : α → V} {xs : List α} {i : Nat} {v : V} (h : (xs.map f)[i]? = some v) : ∃ x, xs[i]? = some x ∧ v = f x := by
  rw [List.getElem?_map] at h
  cases e : xs[i]? with
  | none => rw [e] at h; cases h
  | some x => rw [e] at h; exact ⟨x, rfl, (Option.some.inj h).symm⟩
theorem at_of {α : Type} {xs : List α} {i n : Nat} (hl : xs.length = n) (h : i < n) : ∃ x, xs[i]? = some x := ⟨xs[i]'(by omega), List.getElem?_eq_getElem (by omega)⟩
theorem at_lt {α : Type} {xs : List α} {i : Nat} {x : α} (h : xs[i]? = some x) : i < xs.length := (List.getElem?_eq_some_iff.mp h).1
theorem getD_at {l : List Int} {i : Nat} (h : i < l.length) : l[i]? = some (l.getD i 0) := by
  rw [List.getD_eq_getElem?_getD, List.getElem?_eq_getElem h] <;> rfl
theorem ints_at {l : List Int} {i : Nat} (h : i < l.length) : (l.map V.int)[i]? = some (.int (l.getD i 0)) := by
  rw [List.getElem?_map, getD_at h] <;> rfl
theorem ints_atI {l : List Int} {i : Nat} (h : i < l.length) : atI (l.map V.int) ((i : Nat) : Int) = some (.int (l.getD i 0)) := atI_nat (ints_at h)
theorem take_at {α : Type} {xs : List α} {i : Nat} {x : α} (h : xs[i]? = some x) : xs.take (i + 1) = xs.take i ++ [x] := by
  rw [List.take_add_one, h] <;> rfl
theorem map_set {l : List Int} {i : Nat} {v : Int} : (l.map V.int).set i (.int v) = (l.set i v).map V.int := by
  rw [List.map_set]
section
variable {X : Cx}
/-- l[j], j from nought on, in l[j] op= x -/
def rGetL (K : PySem.W.Frag) : V → V → Hp → VK → Prop := fun o i H Q => ∃ (p : Addr) (xs : List V) (j : Nat) (v : V), o = .ref p ∧ i = .int (j : Nat) ∧ SqL K H p xs ∧ xs[j]? = some v ∧ Q v H
theorem get_list : PGet X (rGetL X.K) := by
  intro pins s σ H o i ov iv Q I r1 r2 h
  obtain ⟨p, xs, j, v, rfl, rfl, hq, he, q⟩ := h
  cases r1
  obtain ⟨t, rfl⟩ := r2
  obtain ⟨its, r, pl, hz⟩ := I.list hq
  obtain ⟨u, eu, ru⟩ := r.get he
  have hl := r.length
  have lt := at_lt he
  have zz : sizeLine = 16777216 := rfl
  have hi := at_lt eu
  refine wpAny_getItem_list pl.isList (by omega) (by omega) ?_ ⟨v, H, I, ru, q⟩
  simpa using eu
end
theorem ixN_nat {n j : Nat} (h : j < n) : ixN n (j : Int) = some j := by
  unfold ixN
  rw [if_pos (by omega), if_pos (by omega)] <;> simp
end Gd
end

section
set_option Elab.async false
set_option linter.all false
set_option maxRecDepth 100000
set_option maxHeartbeats 4000000
namespace Gd
open PySem PySem.Spec PyProof.Rows L2
section
variable {X : Cx}
/-- a list beside [] -/
def rL0 (K : PySem.W.Frag) (neg : Bool) : R2 := fun x y H Q => ∃ a b xs, x = .ref a ∧ y = .ref b ∧ SqL K H a xs ∧ SqL K H b [] ∧ Q (.bl (if neg then !xs.isEmpty else xs.isEmpty)) H
theorem op_eqL0 (hu : X.A.units < cLine) : OpR X (compareOp .Eq) (rL0 X.K false) := by
  intro pins s σ H x y v u Q I rx ry h
  obtain ⟨a, b, xs, rfl, rfl, ha, hb, q⟩ := h
  cases rx
  cases ry
  obtain ⟨its, r, pl, _⟩ := I.list ha
  obtain ⟨its2, r2, pl2, _⟩ := I.list hb
  cases r2
  cases r with
  | nil => exact SeqAt.RcAt.lists (e := fun _ => true) pl.isList pl2.isList rfl hu (fun j h1 _ => absurd h1 (by simp)) _ _ _ _ ⟨.bl _, H, I, rfl, q⟩
  | cons _ _ => exact SeqAt.RcAt.lists_lengths pl.isList pl2.isList (by simp) hu _ _ _ _ ⟨.bl _, H, I, rfl, q⟩
theorem op_neL0 (hu : X.A.units < cLine) : OpR X (compareOp .NotEq) (rL0 X.K true) := by
  intro pins s σ H x y v u Q I rx ry h
  obtain ⟨a, b, xs, rfl, rfl, ha, hb, q⟩ := h
  cases rx
  cases ry
  obtain ⟨its, r, pl, _⟩ := I.list ha
  obtain ⟨its2, r2, pl2, _⟩ := I.list hb
  cases r2
  cases r with
  | nil => exact SeqAt.RcNeAt.lists (e := fun _ => true) pl.isList pl2.isList rfl hu (fun j h1 _ => absurd h1 (by simp)) _ _ _ _ ⟨.bl _, H, I, rfl, q⟩
  | cons _ _ => exact SeqAt.RcNeAt.lists_lengths pl.isList pl2.isList (by simp) hu _ _ _ _ ⟨.bl _, H, I, rfl, q⟩
end
/-! what stays through draws -/
theorem ex1_of_same {p : Addr} {H H' : Hp} (s : Same H H') : Ex1 p H H' := fun b u _ e => s b u e
theorem ex1_own {p q : Addr} {H H' : Hp} {o : HO} (n : H q = none) (x : Ex1 p H H') : Ex1 p H (upd H' q o) := fun b u nb e => by
  rw [upd_ne (ne_of_none e n)]
  exact x b u nb e
theorem Feed.off {H : Hp} {p q : Addr} {S : Int} {o : HO} (F : Feed H p S) (n : q ≠ p) : Feed (upd H q o) p S := by
  obtain ⟨g, x, s, e, a, b⟩ := F
  exact ⟨g, x, s, by rw [upd_ne n.symm]; exact e, a, b⟩
theorem Feed.kept {H H' : Hp} {p : Addr} {S : Int} (F : Feed H p S) (s : Same H H') : Feed H' p S := by
  obtain ⟨g, x, z, ep, a, b⟩ := F
  exact ⟨g, x, z, s _ _ ep, a, b⟩
theorem Feed.not {H : Hp} {p q : Addr} {S : Int} (F : Feed H p S) (n : H q = none) : q ≠ p := F.ne n
theorem ex1_tup {K : PySem.W.Frag} {H H' : Hp} {p a : Addr} {S : Int} {xs : List V} (F : Feed H p S) (x : Ex1 p H H') (h : SqT K H a xs) : SqT K H' a xs := by
  obtain ⟨ys, ep⟩ := F.lst
  rcases h with (h | ⟨o, h⟩) | h
  · exact .inl (.inl (x _ _ (fun z => by rw [z, ep] at h; cases h) h))
  · exact .inl (.inr ⟨o, x _ _ (fun z => by rw [z, ep] at h; cases h) h⟩)
  · exact .inr h
theorem ex1_seq {K : PySem.W.Frag} {H H' : Hp} {p a : Addr} {xs : List V} (n : a ≠ p) (x : Ex1 p H H') (h : SqL K H a xs) : SqL K H' a xs := by
  rcases h with (h | ⟨o, h⟩) | h
  · exact .inl (.inl (x _ _ n h))
  · exact .inl (.inr ⟨o, x _ _ n h⟩)
  · exact .inr h
theorem SlabsAt.drawn {K : PySem.W.Frag} {H H' : Hp} {p a : Addr} {S : Int} {ss : List (Nat × Int)} (h : SlabsAt K H a ss) (F : Feed H p S) (n : a ≠ p) (x : Ex1 p H H') : SlabsAt K H' a ss := by
  obtain ⟨bs, h1, h2, h3⟩ := h
  exact ⟨bs, ex1_seq n x h1, h2, fun i b t e1 e2 => ex1_tup F x (h3 i b t e1 e2)⟩
/-- a new object is not p, and was not there before the draws -/
theorem ex1_free {p q : Addr} {H H' : Hp} (x : Ex1 p H H') (n : q ≠ p) (h : H' q = none) : H q = none := by
  cases e : H q with
  | none => rfl
  | some o => rw [x q o n e] at h; cases h
theorem at_list {α : Type} {f : α → V} {xs : List α} {r : Int} (h0 : 0 ≤ r) (h1 : r < xs.length) : ∃ x, x ∈ xs ∧ atI (xs.map f) r = some (f x) := by
  have h2 : r.toNat < xs.length := by omega
  refine ⟨xs[r.toNat], List.getElem_mem h2, ?_⟩
  have e : ((r.toNat : Nat) : Int) = r := by omega
  have z : atI (xs.map f) ((r.toNat : Nat) : Int) = some (f xs[r.toNat]) := atI_nat (by rw [List.getElem?_map, List.getElem?_eq_getElem h2] <;> rfl)
  rw [e] at z
  exact z
end Gd
end

section
set_option Elab.async false
set_option linter.all false
set_option maxRecDepth 100000
set_option maxHeartbeats 4000000
/-! A pen: a list of the cells' list at c, the place of the next one, what is left of a great one. -/
namespace Gd
open PySem PySem.Spec PyProof.Rows L2
def Pen (H : Hp) (l c : Addr) (S : Int) : Prop := ∃ (ns : List Int) (t ov : Int), H l = some (.lst [.ref c, .int t, .int ov]) ∧ H c = some (.lst (ns.map V.int)) ∧ ns.length ≤ 63 ∧ 0 ≤ t ∧ t ≤ S
section
variable {H H' : Hp} {l c q : Addr} {S T : Int} {o : HO}
theorem Pen.le (h : Pen H l c S) (le : S ≤ T) : Pen H l c T := by
  obtain ⟨ns, t, ov, a, b, d, e, f⟩ := h
  exact ⟨ns, t, ov, a, b, d, e, by omega⟩
theorem Pen.apart (h : Pen H l c S) : l ≠ c := by
  obtain ⟨ns, t, ov, a, b, _⟩ := h
  intro e
  rw [e, b] at a
  cases ns with
  | nil => cases a
  | cons x r => cases a
theorem Pen.not (h : Pen H l c S) (n : H q = none) : q ≠ l ∧ q ≠ c := by
  obtain ⟨ns, t, ov, a, b, _⟩ := h
  exact ⟨fun e => (by rw [e, a] at n; cases n), fun e => (by rw [e, b] at n; cases n)⟩
theorem Pen.same (h : Pen H l c S) (s : Same H H') : Pen H' l c S := by
  obtain ⟨ns, t, ov, a, b, d, e, f⟩ := h
  exact ⟨ns, t, ov, s _ _ a, s _ _ b, d, e, f⟩
theorem Pen.off (h : Pen H l c S) (n1 : q ≠ l) (n2 : q ≠ c) : Pen (upd H q o) l c S := by
  obtain ⟨ns, t, ov, a, b, d, e, f⟩ := h
  exact ⟨ns, t, ov, by rw [upd_ne n1.symm]; exact a, by rw [upd_ne n2.symm]; exact b, d, e, f⟩
end
theorem sq_le {t B : Int} (h0 : 0 ≤ t) (h : t ≤ B) : 0 ≤ t * t ∧ t * t ≤ B * B := ⟨Int.mul_nonneg h0 h0, Int.mul_le_mul h h h0 (by omega)⟩
theorem mul_le {x t A B : Int} (hx : 0 ≤ x) (hA : x ≤ A) (h0 : 0 ≤ t) (h : t ≤ B) : 0 ≤ x * t ∧ x * t ≤ A * B := ⟨Int.mul_nonneg hx h0, Int.mul_le_mul hA h h0 (by omega)⟩
def spDraw : Sp := fun vs H Q _ => ∃ (l c : Addr) (m S : Int), vs = [.ref l, .int m] ∧ Pen H l c S ∧ 0 < m ∧ m < 1073741824 ∧ S ≤ 100000 ∧
  ∀ (r : Int) (H' : Hp), 0 ≤ r → r < m → Pen H' l c (S + 1) → Ex1 l H H' → Q (.int r) H'
end Gd
end

section
set_option Elab.async false
set_option linter.all false
set_option maxRecDepth 100000
/-! Methods within a comprehension: what is done may not name the comprehension's own frame. -/
namespace Gd
open PySem PySem.Spec PyProof.Rows L2
section
variable {X : Cx} {o e : Expr} {es : List Expr} {to : TE} {t : TA} {name : Str} {apos cpos : Pos} {T id : String} {r : V → List V → Hp → VK → Prop} {K : PySem.W.Frag}
theorem pe_bmK (K : PySem.W.Frag) (r : V → List V → Hp → VK → Prop) (pa : PlainAttrs T) (slot : Slot T name id) (hty : typeOf (.builtin id) = pure (.type "method_descriptor")) (hm : MtR X id r) (ho : PE X o to) (ha : PA X (e :: es) t) (hK : X.K = K := by rfl)
    (hbase : attributeBase o name X.env (eval o X.env) = eval o X.env := by rfl)
    (hfew : ((backTo cpos (starEach (e :: es) X.env)).all (fun x => !x.1) && (backToKw cpos (keywordEach [] X.env)).all (fun x => x.1.isSome)
      && decide ((e :: es).length + ([] : List Keyword).length + (if ([] : List Keyword).isEmpty then 0 else 1) < 30)) = true := by rfl)
    (hline : (apos.endLine == cpos.line) = true := by rfl) (hs : starEach (e :: es) X.env = (false, eval e X.env) :: starEach es X.env := by rfl) (hplain : (backTo cpos (starEach es X.env)).any (·.1) = false := by rfl) :
    PE X (.Call (.Attribute o name apos) (e :: es) [] cpos) (tBM K T r to t) := by
  subst hK
  exact pe_bm pa slot hty hm ho ha hbase hfew hline hs hplain
theorem pe_tupleOfK (K : PySem.W.Frag) {a : Expr} {ta : TE} {p pos : Pos} (hg : Gl X "tuple") (hm : X.mg "tuple" = none) (ha : PE X a ta) (hK : X.K = K := by rfl) (na : starEach [a] X.env = (false, eval a X.env) :: starEach [] X.env := by rfl) :
    PE X (.Call (.Name "tuple" p) [a] [] pos) (tThen ta (kTup K)) := by
  subst hK
  exact pe_tupleOf hg hm ha na
theorem call_lenK (K : PySem.W.Frag) (hK : X.K = K := by rfl) : CallR X (.builtin "len") (fun xs H Q => ∃ p ys, xs = [V.ref p] ∧ (SqL K H p ys ∨ SqT K H p ys) ∧ Q (.int ys.length) H) := by
  subst hK
  exact call_len_seq
end
end Gd
end

section
set_option Elab.async false
set_option linter.all false
set_option maxRecDepth 100000
set_option maxHeartbeats 4000000
/-! f(k=e, ..): by its names alone, in any order. -/
namespace Gd
open PySem PySem.Spec PyProof.Rows L2
section
variable {X : Cx} {cx : CXT} {n : Nat} {f : Addr} {fd : FuncData} {ps ks : List Str} {sp : Sp} {E : XK} {x : Str} {p pos : Pos} {kws : List Keyword} {tk : TA}
  {g : List Value → List Value → List Value} {gV : List V → List V → List V}
def tKw2 (sp : Sp) (gV : List V → List V → List V) (E : XK) (tk : TA) : TE := fun σ H Q => tk σ H fun zs H2 => sp (gV [] zs) H2 Q E
/-- f(k=e): by its names alone -/
theorem pe_kw2 (F : FnOk X.prog X.w X.K X.mg X.base cx n f fd ps sp) (hr : Room n X.A) (hg : Gl X x) (hm : X.mg x = some (.ref f)) (hk : PySem.W.keepIn X.K (.ref f) = true)
    (hb : KBinds X.K fd ps ks g gV) (hx : Passes cx X E) (hkw : PK X kws tk)
    (hall : (backToKw pos (keywordEach kws X.env)).all (·.1.isSome) = true := by rfl) (hks : (backToKw pos (keywordEach kws X.env)).filterMap (·.1) = ks := by rfl)
    (hdb : (x == ("__debug__" : Str)) = false := by decide)
    (hpl : ((backTo pos (starEach [] X.env)).any (·.1) || (backToKw pos (keywordEach kws X.env)).any (·.1.isNone)) = false := by rfl) :
    PE X (.Call (.Name x p) [] kws pos) (tKw2 sp gV E tk) := by
  constructor
  intro pins s σ H Q I h
  refine wpAny_Call_Name_kw (ld_glob I hg hm ?_ hdb)
  refine PySem.W.callWith_KW0 (h₀ := X.base) I.ok.mod.kin hk hall (thn (hkw.run pos pins s σ H _ I h) ?_) hpl
  rintro ws s2 ⟨zs, H2, J, rz, q⟩
  refine ⟨J.kIn, ?_⟩
  rw [hks]
  exact run_fnk (us := []) (vs := []) F hr hb hx J .nil rz q
end
/-- two by their names, told in the other order -/
def back2 {α : Type} : List α → List α → List α
  | [], [a, b] => [b, a]
  | _, _ => []
theorem back2_rel {vs : List V} {us : List Value} {zs : List V} {ws : List Value} (a : Vals vs us) (b : Vals zs ws) : Vals (back2 vs zs) (back2 us ws) := by
  cases a with
  | cons _ _ => cases b <;> exact .nil
  | nil =>
    cases b with
    | nil => exact .nil
    | cons b1 b => cases b with
      | nil => exact .nil
      | cons b2 b => cases b with
        | nil => exact .cons b2 (.cons b1 .nil)
        | cons _ _ => exact .nil
theorem back2_of {K : PySem.W.Frag} {x qual p0 p1 : Str} {st : Stmt} {f : Addr} {fd : FuncData} (F : Fun K x qual st f fd)
    (h : ∀ (kV doc pm : Value) (an : Option Addr) (cdv ct a b : Value), bindArgs (PySem.W.fnOf x qual (defArgs st) (defBody st) (defScope st) .none kV doc pm an cdv ct) ⟨[], [(p1, a), (p0, b)]⟩ = pure [(p0, b), (p1, a)]) :
    KBinds K fd [p0, p1] [p1, p0] back2 back2 := by
  obtain ⟨oc, od, kV, doc, pm, an, cdv, ct, osl, rfl, lk, hcd⟩ := F.ex
  refine ⟨fun s us ws _ hl => ?_, fun a b => back2_rel a b⟩
  match us, ws, hl with
  | [], [a, b], _ => exact .of_eq (h kV doc pm an cdv ct a b)
end Gd
end

section
set_option Elab.async false
set_option linter.all false
set_option maxRecDepth 100000
set_option maxHeartbeats 4000000
namespace Szg
open PySem PySem.Spec PyProof.Rows L2 Gd
/-! sizes of data -/
structure Sm (w n : Nat) (d : PyData) : Prop where
  lf : d.leavesShort 100 = true
  sh : d.showable = true
  wt : d.weight ≤ w
  dp : d.depth ≤ n
structure Sms (w n : Nat) (ds : List PyData) : Prop where
  lf : PyData.leavesShortAll 100 ds = true
  sh : PyData.showableAll ds = true
  wt : PyData.weightAll ds ≤ w
  dp : PyData.depthAll ds ≤ n
theorem Sm.mono {w n w' n' : Nat} {d : PyData} (h : Sm w n d) (a : w ≤ w') (b : n ≤ n') : Sm w' n' d := ⟨h.lf, h.sh, Nat.le_trans h.wt a, Nat.le_trans h.dp b⟩
theorem Sms.mono {w n w' n' : Nat} {ds : List PyData} (h : Sms w n ds) (a : w ≤ w') (b : n ≤ n') : Sms w' n' ds := ⟨h.lf, h.sh, Nat.le_trans h.wt a, Nat.le_trans h.dp b⟩
theorem Sms.nil {n : Nat} : Sms 0 n [] := ⟨rfl, rfl, Nat.le_refl _, Nat.zero_le _⟩
theorem Sms.cons {w v n : Nat} {d : PyData} {ds : List PyData} (h : Sm w n d) (g : Sms v n ds) : Sms (w + 1 + v) n (d :: ds) := by
  refine ⟨?_, ?_, ?_, ?_⟩
  · simp only [PyData.leavesShortAll, h.lf, g.lf, Bool.and_self]
  · simp only [PyData.showableAll, h.sh, g.sh, Bool.and_self]
  · have := h.wt
    have := g.wt
    simp only [PyData.weightAll]
    omega
  · have := h.dp
    have := g.dp
    simp only [PyData.depthAll]
    omega
theorem Sms.tup {w n : Nat} {ds : List PyData} (g : Sms w n ds) : Sm (w + 1) (n + 1) (.tuple ds) := by
  refine ⟨by simp only [PyData.leavesShort, g.lf], by simp only [PyData.showable, g.sh], ?_, ?_⟩
  · have := g.wt
    simp only [PyData.weight]
    omega
  · have := g.dp
    simp only [PyData.depth]
    omega
theorem Sms.lst {w n : Nat} {ds : List PyData} (g : Sms w n ds) : Sm (w + 1) (n + 1) (.list ds) := by
  refine ⟨by simp only [PyData.leavesShort, g.lf], by simp only [PyData.showable, g.sh], ?_, ?_⟩
  · have := g.wt
    simp only [PyData.weight]
    omega
  · have := g.dp
    simp only [PyData.depth]
    omega
theorem Sm.shown {w n : Nat} {d : PyData} (h : Sm w n d) (a : w ≤ 160000) (b : n ≤ 60) : d.showable = true ∧ d.shown.length ≤ sizeLine ∧ d.depth ≤ 60 := by
  have x := PyData.shown_le 100 (by decide) d h.lf
  have y := h.wt
  have z : sizeLine = 16777216 := rfl
  exact ⟨h.sh, by omega, Nat.le_trans h.dp b⟩
theorem sm_none : Sm 5 0 .none := ⟨rfl, rfl, by decide, by decide⟩
theorem sm_bool (b : Bool) : Sm 5 0 (.bool b) := by cases b <;> exact ⟨rfl, rfl, by decide, by decide⟩
/-- a plain text: codes under 128, no longer than 30 -/
def Pl (s : Str) : Prop := (∀ c ∈ s.cps.toList, c < 128) ∧ s.length ≤ 30
theorem sm_str {s : Str} (h : Pl s) : Sm 30 0 (.str s) := by
  refine ⟨?_, ?_, ?_, Nat.le_refl _⟩
  · simp only [PyData.leavesShort, List.all_eq_true, decide_eq_true_eq]
    intro c hc
    exact Nat.lt_of_lt_of_le (h.1 c hc) (by decide)
  · simp [PyData.showable]
  · have w : (PyData.str s).weight = s.length := by simp only [PyData.weight]; rfl
    have := h.2
    omega
theorem Sms.all {w n : Nat} {ds : List PyData} (h : ∀ d ∈ ds, Sm w n d) : Sms ((w + 1) * ds.length) n ds := by
  induction ds with
  | nil => exact Sms.nil
  | cons d ds ih =>
    refine (Sms.cons (h d (by simp)) (ih fun e m => h e (by simp [m]))).mono ?_ (Nat.le_refl _)
    rw [List.length_cons, Nat.mul_add]
    omega
end Szg
end

section
set_option Elab.async false
set_option linter.all false
set_option maxRecDepth 100000
set_option maxHeartbeats 4000000
/-! zip(t, l): a tuple beside a list. -/
namespace Gd
open PySem PySem.Spec PyProof.Rows L2

/-- the tuple at a, the list at b, as they stand at each turn -/
def ItTL (K : PySem.W.Frag) (a b : Addr) : It where
  go i H := ∃ (xs ys : List V) (x y : V), SqT K H a xs ∧ SqL K H b ys ∧ xs[i]? = some x ∧ ys[i]? = some y
  yld i H v H' := ∃ T x y, v = .ref T ∧ H T = none ∧ H' = upd H T (.tup [x, y]) ∧ (∀ xs, SqT K H a xs → xs[i]? = some x) ∧ ∀ ys, SqL K H b ys → ys[i]? = some y
  stop i H := ∃ xs ys : List V, SqT K H a xs ∧ SqL K H b ys ∧ ys.length = i ∧ xs.length = i

theorem apN {a b : Nat} (h : ¬ a = b) : (a : Addr) ≠ (b : Addr) := h
theorem apL {x a b : Nat} (h1 : ¬ x = a) (h2 : ¬ x = b) : (x : Addr) ∉ ([a, b] : List Addr) := by
  intro h
  rcases List.mem_cons.mp h with h | h
  · exact h1 h
  · rcases List.mem_cons.mp h with h | h
    · exact h2 h
    · cases h
/-- the five cells of such a zip, the first at n -/
def five (n : Nat) : List Addr := [n + 4, n + 2, n + 3, n, n + 1]
theorem mem5 {n c : Nat} (h : c ∈ five n) : n ≤ c ∧ c < n + 5 := by
  simp only [five, List.mem_cons, List.not_mem_nil, or_false] at h
  omega
theorem in5 {n c : Nat} (h : n ≤ c) (h' : c < n + 5) : c ∈ five n := by
  simp only [five, List.mem_cons, List.not_mem_nil, or_false]
  omega
theorem sep5 {n a b : Nat} (ha : a < n) (hb : b < n) : ZipSep2 (n + 4) (n + 2) (n + 3) n (n + 1) [n, a] [n + 1, b] := by
  constructor
  · exact apN (by omega)
  · exact apN (by omega)
  · exact apN (by omega)
  · exact apN (by omega)
  · simp
  · exact apL (by omega) (by omega)
  · exact apL (by omega) (by omega)
  · exact apN (by omega)
  · simp
  · exact apL (by omega) (by omega)
  · exact apL (by omega) (by omega)
  · exact apL (by omega) (by omega)
  · exact apL (by omega) (by omega)
def St5 (n a b : Nat) (i : Nat) (h : Heap) : Prop :=
  IsZip h (n + 4) (n + 2) (n + 3) .none ∧ IsTupOf2 h (n + 2) (.ref n) (.ref (n + 1)) ∧ (∃ x y, IsTupOf2 h (n + 3) x y) ∧
    h.IsTupleIter n a i ∧ h.IsListIter (n + 1) b i ∧ a < n ∧ b < n ∧ n + 5 ≤ h.objs.size
theorem st5_obj {n a b i : Nat} {h : Heap} (st : St5 n a b i h) {c : Addr} (hc : c ∈ five n) : ∃ o, h.get? c = some o ∧ ∀ v, o.data ≠ .cell v := by
  obtain ⟨hz, hi, ⟨x, y, ho⟩, ⟨o1, e1, _, d1⟩, ⟨o2, e2, _, d2⟩, _⟩ := st
  simp only [five, List.mem_cons, List.not_mem_nil, or_false] at hc
  rcases hc with rfl | rfl | rfl | rfl | rfl
  · exact ⟨_, hz, fun v z => nomatch z⟩
  · exact ⟨_, hi, fun v z => nomatch z⟩
  · exact ⟨_, ho, fun v z => nomatch z⟩
  · exact ⟨o1, e1, fun v z => by rw [d1] at z; cases z⟩
  · exact ⟨o2, e2, fun v z => by rw [d2] at z; cases z⟩
theorem st5_keep {n a b i : Nat} {h h' : Heap} (st : St5 n a b i h) (hs : n + 5 ≤ h'.objs.size) (k : ∀ c ∈ five n, ∀ o, h.get? c = some o → h'.get? c = some o) : St5 n a b i h' := by
  obtain ⟨hz, hi, ⟨x, y, ho⟩, h1, h2, la, lb, _⟩ := st
  have m : ∀ j, j < 5 → n + j ∈ five n := fun j hj => in5 (by omega) (by omega)
  exact ⟨k _ (m 4 (by omega)) _ hz, k _ (m 2 (by omega)) _ hi, ⟨x, y, k _ (m 3 (by omega)) _ ho⟩, h1.at fun o e => k n (m 0 (by omega)) o e, h2.at fun o e => k _ (m 1 (by omega)) o e, la, lb, hs⟩
theorem size_of_get {h : Heap} {n : Nat} {o : Obj} (e : h.get? (n + 4) = some o) : n + 5 ≤ h.objs.size := Heap.lt_size e

theorem turn_TL {P : Program} {w : World} {K : PySem.W.Frag} {elts : List Expr} {kk : Nat} {tpos : Pos} {a b n : Addr} :
    Turn P w K (.Tuple elts kk tpos) (ItTL K a b) (five n) (n + 4) (St5 n a b) where
  mem := in5 (by omega) (by omega)
  obj := fun i h st c hc => st5_obj st hc
  keep := fun i h h' st k => by
    obtain ⟨o, e⟩ : ∃ o, h.get? (n + 4) = some o := ⟨_, st.1⟩
    exact st5_keep st (size_of_get (k _ (in5 (by omega) (by omega)) _ e)) k
  item := by
    intro X hP hw hK hc i pins s σ H E I hf st hg
    subst hP hw hK
    have st0 := st
    obtain ⟨hz, hi, ⟨x0, y0, ho⟩, h1, h2, la, lb, _⟩ := st
    obtain ⟨xs, ys, x, y, qx, qy, hx, hy⟩ := hg
    obtain ⟨as, rv, p, _⟩ := I.tuple qx
    obtain ⟨bs, rv2, p2, _⟩ := I.list qy
    obtain ⟨u, hu, ru⟩ := rv.get hx
    obtain ⟨u2, hu2, ru2⟩ := rv2.get hy
    have hh := I.ok.hd hc
    have hh1 : X.A.in1.handled = none := hh
    have hia : i < as.toArray.size := by
      rw [List.size_toArray]
      exact (List.getElem?_eq_some_iff.mp hu).1
    have hib : i < bs.toArray.size := by
      rw [List.size_toArray]
      exact (List.getElem?_eq_some_iff.mp hu2).1
    refine wpAny_pyNext_zipD2_item (sep5 la lb) (.tuple hh1 n a (Nat.ne_of_lt la) as.toArray) (.list hh1 (n + 1) b (apN (by omega)) bs.toArray) hz hi ho ⟨h1, p⟩ ⟨h2, p2.isList⟩ hia hib ?_
    intro x1 x2 h' tk e1 e2 z' o' g1 g2 hT hsz hk
    have eu : x1 = u := by
      have : as.toArray[i]? = some u := by simpa using hu
      exact Option.some.inj (e1.symm.trans this)
    have eu2 : x2 = u2 := by
      have : bs.toArray[i]? = some u2 := by simpa using hu2
      exact Option.some.inj (e2.symm.trans this)
    subst eu eu2
    have old : ∀ {c o}, s.heap.get? c = some o → c ≠ s.heap.objs.size := fun e => Nat.ne_of_lt (Heap.lt_size e)
    refine ⟨_, rfl, wpAny_letOwnedTupleGo_zip z' fun h3 z3 sb => ?_⟩
    have stay : ∀ c o, c ∉ five n → s.heap.get? c = some o → h3.get? c = some o := fun c o nc e =>
      (sb.2 c (fun q => nc (q ▸ in5 (by omega) (by omega)))).trans (hk c o (fun q => nc (q ▸ in5 (by omega) (by omega))) (fun q => nc (q ▸ in5 (by omega) (by omega)))
        (fun q => nc (q ▸ in5 (by omega) (by omega))) (fun q => nc (q ▸ in5 (by omega) (by omega))) e)
    have t3 : h3.get? s.heap.objs.size = some { cls := .type "tuple", data := .seq #[x1, x2] } := (sb.2 _ (old hz).symm).trans hT
    have fine : ObjOk X.prog X.w (upd H s.heap.objs.size (.tup [x, y])) h3 s.heap.objs.size (.tup [x, y]) :=
      ⟨by show 2 ≤ sizeLine; decide, [x1, x2], .cons ru (.cons ru2 .nil), ⟨_, t3, rfl, _, rfl⟩⟩
    have I3 := I.turnedNew (t' := tk) (ch := five n) stay hf (Nat.le_refl _) fine
    have sz : h3.objs.size = h'.objs.size := sb.1
    have sz2 : n + 5 ≤ s.heap.objs.size := size_of_get hz
    refine ⟨.ref s.heap.objs.size, _, I3, rfl, ⟨_, x, y, rfl, I.hok.fresh (Nat.le_refl _), rfl, fun l hl => ?_, fun l hl => ?_⟩, ⟨z3, ?_, ⟨x1, x2, ?_⟩, ?_, ?_, la, lb, ?_⟩, fun c hcm => ?_⟩
    · rw [I.tuple_inj hl qx]; exact hx
    · rw [I.list_inj hl qy]; exact hy
    · exact (sb.2 _ (apN (by omega))).trans (hk _ _ (apN (by omega)) (apN (by omega)) (apN (by omega)) (apN (by omega)) hi)
    · exact (sb.2 _ (apN (by omega))).trans o'
    · exact g1.1.at fun o q => (sb.2 _ (apN (by omega))).trans q
    · exact g2.1.at fun o q => (sb.2 _ (apN (by omega))).trans q
    · rw [sz, hsz]
      omega
    · have := (mem5 hcm).2
      rw [upd_ne (apN (by omega))]
      exact (hf c hcm).1
  done := by
    intro X hP hw hK hc i pins s σ H E I hf st hg
    subst hP hw hK
    obtain ⟨hz, hi, ⟨x0, y0, ho⟩, h1, h2, la, lb, _⟩ := st
    obtain ⟨xs, ys, qx, qy, ey, ex⟩ := hg
    obtain ⟨as, rv, p, _⟩ := I.tuple qx
    obtain ⟨bs, rv2, p2, _⟩ := I.list qy
    have l1 := rv.length
    have l2 := rv2.length
    have hh := I.ok.hd hc
    have hh1 : X.A.in1.handled = none := hh
    have sa : as.toArray.size = i := by rw [List.size_toArray]; omega
    have sb : bs.toArray.size = i := by rw [List.size_toArray]; omega
    refine wpAny_pyNext_zipD2_end (sep5 la lb) (.tuple hh1 n a (Nat.ne_of_lt la) as.toArray) (.list hh1 (n + 1) b (apN (by omega)) bs.toArray) hz hi ho ⟨h1, p⟩ ⟨h2, p2.isList⟩ (by omega) (by omega) (by omega) ?_
    intro h' tk hk
    refine ⟨rfl, I.turnedL (t' := tk) (ch := five n) (fun c o nc e => ?_) hf⟩
    exact hk c o (fun q => nc (q ▸ in5 (by omega) (by omega))) (fun q => nc (q ▸ in5 (by omega) (by omega))) (fun q => nc (q ▸ in5 (by omega) (by omega))) (fun q => nc (q ▸ in5 (by omega) (by omega))) e
  self := fun A i s Q E st h => wpAny_pyIter_zip st.1 h

def iTL (K : PySem.W.Frag) (ta : TA) : TI := fun σ H R => ta σ H fun vs H1 => ∃ a b xs ys, vs = [.ref a, .ref b] ∧ SqT K H1 a xs ∧ SqL K H1 b ys ∧ xs.length = ys.length ∧ R (ItTL K a b) H1
theorem pi_TL {X : Cx} {e e2 : Expr} {ta : TA} {p pos tpos : Pos} {elts : List Expr} {kk : Nat} (hg : Gl X "zip") (hm : X.mg "zip" = none) (ha : PA X [e, e2] ta)
    (hs : starEach [e, e2] X.env = (false, eval e X.env) :: starEach [e2] X.env := by rfl) (hpl : (backTo pos (starEach [e2] X.env)).any (·.1) = false := by rfl) :
    PI X (.Tuple elts kk tpos) (.Call (.Name "zip" p) [e, e2] [] pos) (iTL X.K ta) := by
  refine ⟨fun pins s σ H R I h => Call_ (ld_blt I hg hm PyProof.Rows.boot_zip (PyProof.Rows.callWith_type1 (thn (ha.run pos pins s σ H _ I h) ?_) hs hpl))⟩
  rintro us s1 ⟨vs, H1, J, r, a, b, xs, ys, rfl, qx, qy, hl, q⟩
  obtain ⟨u1, u2, rfl, r1, r2⟩ := vals2 r
  cases r1
  cases r2
  obtain ⟨as, rv, p1, _⟩ := J.tuple qx
  obtain ⟨bs, rv2, p2, _⟩ := J.list qy
  have la : a < s1.heap.objs.size := by
    obtain ⟨o, e, _⟩ := id p1
    exact Heap.lt_size e
  refine zip_begins2 (begins_tuple a as.toArray) (begins_list b bs.toArray) p1 p2.isList ?_
  intro h' hz hi ho g1 g2 hsz hk
  refine wpAny_pyIter_zip hz ?_
  refine ⟨s1.heap.objs.size + 4, five s1.heap.objs.size, _, _, H1, rfl, J.kept (t' := s1.toks) hk, turn_TL (a := a) (b := b), ?_, fun c hc => ?_, q⟩
  · exact ⟨hz, hi, ⟨_, _, ho⟩, ⟨_, g1, rfl, rfl⟩, ⟨_, g2, rfl, rfl⟩, la, p2.lt, by rw [hsz]; exact Nat.le_refl _⟩
  · have hle := (mem5 hc).1
    exact (J.kept (t' := s1.toks) (fun _ _ z => z)).fpOk hle (J.hok.fresh hle)
end Gd
end

section
set_option Elab.async false
set_option linter.all false
set_option maxRecDepth 100000
set_option maxHeartbeats 4000000
/-! enumerate(t), t a tuple. -/
namespace Gd
open PySem PySem.Spec PyProof.Rows L2
/-- the tuple at a, numbered -/
def ItET (K : PySem.W.Frag) (a : Addr) : It where
  go i H := ∃ (xs : List V) (x : V), SqT K H a xs ∧ xs[i]? = some x
  yld i H v H' := ∃ T x, v = .ref T ∧ H T = none ∧ H' = upd H T (.tup [.int (i : Nat), x]) ∧ ∀ xs, SqT K H a xs → xs[i]? = some x
  stop i H := ∃ xs : List V, SqT K H a xs ∧ xs.length = i
/-- its two cells, the first at n -/
def duo (n : Nat) : List Addr := [n + 1, n]
theorem mem2 {n c : Nat} (h : c ∈ duo n) : n ≤ c ∧ c < n + 2 := by
  simp only [duo, List.mem_cons, List.not_mem_nil, or_false] at h
  omega
theorem in2 {n c : Nat} (h : n ≤ c) (h' : c < n + 2) : c ∈ duo n := by
  simp only [duo, List.mem_cons, List.not_mem_nil, or_false]
  omega
def StE (n a : Nat) (i : Nat) (h : Heap) : Prop := (∃ old, IsEnum h (n + 1) n ((i : Nat) : Int) old) ∧ h.IsTupleIter n a i ∧ a < n ∧ n + 2 ≤ h.objs.size
theorem size2 {h : Heap} {n : Nat} {o : Obj} (e : h.get? (n + 1) = some o) : n + 2 ≤ h.objs.size := Heap.lt_size e
theorem turn_ET {P : Program} {w : World} {K : PySem.W.Frag} {elts : List Expr} {kk : Nat} {tpos : Pos} {a n : Addr} :
    Turn P w K (.Tuple elts kk tpos) (ItET K a) (duo n) (n + 1) (StE n a) where
  mem := in2 (by omega) (by omega)
  obj := fun i h st c hc => by
    obtain ⟨⟨old, e1⟩, ⟨o, e2, _, d2⟩, _⟩ := st
    simp only [duo, List.mem_cons, List.not_mem_nil, or_false] at hc
    rcases hc with rfl | rfl
    · exact ⟨_, e1, fun v z => nomatch z⟩
    · exact ⟨o, e2, fun v z => by rw [d2] at z; cases z⟩
  keep := fun i h h' st k => by
    obtain ⟨⟨old, e1⟩, t1, la, _⟩ := st
    have e3 := k (n + 1) (in2 (by omega) (by omega)) _ e1
    exact ⟨⟨old, e3⟩, t1.at fun o e => k n (in2 (by omega) (by omega)) o e, la, size2 e3⟩
  item := by
    intro X hP hw hK hc i pins s σ H E I hf st hg
    subst hP hw hK
    obtain ⟨⟨old, e1⟩, t1, la, sz0⟩ := st
    obtain ⟨xs, x, qx, hx⟩ := hg
    obtain ⟨as, rv, p, _⟩ := I.tuple qx
    obtain ⟨u, hu, ru⟩ := rv.get hx
    have hh1 : X.A.in1.handled = none := I.ok.hd hc
    have hia : i < as.toArray.size := by
      rw [List.size_toArray]
      exact (List.getElem?_eq_some_iff.mp hu).1
    have nin : (n + 1 : Nat) ∉ ([n, a] : List Addr) := apL (by omega) (by omega)
    refine wpAny_pyNext_enum_itemD (.tuple hh1 n a (Nat.ne_of_lt la) as.toArray) e1 ⟨t1, p⟩ hia (apN (by omega)) nin ?_
    intro y h' tk ey z' g1 hT hsz hk
    have eu : y = u := by
      have : as.toArray[i]? = some u := by simpa using hu
      exact Option.some.inj (ey.symm.trans this)
    subst eu
    refine ⟨_, rfl, wpAny_letOwnedTupleGo_enum z' fun h3 z3 sb => ?_⟩
    have old3 : ∀ {c o}, s.heap.get? c = some o → c ≠ s.heap.objs.size := fun e => Nat.ne_of_lt (Heap.lt_size e)
    have stay : ∀ c o, c ∉ duo n → s.heap.get? c = some o → h3.get? c = some o := fun c o nc e =>
      (sb.2 c (fun q => nc (q ▸ in2 (by omega) (by omega)))).trans (hk c o (fun q => nc (q ▸ in2 (by omega) (by omega))) (fun q => nc (q ▸ in2 (by omega) (by omega))) e)
    have t3 : h3.get? s.heap.objs.size = some { cls := .type "tuple", data := .seq #[.int i tk, y] } := (sb.2 _ (old3 e1).symm).trans hT
    have fine : ObjOk X.prog X.w (upd H s.heap.objs.size (.tup [.int (i : Nat), x])) h3 s.heap.objs.size (.tup [.int (i : Nat), x]) :=
      ⟨by show 2 ≤ sizeLine; decide, [.int i tk, y], .cons ⟨_, rfl⟩ (.cons ru .nil), ⟨_, t3, rfl, _, rfl⟩⟩
    have I3 := I.turnedNew (t' := tk + 1) (ch := duo n) stay hf (Nat.le_refl _) fine
    have sz : h3.objs.size = h'.objs.size := sb.1
    refine ⟨.ref s.heap.objs.size, _, I3, rfl, ⟨_, x, rfl, I.hok.fresh (Nat.le_refl _), rfl, fun l hl => ?_⟩, ⟨⟨y, ?_⟩, ?_, la, ?_⟩, fun c hcm => ?_⟩
    · rw [I.tuple_inj hl qx]; exact hx
    · rw [show ((i + 1 : Nat) : Int) = (i : Int) + 1 by omega]
      exact z3
    · exact g1.1.at fun o q => (sb.2 _ (apN (by omega))).trans q
    · rw [sz, hsz]
      omega
    · have := (mem2 hcm).2
      rw [upd_ne (apN (by omega))]
      exact (hf c hcm).1
  done := by
    intro X hP hw hK hc i pins s σ H E I hf st hg
    subst hP hw hK
    obtain ⟨⟨old, e1⟩, t1, la, sz0⟩ := st
    obtain ⟨xs, qx, ex⟩ := hg
    obtain ⟨as, rv, p, _⟩ := I.tuple qx
    have l1 := rv.length
    have hh1 : X.A.in1.handled = none := I.ok.hd hc
    have sa : as.toArray.size = i := by rw [List.size_toArray]; omega
    subst sa
    refine wpAny_pyNext_enum_endD (.tuple hh1 n a (Nat.ne_of_lt la) as.toArray) e1 ⟨t1, p⟩ ?_
    intro h' hk
    exact ⟨rfl, I.turnedL (t' := s.toks) (ch := duo n) (fun c o nc e => hk c o (fun q => nc (q ▸ in2 (by omega) (by omega))) e) hf⟩
  self := fun A i s Q E st h => by
    obtain ⟨⟨old, e1⟩, _⟩ := st
    exact wpAny_pyIter_enum e1 h

/-! making it -/
abbrev cellE (n : Nat) : Obj := { cls := .type "enumerate", data := .fields #[.none, .bool false, .ref n, rawInt 0, .none, .none] }
theorem make_ET {v : Value} {o : Obj} {Z : Heap → Prop} (B : Begins v o Z) : Meets (Builtin.«enumerate.__new__» ⟨[.type "enumerate", v], []⟩)
    (fun _ R s => Z s.heap ∧ R (.ok (.ret (.ref (s.heap.push o).objs.size))) { s with heap := (s.heap.push o).push (cellE s.heap.objs.size) }) := by
  refine .of_wp fun prog w A R s z => ?_
  obtain ⟨hp, g, d, tk, os⟩ := s
  have sub := sub_enumerate
  have go : ∀ {A' : Around} {F Q : Value → Shared → Prop}, Q (.ref hp.objs.size) ⟨hp.push o, g, d, tk, os⟩ → wpAny (model prog w) A' (pyIter v) Q F ⟨hp, g, d, tk, os⟩ := fun y => B.iter prog w _ _ ⟨hp, g, d, tk, os⟩ _ z.1 y
  wp_walk using go
  refine wpAny_stack_any fun stk => wpAny_pure ?_
  split
  · rename_i c _ _ _ _ _
    cases (c == Value.type "enumerate") <;> (wp_walk using go; exact ⟨_, rfl, z.2⟩)
  · wp_walk using go
    exact ⟨_, rfl, z.2⟩
theorem call_ET {prog : Program} {w : World} {A : Around} {G Q : Value → Shared → Prop} {s : Shared} {v : Value} {o : Obj} {Z : Heap → Prop} (B : Begins v o Z) (z : Z s.heap)
    (q : ∀ h', IsEnum h' (s.heap.objs.size + 1) s.heap.objs.size 0 .none → h'.get? s.heap.objs.size = some o → h'.objs.size = s.heap.objs.size + 2 → (∀ b o', s.heap.get? b = some o' → h'.get? b = some o') →
      Q (.ref (s.heap.objs.size + 1)) { s with heap := h' }) : wpAny (model prog w) A (call (.type "enumerate") [v]) Q G s := by
  have e1 : (s.heap.push o).objs.size = s.heap.objs.size + 1 := Heap.size_push ..
  have e2 : IsEnum ((s.heap.push o).push (cellE s.heap.objs.size)) (s.heap.objs.size + 1) s.heap.objs.size 0 .none := by
    rw [← e1]
    exact Heap.get?_push_size (s.heap.push o) (o := cellE s.heap.objs.size) rfl
  refine callType_new F.called_enumerate (by decide) (F.typeCall_enumerate_1 _) (F.newCall_enumerate_1 _) (fun obj => F.args_object_init_2 obj _) F.entry_enumerate_new (make_ET B) ⟨z, ?_⟩
  show _ ∧ _
  rw [e1]
  exact ⟨⟨_, e2, rfl⟩, q _ e2 (Heap.get?_push_of_some _ (Heap.get?_push_size _ B.free)) (by rw [Heap.size_push, e1]) fun b o' y => Heap.get?_push_of_some _ (Heap.get?_push_of_some _ y)⟩
def iET (K : PySem.W.Frag) (ta : TA) : TI := fun σ H R => ta σ H fun vs H1 => ∃ a xs, vs = [.ref a] ∧ SqT K H1 a xs ∧ R (ItET K a) H1
theorem pi_ET {X : Cx} {e : Expr} {ta : TA} {p pos tpos : Pos} {elts : List Expr} {kk : Nat} (hg : Gl X "enumerate") (hm : X.mg "enumerate" = none) (ha : PA X [e] ta) (hs : starEach [e] X.env = [(false, eval e X.env)] := by rfl) :
    PI X (.Tuple elts kk tpos) (.Call (.Name "enumerate" p) [e] [] pos) (iET X.K ta) := by
  refine ⟨fun pins s σ H R I h => Call_ (ld_blt I hg hm boot_enumerate (PyProof.Rows.callWith_type1 (thn (ha.run pos pins s σ H _ I h) ?_) hs rfl))⟩
  rintro us s1 ⟨vs, H1, J, r, a, xs, rfl, qx, q⟩
  obtain ⟨u1, rfl, r1⟩ := vals1 r
  cases r1
  obtain ⟨as, rv, p1, _⟩ := J.tuple qx
  have la : a < s1.heap.objs.size := by
    obtain ⟨o, e, _⟩ := id p1
    exact Heap.lt_size e
  refine call_ET (begins_tuple a as.toArray) p1 ?_
  intro h' he g1 hsz hk
  refine wpAny_pyIter_enum he ?_
  refine ⟨s1.heap.objs.size + 1, duo s1.heap.objs.size, _, _, H1, rfl, J.kept (t' := s1.toks) hk, turn_ET (a := a), ?_, fun c hc => ?_, q⟩
  · exact ⟨⟨_, he⟩, ⟨_, g1, rfl, rfl⟩, la, by rw [hsz]; exact Nat.le_refl _⟩
  · have hle := (mem2 hc).1
    exact (J.kept (t' := s1.toks) (fun _ _ z => z)).fpOk hle (J.hok.fresh hle)
theorem walk_ET {K : PySem.W.Frag} {a : Addr} {xs : List V} : Walk (ItET K a) xs.length (fun H => SqT K H a xs) (YPair (fun i => some (.int (i : Nat))) (fun i => xs[i]?)) := by
  refine ⟨fun i _ hi q => ⟨xs, xs[i], q, by simp [hi]⟩, fun _ q => ⟨xs, q, rfl⟩, fun i H v H' _ q y => ?_⟩
  obtain ⟨T, x, h1, h2, h3, h4⟩ := y
  exact ⟨T, .int (i : Nat), x, h1, h2, h3, rfl, h4 xs q⟩
/-! is a truth, of a truth or None -/
theorem op_is_fl {X : Cx} : OpR X (compareOp .Is) (fun x y H Q => ∃ b, y = .bl b ∧ ((∃ a, x = .bl a ∧ Q (.bl (decide (a = b))) H) ∨ (x = .non ∧ Q (.bl false) H))) := by
  intro pins s σ H x y v u Q I rx ry h
  obtain ⟨b, rfl, ⟨a, rfl, q⟩ | ⟨rfl, q⟩⟩ := h
  · exact op_is_bl pins s σ H _ _ v u Q I rx ry ⟨a, b, rfl, rfl, q⟩
  · cases rx
    cases (show u = Value.bool b from ry)
    exact wpAny_is_other rfl (fun z => nomatch z) ⟨.bl false, H, I, rfl, q⟩
theorem op_isnot_fl {X : Cx} : OpR X (compareOp .IsNot) (fun x y H Q => ∃ b, y = .bl b ∧ ((∃ a, x = .bl a ∧ Q (.bl (!decide (a = b))) H) ∨ (x = .non ∧ Q (.bl true) H))) := by
  intro pins s σ H x y v u Q I rx ry h
  obtain ⟨b, rfl, ⟨a, rfl, q⟩ | ⟨rfl, q⟩⟩ := h
  · exact op_isnot_bl pins s σ H _ _ v u Q I rx ry ⟨a, b, rfl, rfl, q⟩
  · cases rx
    cases (show u = Value.bool b from ry)
    exact wpAny_isNot_other rfl (fun z => nomatch z) ⟨.bl true, H, I, rfl, q⟩
end Gd
end

section
set_option Elab.async false
set_option linter.all false
set_option maxRecDepth 100000
set_option maxHeartbeats 4000000
/-! sorted(xs) of data of one form: tuples of texts, numbers, within tuples. -/
namespace Gd
open PySem PySem.Spec PyProof.Rows L2 PySem.W
def RD (K : PySem.W.Frag) (H : Hp) (u : Value) (d : PyData) : Prop := ∃ x, RelV x u ∧ Dp K H x d
section
variable {K : PySem.W.Frag} {H : Hp}
theorem each_of : ∀ {xs : List V} {us : List Value} {ds : List PyData}, Vals xs us → DpAll K H xs ds → EachIs (RD K H) us ds
  | _, _, _, .nil, h => by
    cases h
    exact .nil
  | _, _, _, .cons r rs, h => by
    cases h with
    | cons a b => exact .cons ⟨_, r, a⟩ (each_of rs b)
theorem of_each : ∀ {us : List Value} {ds : List PyData}, EachIs (RD K H) us ds → ∃ xs, Vals xs us ∧ DpAll K H xs ds
  | _, _, .nil => ⟨[], .nil, .nil⟩
  | _, _, .cons ⟨x, r, a⟩ h => by
    obtain ⟨xs, rs, b⟩ := of_each h
    exact ⟨x :: xs, .cons r rs, .cons a b⟩
end
/-- the order in which sorted tells -/
def told (ds : List PyData) : List PyData := ds.mergeSort (dataLe false id)
def rSortD (K : PySem.W.Frag) : List V → Hp → VK → Prop := fun xs H Q => ∃ (a : Addr) (vs : List V) (ds : List PyData), xs = [.ref a] ∧ SqL K H a vs ∧ DpAll K H vs ds ∧ AllAlike ds ∧ Sortable ds ∧ ds.length ≤ 1000 ∧ (∀ d ∈ ds, d.depth ≤ 50) ∧
  ∀ (us : List V) (p : Addr), H p = none → DpAll K H us (told ds) → Q (.ref p) (upd H p (.lst us))
theorem call_sortedD {X : Cx} (hu : X.A.units + 64 < cLine) : CallR X (.builtin "sorted") (rSortD X.K) := by
  intro pins s σ H xs us Q I r h
  obtain ⟨a, vs, ds, rfl, hs, hA, al, so, hz, hd, q⟩ := h
  obtain ⟨u, rfl, ru⟩ := r.one
  cases ru
  obtain ⟨its, rv, hl, _⟩ := I.list hs
  have e := each_of rv hA
  have er : EachIs (fun v b => ∃ as, Reads s.heap v (id b) as) its ds := e.mono fun v d ⟨x, r1, r2⟩ => Dp.reads I d x v r2 r1
  have zl : sizeLine = 16777216 := rfl
  refine sorted_data (enc := id) hl.isList e er (by rw [List.map_id]; exact al) (by rw [List.map_id]; exact so) (by omega) (fun b hb => ?_) fun out hlen eo => ?_
  · have := hd b hb
    show X.A.units + 2 + b.depth < cLine
    omega
  · obtain ⟨ws, r2, A2⟩ := of_each eo
    obtain ⟨ep, he⟩ := sortedAll_at s.heap its (List.toArray out)
    have hw : ws.length ≤ sizeLine := by
      have := r2.length
      omega
    exact ⟨.ref _, upd H (s.heap.objs.size + 1) (.lst ws), I.laid (t' := s.toks) (fun _ _ => sortedAll_old) (Nat.le_succ _) ⟨hw, out, ep, r2, he⟩, rfl, q ws _ (I.hok.fresh (Nat.le_succ _)) A2⟩
end Gd
end

section
set_option Elab.async false
set_option linter.all false
set_option maxRecDepth 100000
set_option maxHeartbeats 4000000
/-! permutations(xs): what is known of the class. -/
namespace Pm
open PySem PySem.Spec PyProof.Rows L2
theorem own : Manifest.owners.lookup (String.ofList ['s', 'n', 'o', 'i', 't', 'a', 't', 'u', 'm', 'r', 'e', 'p', '.', 's', 'l', 'o', 'o', 't', 'r', 'e', 't', 'i'].reverse) = some Manifest.sig_itertools_permutations := by kernel_rfl
theorem next_slot : Slot "itertools.permutations" "__next__" "itertools.permutations.__next__" := .of (owner := "itertools.permutations") (n := "__next__") (by rw [typeLookup_type, builtinLookup_eq_fast]; kernel_rfl) (by decide +kernel) (by decide +kernel) (by decide +kernel) (.inl (by decide +kernel)) (by rw [isSubtype_type]; kernel_rfl)
theorem next_entry : entryFor table "itertools.permutations.__next__" = some Builtin.«itertools.permutations.__next__» := entryFor_of_tree (by kernel_rfl)
theorem next_args (a : Value) : argsOk "itertools.permutations.__next__" ⟨[a], []⟩ := by unfold argsOk; rw [signature?_of (id := "itertools.permutations.__next__") (n := ['_', '_', 't', 'x', 'e', 'n', '_', '_']) (o := ['s', 'n', 'o', 'i', 't', 'a', 't', 'u', 'm', 'r', 'e', 'p', '.', 's', 'l', 'o', 'o', 't', 'r', 'e', 't', 'i']) (by kernel_rfl) own]; kernel_rfl
theorem new_entry : entryFor table "itertools.permutations.__new__" = some Builtin.«itertools.permutations.__new__» := entryFor_of_tree (by kernel_rfl)
theorem new_type (a : Value) : checkTypeCall "itertools.permutations" ⟨[a], []⟩ = pure () := by kernel_rfl
theorem new_call (a : Value) : checkBuiltinCall "itertools.permutations.__new__" ⟨[.type "itertools.permutations", a], []⟩ = pure () := by kernel_rfl
theorem self_sub : isSubtype (.type "itertools.permutations") (.type "itertools.permutations") = pure true := by rw [isSubtype_type]; kernel_rfl
theorem iter_entry : entryFor table "itertools.permutations.__iter__" = some Builtin.«dict_keyiterator.__iter__» := entryFor_alias (id' := "dict_keyiterator.__iter__") (by kernel_rfl) (by decide +kernel) (by decide +kernel) (by kernel_rfl)
theorem iter_slot : Slot "itertools.permutations" "__iter__" "itertools.permutations.__iter__" := .of (owner := "itertools.permutations") (n := "__iter__") (by rw [typeLookup_type, builtinLookup_eq_fast]; kernel_rfl) (by decide +kernel) (by decide +kernel) (by decide +kernel) (.inl (by decide +kernel)) (by rw [isSubtype_type]; kernel_rfl)
theorem iter_args (a : Value) : argsOk "itertools.permutations.__iter__" ⟨[a], []⟩ := by unfold argsOk; rw [signature?_of (id := "itertools.permutations.__iter__") (n := ['_', '_', 'r', 'e', 't', 'i', '_', '_']) (o := ['s', 'n', 'o', 'i', 't', 'a', 't', 'u', 'm', 'r', 'e', 'p', '.', 's', 'l', 'o', 'o', 't', 'r', 'e', 't', 'i']) (by kernel_rfl) own]; kernel_rfl
theorem init_slot : Slot "itertools.permutations" "__init__" "object.__init__" := .of (owner := "object") (n := "__init__") (by rw [typeLookup_type, builtinLookup_eq_fast]; kernel_rfl) (by decide +kernel) (by decide +kernel) (by decide +kernel) (.inl (by decide +kernel)) (by rw [isSubtype_type]; kernel_rfl)
theorem mro : mroOf (.type "itertools.permutations") = pure [.type "itertools.permutations", .type "object"] := by rw [mroOf_type]; kernel_rfl
theorem new_look : typeLookup (.type "itertools.permutations") "__new__" = pure (some (.builtin "itertools.permutations.__new__")) := by rw [typeLookup_type, builtinLookup_eq_fast]; kernel_rfl
theorem called : TypeCalled "itertools.permutations" "itertools.permutations.__new__" "object.__init__" := ⟨by decide +kernel, by decide +kernel, ⟨_, _, mro⟩, madeBy_type mro new_look (by decide +kernel), by decide +kernel, by rw [isSubtype_type]; kernel_rfl, init_slot⟩
end Pm
end

section
set_option Elab.async false
set_option linter.all false
set_option maxRecDepth 100000
set_option maxHeartbeats 4000000
namespace Pm
open PySem PySem.Spec PyProof.Rows L2
abbrev cellP (b : Addr) (st n : Int) (last : Value) (ks : List Nat) : Obj :=
  { cls := .type "itertools.permutations", data := .fields (Value.ref b :: rawInt st :: rawInt n :: last :: ks.map fun (k : Nat) => rawInt (k : Int)).toArray }
theorem nums_back : ∀ ks : List Nat, (ks.map fun (k : Nat) => rawInt (k : Int)).map (fun | .int n _ => n.toNat | _ => 0) = ks
  | [] => rfl
  | k :: ks => by
    rw [List.map_cons, List.map_cons, nums_back ks]
    rfl
section
variable {prog : Program} {w : World} {A : Around} {E : Value → Shared → Prop} {s : Shared}
theorem int_field {M : Model} {a : Addr} {o : Obj} {vs : Array Value} {i : Nat} {v : Int} {Q : Int → Shared → Prop} (ho : s.heap.get? a = some o) (hd : o.data = .fields vs) (hv : vs[i]? = some (rawInt v)) (h : Q v s) :
    wpAny M A (Builtin.Itertools.itIntField (.ref a) i) Q E s :=
  wpAny_bind (wpAny_field ho hd (x := rawInt v) hv (wpAny_pure h))
theorem nums_from {M : Model} {a b : Addr} {st n : Int} {last : Value} {ks : List Nat} {Q : List Nat → Shared → Prop} (ho : s.heap.get? a = some (cellP b st n last ks)) (h : Q ks s) :
    wpAny M A (Builtin.Itertools.itNumbersFrom (.ref a) 4) Q E s := by
  refine wpAny_bind (wpAny_load ho (wpAny_pure ?_))
  have e : ((ks.map fun (k : Nat) => rawInt (k : Int)).map (fun | .int n _ => n.toNat | _ => 0)) = ks := nums_back ks
  exact e.symm ▸ h
theorem set1 {b : Addr} {st x n : Int} {last : Value} {ks : List Nat} : Obj.mapFields (·.setIfInBounds 1 (rawInt x)) (cellP b st n last ks) = cellP b x n last ks := by
  simp [Obj.mapFields, cellP]
theorem set3 {b : Addr} {st n : Int} {last x : Value} {ks : List Nat} : Obj.mapFields (·.setIfInBounds 3 x) (cellP b st n last ks) = cellP b st n x ks := by
  simp [Obj.mapFields, cellP]
/-- the tuple that is told -/
theorem tell {a b : Addr} {st n : Int} {last : Value} {ks : List Nat} {vs : List Value} {Q : Value → Shared → Prop} (ha : s.heap.get? a = some (cellP b st n last ks)) (hz : vs.length ≤ 1000)
    (h : ∀ h', h'.get? a = some (cellP b st n (.ref s.heap.objs.size) ks) → h'.get? s.heap.objs.size = some { cls := .type "tuple", data := .seq vs.toArray } → h'.objs.size = s.heap.objs.size + 1 →
      (∀ c o, c ≠ a → s.heap.get? c = some o → h'.get? c = some o) → Q (.ref s.heap.objs.size) { s with heap := h' }) :
    wpAny (model prog w) A (do
      let t ← newTuple vs
      let before ← field (.ref a) 3
      setField (.ref a) 3 t
      letGo [before] [t]
      ret t) (fun fin s' => ∃ v, fin = Fin.done (Flow.ret v) ∧ Q v s') E s := by
  have zl : sizeLine = 16777216 := rfl
  refine wpAny_bind (m := newTuple _) (wpAny_newObj_type ?_ (by show vs.toArray.size ≤ sizeLine; rw [List.size_toArray]; omega))
  have g1 := Heap.get?_push_of_some { cls := .type "tuple", data := .seq vs.toArray } ha
  refine wpAny_bind (wpAny_field g1 rfl (x := last) rfl ?_)
  refine wpAny_bind (wpAny_setField g1 rfl (by simp) ?_)
  refine wpAny_bind (wpAny_letGo (wpAny_pure ⟨_, rfl, h _ ?_ ?_ ?_ ?_⟩))
  · rw [Heap.get?_update_self _ g1 rfl, set3]
  · rw [(Heap.SameBut.update ..).2 _ (Nat.ne_of_gt (Heap.lt_size ha))]
    exact Heap.get?_push_size _ rfl
  · rw [Heap.size_after_update, Heap.size_push]
  · intro c o hc e
    rw [(Heap.SameBut.update ..).2 _ hc]
    exact Heap.get?_push_of_some _ e
theorem next0 {a b : Addr} {n : Nat} {ks : List Nat} {items : Array Value} {c0 : Nat} {Q : Value → Shared → Prop} (ha : s.heap.get? a = some (cellP b 0 n .none ks)) (hb : s.heap.get? b = some { cls := .type "tuple", data := .seq items c0 })
    (hn : ks.length ≤ 1000) (h : ∀ h', h'.get? a = some (cellP b 1 n (.ref s.heap.objs.size) ks) → h'.get? s.heap.objs.size = some { cls := .type "tuple", data := .seq ((ks.take n).map fun i => items.getD i .none).toArray } → h'.objs.size = s.heap.objs.size + 1 →
      (∀ c o, c ≠ a → s.heap.get? c = some o → h'.get? c = some o) → Q (.ref s.heap.objs.size) { s with heap := h' }) : wpAny (model prog w) A (call (.builtin "itertools.permutations.__next__") [.ref a]) Q E s := by
  have hT : s.TypeIs (.ref a) "itertools.permutations" := ⟨_, ha, rfl⟩
  refine wpAny_call_entry next_slot hT next_entry ?_ (next_args _)
  show wpAny _ _ (field (.ref a) 0 >>= _) _ _ s
  refine wpAny_bind (wpAny_field ha rfl (x := .ref b) rfl ?_)
  refine wpAny_bind (m := Builtin.Itertools.itPoolItems _) (wpAny_bind (wpAny_seqItems hb rfl (wpAny_pure ?_)))
  refine wpAny_bind (int_field ha rfl (v := n) rfl ?_)
  refine wpAny_bind (nums_from ha ?_)
  refine wpAny_bind (int_field ha rfl (v := 0) rfl ?_)
  show wpAny _ _ (setField (.ref a) 1 (rawInt 1) >>= _) _ _ s
  have la : (Value.ref b :: rawInt 0 :: rawInt n :: Value.none :: ks.map fun (k : Nat) => rawInt (k : Int)).toArray.size = ks.length + 4 := by simp
  refine wpAny_bind (wpAny_setField ha rfl (by rw [la]; omega) ?_)
  have g0 := Heap.get?_update_self (Obj.mapFields (·.setIfInBounds 1 (rawInt 1))) ha rfl
  rw [set1] at g0
  refine tell (vs := (ks.take n).map fun i => items.getD i .none) g0 (by rw [List.length_map, List.length_take]; omega) ?_
  intro h' q1 q2 q3 q4
  rw [Heap.size_after_update] at q1 q2 q3
  have z := h h' q1 q2 q3 fun c o hc e => q4 c o hc (by rw [(Heap.SameBut.update ..).2 _ hc]; exact e)
  show Q (.ref (s.heap.update a _).objs.size) _
  rw [Heap.size_after_update]
  exact z
theorem setN {b : Addr} {st n : Int} {last : Value} {ks js : List Nat} : Obj.mapFields (fun fs => fs.extract 0 4 ++ (js.map fun (n : Nat) => rawInt n).toArray) (cellP b st n last ks) = cellP b st n last js := by
  simp [Obj.mapFields, cellP]
theorem set_nums {M : Model} {a b : Addr} {st n : Int} {last : Value} {ks js : List Nat} {Q : Unit → Shared → Prop} (ha : s.heap.get? a = some (cellP b st n last ks)) (hz : js.length ≤ 1000)
    (h : ∀ h', h'.get? a = some (cellP b st n last js) → h'.objs.size = s.heap.objs.size → (∀ c, c ≠ a → h'.get? c = s.heap.get? c) → Q () { s with heap := h' }) : wpAny M A (Builtin.Itertools.itSetNumbersFrom (.ref a) 4 js) Q E s := by
  have zl : sizeLine = 16777216 := rfl
  refine wpAny_updateFields ha rfl (h _ ?_ (Heap.size_after_update ..) fun c hc => (Heap.SameBut.update ..).2 _ hc) ?_
  · rw [Heap.get?_update_self _ ha rfl, setN]
  · simp
    omega
/-- it has ended -/
theorem stop {B : Around} {F : Value → Shared → Prop} {α : Type} {Q : α → Shared → Prop} (hh : B.handled = none)
    (h : ∀ (e : Addr) (h' : Heap) (o : Obj), h'.get? e = some o → o.cls = .type "StopIteration" → (∀ c o, s.heap.get? c = some o → h'.get? c = some o) → F (.ref e) { s with heap := h' }) :
    wpAny (model prog w) B (Builtin.Itertools.itStop : Sem α) Q F s := by
  show wpAny _ B (newExc (.type "StopIteration") [] >>= raiseNew) Q F s
  unfold newExc newTuple
  refine wpAny_bind (wpAny_bind (wpAny_newObj_type ?_ (by show 0 ≤ sizeLine; decide)))
  refine wpAny_bind (m := firstArgMember _ _) (wpAny_of_eq (a := Value.none) rfl ?_)
  refine wpAny_newObj_type ?_ (by size_fits)
  unfold raiseNew
  refine wpAny_bind (wpAny_handled ?_)
  rw [hh]
  refine wpAny_bind (wpAny_pure (wpAny_throw (h _ _ _ (Heap.get?_push_size _ rfl) rfl fun c o e => ?_)))
  exact Heap.get?_push_of_some _ (Heap.get?_push_of_some _ e)
theorem next_2_0 {a b : Addr} {u0 u1 last : Value} {c0 : Nat} {Q : Value → Shared → Prop} (ha : s.heap.get? a = some (cellP b 1 2 last [0, 1, 2, 1])) (hb : s.heap.get? b = some { cls := .type "tuple", data := .seq #[u0, u1] c0 })
    (h : ∀ h', h'.get? a = some (cellP b 1 2 (.ref s.heap.objs.size) [1, 0, 1, 1]) → h'.get? s.heap.objs.size = some { cls := .type "tuple", data := .seq #[u1, u0] } → h'.objs.size = s.heap.objs.size + 1 →
      (∀ c o, c ≠ a → s.heap.get? c = some o → h'.get? c = some o) → Q (.ref s.heap.objs.size) { s with heap := h' }) : wpAny (model prog w) A (call (.builtin "itertools.permutations.__next__") [.ref a]) Q E s := by
  have hT : s.TypeIs (.ref a) "itertools.permutations" := ⟨_, ha, rfl⟩
  refine wpAny_call_entry next_slot hT next_entry ?_ (next_args _)
  show wpAny _ _ (field (.ref a) 0 >>= _) _ _ s
  refine wpAny_bind (wpAny_field ha rfl (x := .ref b) rfl ?_)
  refine wpAny_bind (m := Builtin.Itertools.itPoolItems _) (wpAny_bind (wpAny_seqItems hb rfl (wpAny_pure ?_)))
  refine wpAny_bind (int_field ha rfl (v := 2) rfl ?_)
  refine wpAny_bind (nums_from ha ?_)
  refine wpAny_bind (int_field ha rfl (v := 1) rfl ?_)
  show wpAny _ _ (Builtin.Itertools.itSetNumbersFrom (.ref a) 4 [1, 0, 1, 1] >>= _) _ _ s
  refine wpAny_bind (set_nums ha (by decide) fun h1 g1 z1 k1 => ?_)
  refine tell (s := { s with heap := h1 }) (vs := [u1, u0]) g1 (by show 2 ≤ 1000; decide) fun h' q1 q2 q3 q4 => ?_
  have z1 : h1.objs.size = s.heap.objs.size := z1
  rw [z1] at q1 q2 q3
  have y := h h' q1 q2 q3 fun c o hc e => q4 c o hc (by rw [show h1.get? c = s.heap.get? c from k1 c hc]; exact e)
  show Q (.ref h1.objs.size) _
  rw [z1]
  exact y
theorem next_3_0 {a b : Addr} {u0 u1 u2 last : Value} {c0 : Nat} {Q : Value → Shared → Prop} (ha : s.heap.get? a = some (cellP b 1 3 last [0, 1, 2, 3, 2, 1])) (hb : s.heap.get? b = some { cls := .type "tuple", data := .seq #[u0, u1, u2] c0 })
    (h : ∀ h', h'.get? a = some (cellP b 1 3 (.ref s.heap.objs.size) [0, 2, 1, 3, 1, 1]) → h'.get? s.heap.objs.size = some { cls := .type "tuple", data := .seq #[u0, u2, u1] } → h'.objs.size = s.heap.objs.size + 1 →
      (∀ c o, c ≠ a → s.heap.get? c = some o → h'.get? c = some o) → Q (.ref s.heap.objs.size) { s with heap := h' }) : wpAny (model prog w) A (call (.builtin "itertools.permutations.__next__") [.ref a]) Q E s := by
  have hT : s.TypeIs (.ref a) "itertools.permutations" := ⟨_, ha, rfl⟩
  refine wpAny_call_entry next_slot hT next_entry ?_ (next_args _)
  show wpAny _ _ (field (.ref a) 0 >>= _) _ _ s
  refine wpAny_bind (wpAny_field ha rfl (x := .ref b) rfl ?_)
  refine wpAny_bind (m := Builtin.Itertools.itPoolItems _) (wpAny_bind (wpAny_seqItems hb rfl (wpAny_pure ?_)))
  refine wpAny_bind (int_field ha rfl (v := 3) rfl ?_)
  refine wpAny_bind (nums_from ha ?_)
  refine wpAny_bind (int_field ha rfl (v := 1) rfl ?_)
  show wpAny _ _ (Builtin.Itertools.itSetNumbersFrom (.ref a) 4 [0, 2, 1, 3, 1, 1] >>= _) _ _ s
  refine wpAny_bind (set_nums ha (by decide) fun h1 g1 z1 k1 => ?_)
  refine tell (s := { s with heap := h1 }) (vs := [u0, u2, u1]) g1 (by show 3 ≤ 1000; decide) fun h' q1 q2 q3 q4 => ?_
  have z1 : h1.objs.size = s.heap.objs.size := z1
  rw [z1] at q1 q2 q3
  have y := h h' q1 q2 q3 fun c o hc e => q4 c o hc (by rw [show h1.get? c = s.heap.get? c from k1 c hc]; exact e)
  show Q (.ref h1.objs.size) _
  rw [z1]
  exact y
theorem next_3_1 {a b : Addr} {u0 u1 u2 last : Value} {c0 : Nat} {Q : Value → Shared → Prop} (ha : s.heap.get? a = some (cellP b 1 3 last [0, 2, 1, 3, 1, 1])) (hb : s.heap.get? b = some { cls := .type "tuple", data := .seq #[u0, u1, u2] c0 })
    (h : ∀ h', h'.get? a = some (cellP b 1 3 (.ref s.heap.objs.size) [1, 0, 2, 2, 2, 1]) → h'.get? s.heap.objs.size = some { cls := .type "tuple", data := .seq #[u1, u0, u2] } → h'.objs.size = s.heap.objs.size + 1 →
      (∀ c o, c ≠ a → s.heap.get? c = some o → h'.get? c = some o) → Q (.ref s.heap.objs.size) { s with heap := h' }) : wpAny (model prog w) A (call (.builtin "itertools.permutations.__next__") [.ref a]) Q E s := by
  have hT : s.TypeIs (.ref a) "itertools.permutations" := ⟨_, ha, rfl⟩
  refine wpAny_call_entry next_slot hT next_entry ?_ (next_args _)
  show wpAny _ _ (field (.ref a) 0 >>= _) _ _ s
  refine wpAny_bind (wpAny_field ha rfl (x := .ref b) rfl ?_)
  refine wpAny_bind (m := Builtin.Itertools.itPoolItems _) (wpAny_bind (wpAny_seqItems hb rfl (wpAny_pure ?_)))
  refine wpAny_bind (int_field ha rfl (v := 3) rfl ?_)
  refine wpAny_bind (nums_from ha ?_)
  refine wpAny_bind (int_field ha rfl (v := 1) rfl ?_)
  show wpAny _ _ (Builtin.Itertools.itSetNumbersFrom (.ref a) 4 [1, 0, 2, 2, 2, 1] >>= _) _ _ s
  refine wpAny_bind (set_nums ha (by decide) fun h1 g1 z1 k1 => ?_)
  refine tell (s := { s with heap := h1 }) (vs := [u1, u0, u2]) g1 (by show 3 ≤ 1000; decide) fun h' q1 q2 q3 q4 => ?_
  have z1 : h1.objs.size = s.heap.objs.size := z1
  rw [z1] at q1 q2 q3
  have y := h h' q1 q2 q3 fun c o hc e => q4 c o hc (by rw [show h1.get? c = s.heap.get? c from k1 c hc]; exact e)
  show Q (.ref h1.objs.size) _
  rw [z1]
  exact y
theorem next_3_2 {a b : Addr} {u0 u1 u2 last : Value} {c0 : Nat} {Q : Value → Shared → Prop} (ha : s.heap.get? a = some (cellP b 1 3 last [1, 0, 2, 2, 2, 1])) (hb : s.heap.get? b = some { cls := .type "tuple", data := .seq #[u0, u1, u2] c0 })
    (h : ∀ h', h'.get? a = some (cellP b 1 3 (.ref s.heap.objs.size) [1, 2, 0, 2, 1, 1]) → h'.get? s.heap.objs.size = some { cls := .type "tuple", data := .seq #[u1, u2, u0] } → h'.objs.size = s.heap.objs.size + 1 →
      (∀ c o, c ≠ a → s.heap.get? c = some o → h'.get? c = some o) → Q (.ref s.heap.objs.size) { s with heap := h' }) : wpAny (model prog w) A (call (.builtin "itertools.permutations.__next__") [.ref a]) Q E s := by
  have hT : s.TypeIs (.ref a) "itertools.permutations" := ⟨_, ha, rfl⟩
  refine wpAny_call_entry next_slot hT next_entry ?_ (next_args _)
  show wpAny _ _ (field (.ref a) 0 >>= _) _ _ s
  refine wpAny_bind (wpAny_field ha rfl (x := .ref b) rfl ?_)
  refine wpAny_bind (m := Builtin.Itertools.itPoolItems _) (wpAny_bind (wpAny_seqItems hb rfl (wpAny_pure ?_)))
  refine wpAny_bind (int_field ha rfl (v := 3) rfl ?_)
  refine wpAny_bind (nums_from ha ?_)
  refine wpAny_bind (int_field ha rfl (v := 1) rfl ?_)
  show wpAny _ _ (Builtin.Itertools.itSetNumbersFrom (.ref a) 4 [1, 2, 0, 2, 1, 1] >>= _) _ _ s
  refine wpAny_bind (set_nums ha (by decide) fun h1 g1 z1 k1 => ?_)
  refine tell (s := { s with heap := h1 }) (vs := [u1, u2, u0]) g1 (by show 3 ≤ 1000; decide) fun h' q1 q2 q3 q4 => ?_
  have z1 : h1.objs.size = s.heap.objs.size := z1
  rw [z1] at q1 q2 q3
  have y := h h' q1 q2 q3 fun c o hc e => q4 c o hc (by rw [show h1.get? c = s.heap.get? c from k1 c hc]; exact e)
  show Q (.ref h1.objs.size) _
  rw [z1]
  exact y
theorem next_3_3 {a b : Addr} {u0 u1 u2 last : Value} {c0 : Nat} {Q : Value → Shared → Prop} (ha : s.heap.get? a = some (cellP b 1 3 last [1, 2, 0, 2, 1, 1])) (hb : s.heap.get? b = some { cls := .type "tuple", data := .seq #[u0, u1, u2] c0 })
    (h : ∀ h', h'.get? a = some (cellP b 1 3 (.ref s.heap.objs.size) [2, 0, 1, 1, 2, 1]) → h'.get? s.heap.objs.size = some { cls := .type "tuple", data := .seq #[u2, u0, u1] } → h'.objs.size = s.heap.objs.size + 1 →
      (∀ c o, c ≠ a → s.heap.get? c = some o → h'.get? c = some o) → Q (.ref s.heap.objs.size) { s with heap := h' }) : wpAny (model prog w) A (call (.builtin "itertools.permutations.__next__") [.ref a]) Q E s := by
  have hT : s.TypeIs (.ref a) "itertools.permutations" := ⟨_, ha, rfl⟩
  refine wpAny_call_entry next_slot hT next_entry ?_ (next_args _)
  show wpAny _ _ (field (.ref a) 0 >>= _) _ _ s
  refine wpAny_bind (wpAny_field ha rfl (x := .ref b) rfl ?_)
  refine wpAny_bind (m := Builtin.Itertools.itPoolItems _) (wpAny_bind (wpAny_seqItems hb rfl (wpAny_pure ?_)))
  refine wpAny_bind (int_field ha rfl (v := 3) rfl ?_)
  refine wpAny_bind (nums_from ha ?_)
  refine wpAny_bind (int_field ha rfl (v := 1) rfl ?_)
  show wpAny _ _ (Builtin.Itertools.itSetNumbersFrom (.ref a) 4 [2, 0, 1, 1, 2, 1] >>= _) _ _ s
  refine wpAny_bind (set_nums ha (by decide) fun h1 g1 z1 k1 => ?_)
  refine tell (s := { s with heap := h1 }) (vs := [u2, u0, u1]) g1 (by show 3 ≤ 1000; decide) fun h' q1 q2 q3 q4 => ?_
  have z1 : h1.objs.size = s.heap.objs.size := z1
  rw [z1] at q1 q2 q3
  have y := h h' q1 q2 q3 fun c o hc e => q4 c o hc (by rw [show h1.get? c = s.heap.get? c from k1 c hc]; exact e)
  show Q (.ref h1.objs.size) _
  rw [z1]
  exact y
theorem next_3_4 {a b : Addr} {u0 u1 u2 last : Value} {c0 : Nat} {Q : Value → Shared → Prop} (ha : s.heap.get? a = some (cellP b 1 3 last [2, 0, 1, 1, 2, 1])) (hb : s.heap.get? b = some { cls := .type "tuple", data := .seq #[u0, u1, u2] c0 })
    (h : ∀ h', h'.get? a = some (cellP b 1 3 (.ref s.heap.objs.size) [2, 1, 0, 1, 1, 1]) → h'.get? s.heap.objs.size = some { cls := .type "tuple", data := .seq #[u2, u1, u0] } → h'.objs.size = s.heap.objs.size + 1 →
      (∀ c o, c ≠ a → s.heap.get? c = some o → h'.get? c = some o) → Q (.ref s.heap.objs.size) { s with heap := h' }) : wpAny (model prog w) A (call (.builtin "itertools.permutations.__next__") [.ref a]) Q E s := by
  have hT : s.TypeIs (.ref a) "itertools.permutations" := ⟨_, ha, rfl⟩
  refine wpAny_call_entry next_slot hT next_entry ?_ (next_args _)
  show wpAny _ _ (field (.ref a) 0 >>= _) _ _ s
  refine wpAny_bind (wpAny_field ha rfl (x := .ref b) rfl ?_)
  refine wpAny_bind (m := Builtin.Itertools.itPoolItems _) (wpAny_bind (wpAny_seqItems hb rfl (wpAny_pure ?_)))
  refine wpAny_bind (int_field ha rfl (v := 3) rfl ?_)
  refine wpAny_bind (nums_from ha ?_)
  refine wpAny_bind (int_field ha rfl (v := 1) rfl ?_)
  show wpAny _ _ (Builtin.Itertools.itSetNumbersFrom (.ref a) 4 [2, 1, 0, 1, 1, 1] >>= _) _ _ s
  refine wpAny_bind (set_nums ha (by decide) fun h1 g1 z1 k1 => ?_)
  refine tell (s := { s with heap := h1 }) (vs := [u2, u1, u0]) g1 (by show 3 ≤ 1000; decide) fun h' q1 q2 q3 q4 => ?_
  have z1 : h1.objs.size = s.heap.objs.size := z1
  rw [z1] at q1 q2 q3
  have y := h h' q1 q2 q3 fun c o hc e => q4 c o hc (by rw [show h1.get? c = s.heap.get? c from k1 c hc]; exact e)
  show Q (.ref h1.objs.size) _
  rw [z1]
  exact y
theorem end_1 {a b : Addr} {u0 last : Value} {c0 : Nat} {Q : Option Value → Shared → Prop} (hh : A.in1.handled = none) (ha : s.heap.get? a = some (cellP b 1 1 last [0, 1])) (hb : s.heap.get? b = some { cls := .type "tuple", data := .seq #[u0] c0 })
    (h : ∀ h', (∀ c o, c ≠ a → s.heap.get? c = some o → h'.get? c = some o) → Q none { s with heap := h' }) : wpAny (model prog w) A (pyNext (.ref a)) Q E s := by
  have hT : s.TypeIs (.ref a) "itertools.permutations" := ⟨_, ha, rfl⟩
  unfold pyNext
  refine wpAny_bind (wpAny_attempt (wpAny_callSpecial?_slot (name := Str.ofString "__next__") hT next_slot (wpAny_call_entry next_slot hT next_entry ?_ (next_args _))))
  show wpAny _ _ (field (.ref a) 0 >>= _) _ _ s
  refine wpAny_bind (wpAny_field ha rfl (x := .ref b) rfl ?_)
  refine wpAny_bind (m := Builtin.Itertools.itPoolItems _) (wpAny_bind (wpAny_seqItems hb rfl (wpAny_pure ?_)))
  refine wpAny_bind (int_field ha rfl (v := 1) rfl ?_)
  refine wpAny_bind (nums_from ha ?_)
  refine wpAny_bind (int_field ha rfl (v := 1) rfl ?_)
  show wpAny _ _ (setField (.ref a) 1 (rawInt 2) >>= _) _ _ s
  refine wpAny_bind (wpAny_setField ha rfl (by simp) (stop hh fun e h' o g1 g2 k1 => ?_))
  refine wpAny_bind (wpAny_isInstance (T := "StopIteration") (b := true) ⟨o, g1, g2⟩ isSubtype_stop ?_)
  exact wpAny_pure (h _ fun c o hc e => k1 c o (((Heap.SameBut.update s.heap a _).2 c hc).trans e))
theorem end_2 {a b : Addr} {u0 u1 last : Value} {c0 : Nat} {Q : Option Value → Shared → Prop} (hh : A.in1.handled = none) (ha : s.heap.get? a = some (cellP b 1 2 last [1, 0, 1, 1])) (hb : s.heap.get? b = some { cls := .type "tuple", data := .seq #[u0, u1] c0 })
    (h : ∀ h', (∀ c o, c ≠ a → s.heap.get? c = some o → h'.get? c = some o) → Q none { s with heap := h' }) : wpAny (model prog w) A (pyNext (.ref a)) Q E s := by
  have hT : s.TypeIs (.ref a) "itertools.permutations" := ⟨_, ha, rfl⟩
  unfold pyNext
  refine wpAny_bind (wpAny_attempt (wpAny_callSpecial?_slot (name := Str.ofString "__next__") hT next_slot (wpAny_call_entry next_slot hT next_entry ?_ (next_args _))))
  show wpAny _ _ (field (.ref a) 0 >>= _) _ _ s
  refine wpAny_bind (wpAny_field ha rfl (x := .ref b) rfl ?_)
  refine wpAny_bind (m := Builtin.Itertools.itPoolItems _) (wpAny_bind (wpAny_seqItems hb rfl (wpAny_pure ?_)))
  refine wpAny_bind (int_field ha rfl (v := 2) rfl ?_)
  refine wpAny_bind (nums_from ha ?_)
  refine wpAny_bind (int_field ha rfl (v := 1) rfl ?_)
  show wpAny _ _ (setField (.ref a) 1 (rawInt 2) >>= _) _ _ s
  refine wpAny_bind (wpAny_setField ha rfl (by simp) (stop hh fun e h' o g1 g2 k1 => ?_))
  refine wpAny_bind (wpAny_isInstance (T := "StopIteration") (b := true) ⟨o, g1, g2⟩ isSubtype_stop ?_)
  exact wpAny_pure (h _ fun c o hc e => k1 c o (((Heap.SameBut.update s.heap a _).2 c hc).trans e))
theorem end_3 {a b : Addr} {u0 u1 u2 last : Value} {c0 : Nat} {Q : Option Value → Shared → Prop} (hh : A.in1.handled = none) (ha : s.heap.get? a = some (cellP b 1 3 last [2, 1, 0, 1, 1, 1])) (hb : s.heap.get? b = some { cls := .type "tuple", data := .seq #[u0, u1, u2] c0 })
    (h : ∀ h', (∀ c o, c ≠ a → s.heap.get? c = some o → h'.get? c = some o) → Q none { s with heap := h' }) : wpAny (model prog w) A (pyNext (.ref a)) Q E s := by
  have hT : s.TypeIs (.ref a) "itertools.permutations" := ⟨_, ha, rfl⟩
  unfold pyNext
  refine wpAny_bind (wpAny_attempt (wpAny_callSpecial?_slot (name := Str.ofString "__next__") hT next_slot (wpAny_call_entry next_slot hT next_entry ?_ (next_args _))))
  show wpAny _ _ (field (.ref a) 0 >>= _) _ _ s
  refine wpAny_bind (wpAny_field ha rfl (x := .ref b) rfl ?_)
  refine wpAny_bind (m := Builtin.Itertools.itPoolItems _) (wpAny_bind (wpAny_seqItems hb rfl (wpAny_pure ?_)))
  refine wpAny_bind (int_field ha rfl (v := 3) rfl ?_)
  refine wpAny_bind (nums_from ha ?_)
  refine wpAny_bind (int_field ha rfl (v := 1) rfl ?_)
  show wpAny _ _ (setField (.ref a) 1 (rawInt 2) >>= _) _ _ s
  refine wpAny_bind (wpAny_setField ha rfl (by simp) (stop hh fun e h' o g1 g2 k1 => ?_))
  refine wpAny_bind (wpAny_isInstance (T := "StopIteration") (b := true) ⟨o, g1, g2⟩ isSubtype_stop ?_)
  exact wpAny_pure (h _ fun c o hc e => k1 c o (((Heap.SameBut.update s.heap a _).2 c hc).trans e))
end
end Pm
end

section
set_option Elab.async false
set_option linter.all false
set_option maxRecDepth 100000
set_option maxHeartbeats 4000000
namespace Pm
open PySem PySem.Spec PyProof.Rows L2
section
variable {prog : Program} {w : World} {A : Around} {E : Value → Shared → Prop} {s : Shared}
theorem class_rest {M : Model} {v : Value} {Q : Value × List Value → Shared → Prop} (h : Q (.type "itertools.permutations", [v]) s) :
    wpAny M A (Builtin.Itertools.itClassAndRest "permutations" ⟨[.type "itertools.permutations", v], []⟩) Q E s := by
  unfold Builtin.Itertools.itClassAndRest
  have sub := self_sub
  obtain ⟨hp, g, d, tk, os⟩ := s
  wp_walk
  refine wpAny_of_eq (a := true) ?_ (wpAny_pure h)
  have e : (("itertools." : String) ++ "permutations") = "itertools.permutations" := by decide +kernel
  rw [e]
  exact sub
theorem bind_named {M : Model} {v : Value} {Q : List (Option Value) → Shared → Prop} (h : Q [some v, none] s) :
    wpAny M A (Builtin.Itertools.itBindNamed "permutations" ["iterable", "r"] 1 2 [v] []) Q E s := by
  refine wpAny_of_eq ?_ h
  rfl
/-- the cells of a new one -/
theorem make {l : Addr} {vs : List Value} {n : Nat} {R : Value → Shared → Prop} (hl : s.heap.IsList l vs.toArray) (hn : vs.length = n) (h3 : n ≤ 3)
    (h : ∀ (h1 h' : Heap) (b : Addr), (∀ c o, s.heap.get? c = some o → h1.get? c = some o) → b = h1.objs.size → (∀ c o, h1.get? c = some o → h'.get? c = some o) → h'.objs.size = b + 2 → h'.get? b = some { cls := .type "tuple", data := .seq vs.toArray } → h'.get? (b + 1) = some (cellP b 0 n .none (List.range n ++ (List.range n).map fun i => n - i)) → R (.ref (b + 1)) { s with heap := h' }) :
    wpAny (model prog w) A (Builtin.«itertools.permutations.__new__» ⟨[.type "itertools.permutations", .ref l], []⟩) (fun f s' => ∃ v, f = .done (.ret v) ∧ R v s') E s := by
  unfold Builtin.«itertools.permutations.__new__»
  refine wpAny_bind (class_rest ?_)
  refine wpAny_bind (bind_named ?_)
  obtain ⟨o, ho, hc, k, hd⟩ := id hl
  refine wpAny_bind (wpAny_collect_seq l (.inl rfl) ho hc hd (fun h1 k1 => ?_) (by rw [List.size_toArray, hn]; exact Nat.le_trans h3 (by decide)))
  have e0 : vs.toArray.toList.length = n := by simpa using hn
  show wpAny _ _ (pure ((vs.toArray.toList.length : Nat) : Int) >>= _) _ _ _
  refine wpAny_bind (wpAny_pure ?_)
  rw [e0]
  dsimp only
  rw [if_neg (show ¬ ((n : Int) < 0) by omega), if_neg (show ¬ (Builtin.Itertools.itTooMany (n : Int) = true) by unfold Builtin.Itertools.itTooMany; simp; omega)]
  refine wpAny_bind (m := newTuple _) (wpAny_newObj_type ?_ ?_)
  · unfold Builtin.Itertools.itNewRecord
    have hd : (!typeHasDict (.type "itertools.permutations")) = true := by decide +kernel
    rw [if_pos hd]
    have e : ([Value.ref h1.objs.size, rawInt (if ((n : Int)).toNat > n then 2 else 0), rawInt (((n : Int).toNat : Nat) : Int), Value.none] ++ List.map (fun (i : Nat) => rawInt (i : Int)) (List.range n) ++ List.map (fun (i : Nat) => rawInt ((n : Int) - (i : Int))) (List.range (n : Int).toNat)).toArray
        = (Value.ref h1.objs.size :: rawInt 0 :: rawInt n :: Value.none :: (List.range n ++ (List.range n).map fun i => n - i).map fun (k : Nat) => rawInt (k : Int)).toArray := by
      match n, h3 with
      | 0, _ => rfl
      | 1, _ => rfl
      | 2, _ => rfl
      | 3, _ => rfl
    have z : ((h1.push { cls := .type "tuple", data := .seq vs.toArray })).objs.size = h1.objs.size + 1 := Heap.size_push ..
    refine wpAny_bind (wpAny_newObj_type (wpAny_pure ⟨_, rfl, ?_⟩) ?_)
    · dsimp only
      rw [e, z]
      refine h h1 _ _ k1 rfl (fun c o q => Heap.get?_push_of_some _ (Heap.get?_push_of_some _ q)) (by rw [Heap.size_push, z]) (Heap.get?_push_of_some _ (Heap.get?_push_size _ rfl)) ?_
      rw [← z]
      exact Heap.get?_push_size _ rfl
    · dsimp only
      rw [e]
      match n, h3 with
      | 0, _ => first | size_fits | (unfold sizeOk; show 4 ≤ _; decide)
      | 1, _ => first | size_fits | (unfold sizeOk; show 6 ≤ _; decide)
      | 2, _ => first | size_fits | (unfold sizeOk; show 8 ≤ _; decide)
      | 3, _ => first | size_fits | (unfold sizeOk; show 10 ≤ _; decide)
  · show vs.toArray.size ≤ sizeLine
    rw [List.size_toArray, hn]
    exact Nat.le_trans h3 (by decide)
theorem call_pm {l : Addr} {vs : List Value} {n : Nat} {Q : Value → Shared → Prop} (hl : s.heap.IsList l vs.toArray) (hn : vs.length = n) (h3 : n ≤ 3)
    (h : ∀ (h1 h' : Heap) (b : Addr), (∀ c o, s.heap.get? c = some o → h1.get? c = some o) → b = h1.objs.size → (∀ c o, h1.get? c = some o → h'.get? c = some o) → h'.objs.size = b + 2 → h'.get? b = some { cls := .type "tuple", data := .seq vs.toArray } →
      h'.get? (b + 1) = some (cellP b 0 n .none (List.range n ++ (List.range n).map fun i => n - i)) → Q (.ref (b + 1)) { s with heap := h' }) :
    wpAny (model prog w) A (call (.type "itertools.permutations") [.ref l]) Q E s := by
  have M : Meets (Builtin.«itertools.permutations.__new__» ⟨[.type "itertools.permutations", .ref l], []⟩) (fun _ R s0 => s0 = s ∧ ∀ (h1 h' : Heap) (b : Addr), (∀ c o, s.heap.get? c = some o → h1.get? c = some o) → b = h1.objs.size → (∀ c o, h1.get? c = some o → h'.get? c = some o) → h'.objs.size = b + 2 →
      h'.get? b = some { cls := .type "tuple", data := .seq vs.toArray } → h'.get? (b + 1) = some (cellP b 0 n .none (List.range n ++ (List.range n).map fun i => n - i)) → R (.ok (.ret (.ref (b + 1)))) { s with heap := h' }) := by
    refine .of_wp fun prog w A R s0 z => ?_
    obtain ⟨rfl, z⟩ := z
    refine make hl hn h3 fun h1 h' b a1 a2 a3 a4 a5 a6 => ?_
    exact z h1 h' b a1 a2 a3 a4 a5 a6
  refine callType_new called (by decide) (new_type _) (new_call _) (fun obj => F.args_object_init_2 obj _) new_entry M ⟨rfl, fun h1 h' b a1 a2 a3 a4 a5 a6 => ?_⟩
  show _ ∧ _
  exact ⟨⟨_, a6, rfl⟩, h h1 h' b a1 a2 a3 a4 a5 a6⟩
end
end Pm
end

section
set_option Elab.async false
set_option linter.all false
set_option maxRecDepth 100000
set_option maxHeartbeats 4000000
/-! for order in permutations(xs), xs a list of one to three ints from 0 on -/
namespace Pm
open PySem PySem.Spec PyProof.Rows L2 Gd
def perms : Nat → List (List Nat)
  | 1 => [[0]]
  | 2 => [[0, 1], [1, 0]]
  | 3 => [[0, 1, 2], [0, 2, 1], [1, 0, 2], [1, 2, 0], [2, 0, 1], [2, 1, 0]]
  | _ => []
def cycs : Nat → List (List Nat)
  | 1 => [[1]]
  | 2 => [[2, 1], [1, 1]]
  | 3 => [[3, 2, 1], [3, 1, 1], [2, 2, 1], [2, 1, 1], [1, 2, 1], [1, 1, 1]]
  | _ => []
def ksAt (n k : Nat) : List Nat := (perms n).getD k [] ++ (cycs n).getD k []
section
variable {prog : Program} {w : World} {A : Around} {E : Value → Shared → Prop} {s : Shared}
theorem call_at {n i : Nat} {a b : Addr} {items : List Value} {c0 : Nat} {last : Value} {Q : Value → Shared → Prop} (hi : i < (perms n).length) (hl : items.length = n)
    (ha : s.heap.get? a = some (cellP b (if i = 0 then 0 else 1) n (if i = 0 then .none else last) (ksAt n (i - 1)))) (hb : s.heap.get? b = some { cls := .type "tuple", data := .seq items.toArray c0 })
    (h : ∀ h', h'.get? a = some (cellP b 1 n (.ref s.heap.objs.size) (ksAt n i)) → h'.get? s.heap.objs.size = some { cls := .type "tuple", data := .seq (((perms n).getD i []).map fun k => items.getD k .none).toArray } → h'.objs.size = s.heap.objs.size + 1 →
      (∀ c o, c ≠ a → s.heap.get? c = some o → h'.get? c = some o) → Q (.ref s.heap.objs.size) { s with heap := h' }) : wpAny (model prog w) A (call (.builtin "itertools.permutations.__next__") [.ref a]) Q E s := by
  match n, items, hl, i, hi with
  | 1, [u0], _, 0, _ => exact next0 (n := 1) ha hb (by decide) h
  | 1, [u0], _, k + 1, hk => exact absurd hk (by show ¬ (k + 1 < 1); omega)
  | 2, [u0, u1], _, 0, _ => exact next0 (n := 2) ha hb (by decide) h
  | 2, [u0, u1], _, 1, _ => exact next_2_0 ha hb h
  | 2, [u0, u1], _, k + 2, hk => exact absurd hk (by show ¬ (k + 2 < 2); omega)
  | 3, [u0, u1, u2], _, 0, _ => exact next0 (n := 3) ha hb (by decide) h
  | 3, [u0, u1, u2], _, 1, _ => exact next_3_0 ha hb h
  | 3, [u0, u1, u2], _, 2, _ => exact next_3_1 ha hb h
  | 3, [u0, u1, u2], _, 3, _ => exact next_3_2 ha hb h
  | 3, [u0, u1, u2], _, 4, _ => exact next_3_3 ha hb h
  | 3, [u0, u1, u2], _, 5, _ => exact next_3_4 ha hb h
  | 3, [u0, u1, u2], _, k + 6, hk => exact absurd hk (by show ¬ (k + 6 < 6); omega)
  | 0, _, _, _, hk => exact absurd hk (Nat.not_lt_zero _)
  | _ + 4, _, _, _, hk => exact absurd hk (Nat.not_lt_zero _)
theorem end_at {n i : Nat} {a b : Addr} {items : List Value} {c0 : Nat} {last : Value} {Q : Option Value → Shared → Prop} (hh : A.in1.handled = none) (h1 : 1 ≤ n) (h3 : n ≤ 3) (hi : i = (perms n).length) (hl : items.length = n)
    (ha : s.heap.get? a = some (cellP b (if i = 0 then 0 else 1) n (if i = 0 then .none else last) (ksAt n (i - 1)))) (hb : s.heap.get? b = some { cls := .type "tuple", data := .seq items.toArray c0 })
    (h : ∀ h', (∀ c o, c ≠ a → s.heap.get? c = some o → h'.get? c = some o) → Q none { s with heap := h' }) : wpAny (model prog w) A (pyNext (.ref a)) Q E s := by
  subst hi
  match n, items, hl, h1, h3 with
  | 1, [u0], _, _, _ => exact end_1 hh ha hb h
  | 2, [u0, u1], _, _, _ => exact end_2 hh ha hb h
  | 3, [u0, u1, u2], _, _, _ => exact end_3 hh ha hb h
end
/-- the orders -/
def ItP (n : Nat) : It where
  go i _ := i < (perms n).length
  yld i H v H' := ∃ T ks, v = .ref T ∧ H T = none ∧ (perms n)[i]? = some ks ∧ H' = upd H T (.tup (ks.map fun k => V.int ((k : Nat) : Int)))
  stop i _ := i = (perms n).length
def StP (n b : Nat) (i : Nat) (h : Heap) : Prop := 1 ≤ n ∧ n ≤ 3 ∧ (∃ last, h.get? (b + 1) = some (cellP b (if i = 0 then 0 else 1) n (if i = 0 then .none else last) (ksAt n (i - 1)))) ∧
  (∃ items c0, h.get? b = some { cls := .type "tuple", data := .seq (items : List Value).toArray c0 } ∧ items.length = n ∧ ∀ k, k < n → ∃ t, items[k]? = some (.int ((k : Nat) : Int) t)) ∧ b + 2 ≤ h.objs.size
theorem told_ints {n : Nat} {items : List Value} (hi : ∀ k, k < n → ∃ t, items[k]? = some (Value.int ((k : Nat) : Int) t)) : ∀ {ks : List Nat}, (∀ k ∈ ks, k < n) → Vals (ks.map fun k => V.int ((k : Nat) : Int)) (ks.map fun k => items.getD k .none)
  | [], _ => .nil
  | k :: ks, h => by
    obtain ⟨t, e⟩ := hi k (h k (by simp))
    refine .cons ⟨t, ?_⟩ (told_ints hi fun j m => h j (by simp [m]))
    show items.getD k .none = _
    rw [List.getD_eq_getElem?_getD, e] <;> rfl
theorem perms_lt {n i : Nat} {ks : List Nat} (h : (perms n)[i]? = some ks) : (∀ k ∈ ks, k < n) ∧ ks.length = n := by
  have all : ∀ n, ∀ ks ∈ perms n, (∀ k ∈ ks, k < n) ∧ ks.length = n := fun n => by
    match n with
    | 0 => exact fun _ h => nomatch h
    | 1 => decide
    | 2 => decide
    | 3 => decide
    | _ + 4 => exact fun _ h => nomatch h
  exact all n ks (List.mem_of_getElem? h)
theorem turn_P {P : Program} {w : World} {K : PySem.W.Frag} {tg : Expr} {n b : Nat} : Turn P w K tg (ItP n) (duo b) (b + 1) (StP n b) where
  mem := in2 (by omega) (by omega)
  obj := fun i h st c hc => by
    obtain ⟨_, _, ⟨last, e1⟩, ⟨items, c0, e2, _⟩, _⟩ := st
    simp only [duo, List.mem_cons, List.not_mem_nil, or_false] at hc
    rcases hc with rfl | rfl
    · exact ⟨_, e1, fun v z => nomatch z⟩
    · exact ⟨_, e2, fun v z => nomatch z⟩
  keep := fun i h h' st k => by
    obtain ⟨n1, n3, ⟨last, e1⟩, ⟨items, c0, e2, hl, hk⟩, _⟩ := st
    have e3 := k (b + 1) (in2 (by omega) (by omega)) _ e1
    exact ⟨n1, n3, ⟨last, e3⟩, ⟨items, c0, k b (in2 (by omega) (by omega)) _ e2, hl, hk⟩, Heap.lt_size e3⟩
  item := by
    intro X hP hw hK hc i pins s σ H E I hf st hg
    subst hP hw hK
    obtain ⟨n1, n3, ⟨last, e1⟩, ⟨items, c0, e2, hl, hk⟩, sz0⟩ := st
    have hg : i < (perms n).length := hg
    have hT : s.TypeIs (.ref (b + 1)) "itertools.permutations" := ⟨_, e1, rfl⟩
    unfold pyNext
    refine wpAny_bind (wpAny_attempt (wpAny_callSpecial?_slot (name := Str.ofString "__next__") hT next_slot (call_at hg hl e1 e2 fun h' q1 q2 q3 q4 => wpAny_pure ?_)))
    refine ⟨_, rfl, go_of (n := "itertools.permutations") q1 rfl rfl (by decide) ?_⟩
    have ep : (perms n)[i]? = some ((perms n).getD i []) := by
      rw [List.getD_eq_getElem?_getD, List.getElem?_eq_getElem hg] <;> rfl
    obtain ⟨pl, pz⟩ := perms_lt ep
    have old3 : ∀ {c o}, s.heap.get? c = some o → c ≠ s.heap.objs.size := fun e => Nat.ne_of_lt (Heap.lt_size e)
    have stay : ∀ c o, c ∉ duo b → s.heap.get? c = some o → h'.get? c = some o := fun c o nc e => q4 c o (fun q => nc (q ▸ in2 (by omega) (by omega))) e
    have fine : ObjOk X.prog X.w (upd H s.heap.objs.size (.tup (((perms n).getD i []).map fun k => V.int ((k : Nat) : Int)))) h' s.heap.objs.size (.tup (((perms n).getD i []).map fun k => V.int ((k : Nat) : Int))) := by
      refine ⟨?_, _, told_ints hk pl, ⟨_, q2, rfl, _, rfl⟩⟩
      rw [List.length_map, pz]
      exact Nat.le_trans n3 (by decide)
    have I3 := I.turnedNew (t' := s.toks) (ch := duo b) stay hf (Nat.le_refl _) fine
    refine ⟨.ref s.heap.objs.size, _, I3, rfl, ⟨_, _, rfl, I.hok.fresh (Nat.le_refl _), ep, rfl⟩, ⟨n1, n3, ⟨_, q1⟩, ⟨items, c0, q4 b _ (apN (by omega)) e2, hl, hk⟩, ?_⟩, fun c hcm => ?_⟩
    · rw [q3]
      omega
    · have := (mem2 hcm).2
      rw [upd_ne (apN (by omega))]
      exact (hf c hcm).1
  done := by
    intro X hP hw hK hc i pins s σ H E I hf st hg
    subst hP hw hK
    obtain ⟨n1, n3, ⟨last, e1⟩, ⟨items, c0, e2, hl, hk⟩, sz0⟩ := st
    have hh1 : X.A.in1.handled = none := I.ok.hd hc
    refine end_at hh1 n1 n3 hg hl e1 e2 fun h' k1 => ?_
    exact ⟨rfl, I.turnedL (t' := s.toks) (ch := duo b) (fun c o nc e => k1 c o (fun q => nc (q ▸ in2 (by omega) (by omega))) e) hf⟩
  self := fun A i s Q E st h => by
    obtain ⟨_, _, ⟨last, e1⟩, _⟩ := st
    have hT : s.TypeIs (.ref (b + 1)) "itertools.permutations" := ⟨_, e1, rfl⟩
    refine wpAny_pyIter_slot hT iter_slot (wpAny_call_entry iter_slot hT iter_entry ?_ (iter_args _))
    exact wpAny_pure ⟨_, rfl, "itertools.permutations", _, hT, next_slot.lookup, h⟩
def iPm (K : PySem.W.Frag) (ta : TA) : TI := fun σ H R => ta σ H fun vs H1 => ∃ l n, vs = [.ref l] ∧ SqL K H1 l ((List.range n).map fun k => V.int ((k : Nat) : Int)) ∧ 1 ≤ n ∧ n ≤ 3 ∧ R (ItP n) H1
theorem ints_at_k {n : Nat} {us : List Value} (h : Vals ((List.range n).map fun k => V.int ((k : Nat) : Int)) us) : us.length = n ∧ ∀ k, k < n → ∃ t, us[k]? = some (Value.int ((k : Nat) : Int) t) := by
  have hl : us.length = n := by
    have := h.length
    simpa using this.symm
  refine ⟨hl, fun k hk => ?_⟩
  have e : ((List.range n).map fun k => V.int ((k : Nat) : Int))[k]? = some (.int ((k : Nat) : Int)) := by simp [hk]
  obtain ⟨u, hu, t, rfl⟩ := h.get e
  exact ⟨t, hu⟩
theorem ek (n : Nat) (n1 : 1 ≤ n) (n3 : n ≤ 3) : List.range n ++ (List.range n).map (fun i => n - i) = ksAt n 0 := by
  match n, n1, n3 with
  | 1, _, _ => decide
  | 2, _, _ => decide
  | 3, _, _ => decide
theorem pi_pm {X : Cx} {e tg : Expr} {ta : TA} {p pos : Pos} (hg : Gl X "permutations") (hm : X.mg "permutations" = some (.type "itertools.permutations")) (ha : PA X [e] ta)
    (hs : starEach [e] X.env = [(false, eval e X.env)] := by rfl) : PI X tg (.Call (.Name "permutations" p) [e] [] pos) (iPm X.K ta) := by
  refine ⟨fun pins s σ H R I h => Call_ (ld_glob I hg hm (PyProof.Rows.callWith_type1 (thn (ha.run pos pins s σ H _ I h) ?_) hs rfl) (by decide))⟩
  rintro us s1 ⟨vs, H1, J, r, l, n, rfl, ql, n1, n3, q⟩
  obtain ⟨u1, rfl, r1⟩ := vals1 r
  cases r1
  obtain ⟨as, rv, p1, _⟩ := J.list ql
  obtain ⟨hl, hk⟩ := ints_at_k rv
  refine call_pm p1.isList hl n3 fun h1 h' b a1 a2 a3 a4 a5 a6 => ?_
  subst a2
  have J1 := J.kept (t' := s1.toks) a1
  have J2 := J1.kept (t' := s1.toks) a3
  have st : StP n h1.objs.size 0 h' := by
    refine ⟨n1, n3, ⟨.none, ?_⟩, ⟨as, _, a5, hl, hk⟩, Nat.le_of_eq a4.symm⟩
    rw [ek n n1 n3] at a6
    rw [if_pos rfl, if_pos rfl]
    exact a6
  refine turn_P.self (P := X.prog) (w := X.w) (K := X.K) (tg := tg) _ 0 _ _ _ st ?_
  refine ⟨h1.objs.size + 1, duo h1.objs.size, StP n h1.objs.size, ItP n, H1, rfl, J2, turn_P, st, fun c hc => ?_, q⟩
  have hle := (mem2 hc).1
  exact J1.fpOk hle (J1.hok.fresh hle)
theorem walk_pm {n : Nat} : Walk (ItP n) (perms n).length (fun _ => True) (fun i H v H' => ∃ T ks, v = .ref T ∧ H T = none ∧ (perms n)[i]? = some ks ∧ H' = upd H T (.tup (ks.map fun k => V.int ((k : Nat) : Int)))) :=
  ⟨fun i _ hi _ => hi, fun _ _ => rfl, fun i H v H' _ _ y => y⟩
end Pm
end

section
set_option Elab.async false
set_option linter.all false
set_option maxRecDepth 100000
set_option maxHeartbeats 4000000
/-! Sources, their pairs, what ties them; links of an order. -/
namespace Gd
open PySem PySem.Spec PyProof.Rows L2
/-- a pair: its own column, the other's nick, that one's column -/
structure Pr where
  c : Str
  o : Str
  d : Str
deriving DecidableEq
structure Src where
  way : Str
  nick : Str
  table : Str
  pairs : List Pr
def prD (p : Pr) : PyData := .tuple [.str p.c, .str p.o, .str p.d]
def srcD (s : Src) : PyData := .tuple [.str s.way, .str s.nick, .str s.table, .tuple (s.pairs.map prD)]
def noSrc : Src := ⟨"", "", "", []⟩
def aliasAt (ss : List Src) (k : Nat) : Str := (ss.getD k noSrc).nick
/-- what one pair of a source gives -/
def tie1 (own : Str) (al : List Str) (s : Src) (p : Pr) : List Pr :=
  if decide (s.nick = own) && decide (p.o ∈ al) then [p] else if decide (p.o = own) && decide (s.nick ∈ al) then [⟨p.d, s.nick, p.c⟩] else []
def tieS (own : Str) (al : List Str) (s : Src) : List Pr := s.pairs.flatMap (tie1 own al s)
def tied (ss : List Src) (n : Nat) (js : List Nat) : List Pr := ss.flatMap (tieS (aliasAt ss n) (js.map (aliasAt ss)))
/-- the links of an order -/
def link1 (ss : List Src) (js : List Nat) (n : Nat) : List (Nat × Pr) := match tied ss n js with
  | [] => []
  | p :: _ => [(n, p)]
def linksA (ss : List Src) (order : List Nat) (i : Nat) : List (Nat × Pr) := (List.range i).flatMap fun k => link1 ss (order.take k) (order.getD k 0)
def link2 (ss : List Src) (n : Nat) : List (Nat × Pr) := match (ss.getD n noSrc).pairs with
  | [] => []
  | p :: _ => [(n, p)]
def linksB (ss : List Src) (m i : Nat) : List (Nat × Pr) := (List.range i).flatMap fun k => link2 ss (m + k)
def linksL (ss : List Src) (order : List Nat) : List (Nat × Pr) := linksA ss order order.length ++ linksB ss order.length (ss.length - order.length)
theorem linksA_succ {ss : List Src} {order : List Nat} {i : Nat} : linksA ss order (i + 1) = linksA ss order i ++ link1 ss (order.take i) (order.getD i 0) := by
  unfold linksA
  rw [List.range_succ, List.flatMap_append]
  simp
theorem linksB_succ {ss : List Src} {m i : Nat} : linksB ss m (i + 1) = linksB ss m i ++ link2 ss (m + i) := by
  unfold linksB
  rw [List.range_succ, List.flatMap_append]
  simp
theorem link1_nums {ss : List Src} {js : List Nat} {n : Nat} : ∀ x ∈ link1 ss js n, x.1 = n := by
  intro x hx
  unfold link1 at hx
  split at hx
  · cases hx
  · rw [List.mem_singleton.mp hx]
theorem link2_nums {ss : List Src} {n : Nat} : ∀ x ∈ link2 ss n, x.1 = n := by
  intro x hx
  unfold link2 at hx
  split at hx
  · cases hx
  · rw [List.mem_singleton.mp hx]
theorem linksA_nums {ss : List Src} {order : List Nat} : ∀ {i : Nat}, ∀ x ∈ linksA ss order i, ∃ k, k < i ∧ x.1 = order.getD k 0 := by
  intro i x hx
  unfold linksA at hx
  obtain ⟨k, hk, hx⟩ := List.mem_flatMap.mp hx
  exact ⟨k, List.mem_range.mp hk, link1_nums x hx⟩
theorem linksB_nums {ss : List Src} {m : Nat} : ∀ {i : Nat}, ∀ x ∈ linksB ss m i, m ≤ x.1 ∧ x.1 < m + i := by
  intro i x hx
  unfold linksB at hx
  obtain ⟨k, hk, hx⟩ := List.mem_flatMap.mp hx
  have := List.mem_range.mp hk
  rw [link2_nums x hx]
  omega
/-- well made: aliases unlike, each pair goes to a source of the first m ahead -/
structure Well (ss : List Src) (m : Nat) : Prop where
  le : m ≤ ss.length
  uniq : ∀ i j, i < ss.length → j < ss.length → aliasAt ss i = aliasAt ss j → i = j
  ahead : ∀ k, k < ss.length → ∀ p ∈ (ss.getD k noSrc).pairs, ∃ j, j < k ∧ j < m ∧ p.o = aliasAt ss j
theorem getD_mem' {α : Type} {l : List α} {i : Nat} {d : α} (h : i < l.length) : l.getD i d ∈ l := by
  rw [List.getD_eq_getElem?_getD, List.getElem?_eq_getElem h]
  exact List.getElem_mem h
theorem tied_of {ss : List Src} {n k : Nat} {js : List Nat} {p q : Pr} (hk : k < ss.length) (hp : p ∈ (ss.getD k noSrc).pairs) (h : q ∈ tie1 (aliasAt ss n) (js.map (aliasAt ss)) (ss.getD k noSrc) p) : tied ss n js ≠ [] := by
  intro e
  have : q ∈ tied ss n js := by
    unfold tied
    refine List.mem_flatMap.mpr ⟨ss.getD k noSrc, getD_mem' hk, ?_⟩
    exact List.mem_flatMap.mpr ⟨p, hp, h⟩
  rw [e] at this
  cases this
theorem link1_ne {ss : List Src} {js : List Nat} {n : Nat} (h : tied ss n js ≠ []) : link1 ss js n ≠ [] := by
  unfold link1
  split
  · rename_i e
    exact absurd e h
  · exact fun z => nomatch z
/-- an order of the first m has a link where some source has a pair -/
theorem links_some {ss : List Src} {m : Nat} {order : List Nat} (w : Well ss m) (hl : order.length = m) (hp : ∀ j, j < m → ∃ a, a < m ∧ order.getD a 0 = j) (hlt : ∀ a, a < m → order.getD a 0 < m)
    {k : Nat} (hk : k < ss.length) (h : (ss.getD k noSrc).pairs ≠ []) : linksL ss order ≠ [] := by
  obtain ⟨p, hpm⟩ : ∃ p, p ∈ (ss.getD k noSrc).pairs := by
    cases e : (ss.getD k noSrc).pairs with
    | nil => exact absurd e h
    | cons p _ => exact ⟨p, by simp⟩
  have wle := w.le
  intro e
  rw [linksL, List.append_eq_nil_iff] at e
  obtain ⟨e1, e2⟩ := e
  by_cases c : k < m
  · obtain ⟨j, jk, jm, po⟩ := w.ahead k hk p hpm
    obtain ⟨a, a1, a2⟩ := hp k c
    obtain ⟨b, b1, b2⟩ := hp j jm
    have none_at : ∀ i, i < order.length → link1 ss (order.take i) (order.getD i 0) = [] := fun i hi => by
      unfold linksA at e1
      exact List.flatMap_eq_nil_iff.mp e1 i (List.mem_range.mpr hi)
    have inTake : ∀ {x y : Nat}, x < y → x < m → order.getD x 0 ∈ order.take y := fun {x y} hxy hx => by
      have : (order.take y)[x]? = some (order.getD x 0) := by
        rw [List.getElem?_take_of_lt hxy, List.getD_eq_getElem?_getD, List.getElem?_eq_getElem (by omega)] <;> rfl
      exact List.mem_of_getElem? this
    have hab : a ≠ b := fun z => by
      rw [z, b2] at a2
      omega
    rcases Nat.lt_or_gt_of_ne hab with lt | gt
    · -- the pair's source stands ahead: the other one is tied
      refine link1_ne ?_ (none_at b (by omega))
      rw [b2]
      refine tied_of (q := ⟨p.d, (ss.getD k noSrc).nick, p.c⟩) hk hpm ?_
      have n1 : ¬ (ss.getD k noSrc).nick = aliasAt ss j := fun z => by
        have := w.uniq k j hk (by omega) z
        omega
      have m1 : (ss.getD k noSrc).nick ∈ (order.take b).map (aliasAt ss) := List.mem_map.mpr ⟨k, by have := inTake lt a1; rw [a2] at this; exact this, rfl⟩
      unfold tie1
      rw [decide_eq_false n1, Bool.false_and, if_neg (by simp), decide_eq_true po, decide_eq_true m1]
      simp
    · refine link1_ne ?_ (none_at a (by omega))
      rw [a2]
      refine tied_of (q := p) hk hpm ?_
      have m1 : p.o ∈ (order.take a).map (aliasAt ss) := List.mem_map.mpr ⟨j, by have := inTake gt b1; rw [b2] at this; exact this, po.symm⟩
      unfold tie1
      rw [decide_eq_true (show (ss.getD k noSrc).nick = aliasAt ss k from rfl), decide_eq_true m1]
      simp
  · have : link2 ss k = [] := by
      unfold linksB at e2
      have z := List.flatMap_eq_nil_iff.mp e2 (k - order.length) (List.mem_range.mpr (by omega))
      rw [show order.length + (k - order.length) = k by omega] at z
      exact z
    unfold link2 at this
    split at this
    · rename_i z
      exact h z
    · cases this
theorem links_none {ss : List Src} {order : List Nat} (h : ∀ s ∈ ss, s.pairs = []) : linksL ss order = [] := by
  have t : ∀ n js, tied ss n js = [] := fun n js => by
    unfold tied
    refine List.flatMap_eq_nil_iff.mpr fun s hs => ?_
    unfold tieS
    rw [h s hs]
    rfl
  have a : ∀ i, linksA ss order i = [] := fun i => by
    unfold linksA
    refine List.flatMap_eq_nil_iff.mpr fun k _ => ?_
    unfold link1
    rw [t]
  have b : ∀ m i, linksB ss m i = [] := fun m i => by
    unfold linksB
    refine List.flatMap_eq_nil_iff.mpr fun k _ => ?_
    unfold link2
    have : (ss.getD (m + k) noSrc).pairs = [] := by
      by_cases c : m + k < ss.length
      · exact h _ (getD_mem' c)
      · rw [List.getD_eq_getElem?_getD, List.getElem?_eq_none (by omega)]
        rfl
    rw [this]
  unfold linksL
  rw [a, b]
  rfl
end Gd
end

section
set_option Elab.async false
set_option linter.all false
set_option maxRecDepth 100000
set_option maxHeartbeats 4000000
namespace K18
open PySem PySem.Spec PyProof.Rows L2 Gd PySem.W
def pl (o : List Nat) (w : Str) : PyData := .tuple [.tuple (o.map fun k => PyData.int ((k : Nat) : Int)), .str w]
def genL (m : Nat) (b : Bool) : List PyData := (Pm.perms m).flatMap fun o => if b then [pl o "walked", pl o "kept"] else [pl o "walked"]
def plansL (m : Nat) (b : Bool) : List PyData := (Pm.perms m).flatMap fun o => if b then [pl o "kept", pl o "walked"] else [pl o "walked"]
theorem told_gen : ∀ m b, 1 ≤ m → m ≤ 3 → told (genL m b) = plansL m b := by
  have a1 : told (genL 1 true) = plansL 1 true := by unfold told genL plansL Pm.perms; simp (decide := true) [List.mergeSort]
  have a2 : told (genL 1 false) = plansL 1 false := by unfold told genL plansL Pm.perms; simp (decide := true) [List.mergeSort]
  have a3 : told (genL 2 true) = plansL 2 true := by unfold told genL plansL Pm.perms; simp (decide := true) [List.mergeSort]
  have a4 : told (genL 2 false) = plansL 2 false := by unfold told genL plansL Pm.perms; simp (decide := true) [List.mergeSort]
  have a5 : told (genL 3 true) = plansL 3 true := by unfold told genL plansL Pm.perms; simp (decide := true) [List.mergeSort]
  have a6 : told (genL 3 false) = plansL 3 false := by unfold told genL plansL Pm.perms; simp (decide := true) [List.mergeSort]
  intro m b h1 h3
  match m, b, h1, h3 with
  | 1, true, _, _ => exact a1
  | 1, false, _, _ => exact a2
  | 2, true, _, _ => exact a3
  | 2, false, _, _ => exact a4
  | 3, true, _, _ => exact a5
  | 3, false, _, _ => exact a6
theorem al_gen : ∀ m b, 1 ≤ m → m ≤ 3 → AllAlike (genL m b) := by
  intro m b h1 h3
  match m, b, h1, h3 with
  | 1, true, _, _ => unfold AllAlike; decide +kernel
  | 1, false, _, _ => unfold AllAlike; decide +kernel
  | 2, true, _, _ => unfold AllAlike; decide +kernel
  | 2, false, _, _ => unfold AllAlike; decide +kernel
  | 3, true, _, _ => unfold AllAlike; decide +kernel
  | 3, false, _, _ => unfold AllAlike; decide +kernel
theorem so_gen (m : Nat) (b : Bool) : Sortable (genL m b) := by
  refine .inl fun d hd => ?_
  unfold genL at hd
  obtain ⟨o, _, hd⟩ := List.mem_flatMap.mp hd
  cases b with
  | true =>
    simp only [if_true, List.mem_cons, List.not_mem_nil, or_false] at hd
    rcases hd with rfl | rfl <;> exact ⟨_, _, rfl⟩
  | false =>
    simp only [Bool.false_eq_true, if_false, List.mem_cons, List.not_mem_nil, or_false] at hd
    subst hd
    exact ⟨_, _, rfl⟩
end K18
end

section
set_option Elab.async false
set_option linter.all false
set_option maxRecDepth 100000
set_option maxHeartbeats 4000000
/-! lists put together, cut, turned about: the new one is none of the interpreter's own -/
namespace Gd
open PySem PySem.Spec PyProof.Rows L2
section
variable {X : Cx}
def rCatS : R2 := fun x y H Q => ∃ l b xs zs, x = .ref l ∧ y = .ref b ∧ H l = some (.lst xs) ∧ H b = some (.lst zs) ∧ xs.length + zs.length ≤ sizeLine ∧
  ∀ p, H p = none → p ≠ sysModules → Q (.ref p) (upd H p (.lst (xs ++ zs)))
theorem op_catS : OpR X (binaryOp .Add) rCatS := by
  rintro pins s σ H x y v u Q I rx ry ⟨l, b, xs, zs, rfl, rfl, h1, h2, hz, q⟩
  cases rx; cases ry
  obtain ⟨_, ia, _, ra, la, ga⟩ := I.lstM h1
  obtain ⟨_, ib, _, rb, lb, gb⟩ := I.lstM h2
  refine PySem.P.add_list ga gb ?_ (by simp only [List.size_toArray]; omega)
  rw [show ia.toArray ++ ib.toArray = (ia ++ ib).toArray by simp]
  exact ⟨.ref _, _, I.lnew (t' := s.toks) (ra.append rb) (by simpa using hz), rfl, q _ I.fresh (new_no I)⟩
def rSlS (K : PySem.W.Frag) : V → Option Int → Option Int → Hp → VK → Prop := fun x lo hi H Q => ∃ a xs, x = .ref a ∧ SqL K H a xs ∧
  ∀ p, H p = none → p ≠ sysModules → Q (.ref p) (upd H p (.lst (cutV xs lo hi)))
theorem sl_listS : SlR X (rSlS X.K) := by
  rintro pins s σ H x v vl vu lo hi sl Q I rx hs pl pu ⟨a, xs, rfl, hx, q⟩
  cases rx
  obtain ⟨its, r, ht, hz⟩ := I.list hx
  have hn := r.length
  refine ⟨"list", _, slot_list_getitem.lookup, ht.isList.typeIs, wpAny_getItem_list_slice ht.isList hs pl pu .none (by simp) ?_ (by simp only [List.size_toArray] <;> omega)⟩
  rw [slicePick_cut, ← hn]
  have rr : Vals (cutV xs lo hi) ((its.drop (HT.sIx xs.length 0 lo)).take (HT.sIx xs.length xs.length hi - HT.sIx xs.length 0 lo)) := (r.drop _).take _
  exact ⟨.ref s.heap.objs.size, _, I.laid (t' := s.toks) (o := .lst (cutV xs lo hi)) (fun b ob e => Heap.get?_push_of_some _ e) (Nat.le_refl _) ⟨Nat.le_trans (cutV_length xs lo hi) hz, _, 0, rr, Heap.get?_push_size _ rfl⟩, rfl,
    q _ (I.hok.fresh (Nat.le_refl _)) (new_no I)⟩
/-- xs[::-1] -/
def tRevL (K : PySem.W.Frag) (te : TE) : TE := fun σ H Q => te σ H fun x H1 => ∃ a xs, x = .ref a ∧ SqL K H1 a xs ∧ ∀ p, H1 p = none → p ≠ sysModules → Q (.ref p) (upd H1 p (.lst xs.reverse))
theorem pe_revL {e : Expr} {te : TE} {k : Nat} {p1 p2 p3 pos : Pos} (he : PE X e te) :
    PE X (.Subscript e (.Slice none none (some (.UnaryOp .USub (.Constant (.int 1) k p1) p2)) p3) pos) (tRevL X.K te) := by
  constructor
  intro pins s σ H Q I h
  refine Subscript_ (thn (he.run pins s σ H _ I h) ?_)
  rintro v s1 ⟨x, H1, I1, r1, a, xs, rfl, hx, q⟩
  cases r1
  have hst : PO X (some (.UnaryOp .USub (.Constant (.int 1) k p1) p2)) (tPart (tUn (rU fun i => .int (-i)) (tC (.int 1)))) := po_some (pe_un un_neg pe_int)
  refine wpAny_Slice (thn (po_none.run pins s1 σ H1 (fun o H2 => o = none ∧ H2 = H1) I1 ⟨rfl, rfl⟩) ?_)
  rintro vl s2 ⟨l, H2, I2, pl, rfl, rfl⟩
  refine thn (po_none.run pins s2 σ H2 (fun o H3 => o = none ∧ H3 = H2) I2 ⟨rfl, rfl⟩) ?_
  rintro vu s3 ⟨u, H3, I3, pu, rfl, rfl⟩
  refine thn (hst.run pins s3 σ H3 (fun o H4 => o = some (-1) ∧ H4 = H3) I3 ⟨1, rfl, -1, rfl, rfl, rfl⟩) ?_
  rintro vs s4 ⟨o, H4, I4, ps, rfl, rfl⟩
  cases pl
  cases pu
  have J : Inv X pins σ H4 { s4 with heap := s4.heap.push { cls := .type "slice", data := .fields #[.none, .none, vs] } } := I4.kept (t' := s4.toks) fun b ob z => Heap.get?_push_of_some _ z
  obtain ⟨its, r, ht, hz⟩ := J.list hx
  have hlen := r.length
  refine tail_any (ops := [.ref a, .ref s4.heap.objs.size]) ht.isList.typeIs slot_list_getitem.lookup ?_ (by with_unfolding_all rfl)
  refine wpAny_getItem_list_slice ht.isList (Heap.IsSliceOf.new _ .none .none vs) .none .none ps (by decide) ?_ (by rw [List.size_toArray]; omega)
  rw [PySem.W.krv_pick]
  refine ⟨.ref _, _, J.laid (t' := s4.toks) (o := .lst xs.reverse) (fun b ob z => Heap.get?_push_of_some _ z) (Nat.le_refl _) ?_, rfl, q _ (J.hok.fresh (Nat.le_refl _)) (new_no J)⟩
  exact ⟨by rw [List.length_reverse]; exact hz, _, 0, r.reverse, Heap.get?_push_size _ rfl⟩
/-- the last one -/
theorem atI_last {xs : List V} {v : V} (h : xs[xs.length - 1]? = some v) : atI xs (-1) = some v := by
  have hl : xs.length - 1 < xs.length := (List.getElem?_eq_some_iff.mp h).1
  unfold atI ixN
  rw [if_neg (by decide), if_pos (by omega)]
  show xs[((-1 : Int) + (xs.length : Int)).toNat]? = some v
  rw [show ((-1 : Int) + (xs.length : Int)).toNat = xs.length - 1 by omega]
  exact h
end
section
variable {K : PySem.W.Frag} {H : Hp} {N : Addr → Prop}
def cutE (ds : List PyData) (lo hi : Option Int) : List PyData := (ds.drop (HT.sIx ds.length 0 lo)).take (HT.sIx ds.length ds.length hi - HT.sIx ds.length 0 lo)
theorem DdAll.cutE {xs : List V} {ds : List PyData} (h : DdAll K H N xs ds) (lo hi : Option Int) : DdAll K H N (cutV xs lo hi) (cutE ds lo hi) := by
  have e := h.len
  unfold cutV Gd.cutE
  rw [e]
  exact (h.drop _).take _
theorem cutE_to {ds : List PyData} {i : Nat} (h : i ≤ ds.length) : cutE ds none (some (i : Int)) = ds.take i := by
  unfold cutE
  rw [HT.sIx_none, HT.sIx_nat, List.drop_zero, Nat.sub_zero, Nat.min_eq_left h]
theorem cutE_from {ds : List PyData} {i : Nat} : cutE ds (some (i : Int)) none = ds.drop i := by
  unfold cutE
  rw [HT.sIx_none, HT.sIx_nat]
  by_cases h : i ≤ ds.length
  · rw [Nat.min_eq_left h]
    exact List.take_of_length_le (by rw [List.length_drop] <;> exact Nat.le_refl _)
  · rw [Nat.min_eq_right (by omega), List.drop_length, List.drop_of_length_le (by omega), List.take_nil]
theorem cutE_mid {ds : List PyData} {i : Nat} : (cutE ds (some (i : Int)) (some ((i : Int) + 2))).length ≤ 2 := by
  unfold cutE
  rw [List.length_take, HT.sIx_nat, show ((i : Int) + 2) = ((i + 2 : Nat) : Int) by omega, HT.sIx_nat]
  omega
theorem cutE_mem {ds : List PyData} {lo hi : Option Int} {d : PyData} (h : d ∈ cutE ds lo hi) : d ∈ ds := List.mem_of_mem_drop (List.mem_of_mem_take h)
end
end Gd
end

section
set_option Elab.async false
set_option linter.all false
set_option maxRecDepth 100000
set_option maxHeartbeats 4000000
namespace K18
open PySem PySem.Spec PyProof.Rows L2 Gd
def topS (i : Nat) : Stmt := PySem.Challenge.pw_plansamid_k18_plans_told.main.body.getD i (.Pass ⟨0, 0, 0, 0⟩)
abbrev sPen : Stmt := topS 6
abbrev sDraw : Stmt := topS 7
theorem scPen : FnScope ["_law_script"] ["_law_script"] (defScope sPen) := ⟨rfl, rfl, rfl, by decide +kernel, rfl, by decide +kernel, by decide +kernel⟩
abbrev nDraw : List Str := ["_law_pen_here", "_law_many", "_law_digit", "_law_at", "_law_cell", "_law_whole", "_law_mixed"]
theorem scDraw : FnScope nDraw ["_law_pen_here", "_law_many"] (defScope sDraw) := ⟨rfl, rfl, rfl, by decide +kernel, rfl, by decide +kernel, by decide +kernel⟩
def spPen (K : PySem.W.Frag) : Sp := fun vs H Q _ => ∃ (a : Addr) (ns : List Int), vs = [.ref a] ∧ SqL K H a (ns.map V.int) ∧ ns.length ≤ 63 ∧ ∀ (l c : Addr) (H' : Hp), Same H H' → H l = none → H c = none → Pen H' l c 0 → Q (.ref l) H'
theorem cut_all (xs : List V) (h : xs.length ≤ 63) : cutV xs none (some (63 : Int)) = xs := by
  unfold cutV
  rw [HT.sIx_none, show (63 : Int) = ((63 : Nat) : Int) from rfl, HT.sIx_nat, List.drop_zero, Nat.sub_zero, Nat.min_eq_right h, List.take_length]
section
variable {P : Program} {w : World} {K : PySem.W.Frag} {mg : Str → Option Value} {base : Heap} {f fT : Addr} {fd dT : FuncData}
theorem ok_pen (F : Fun K "_law_pen" "_law_pen" sPen f fd) : FnOk P w K mg base CX0 1 f fd ["_law_script"] (spPen K) := by
  refine F.ok scPen (fun vs H Q E h => ?_) (fun cdv A outer s H vs Q E hr h => ?_)
  · obtain ⟨a, ns, rfl, _⟩ := h
    rfl
  obtain ⟨a, ns, rfl, ha, hn, q⟩ := h
  have nd := scPen.nd
  refine ⟨_, pss_one (ps_ret (pe_lst (pa_cons (pe_slice sl_list (pv 0) po_none (po_some pe_int)) (pa_cons pe_int (pa_cons pe_int pa_nil))))), ?_⟩
  refine ⟨_, rfl, _, rfl, a, _, rfl, ha, fun b nb => ?_⟩
  rw [cut_all _ (by rw [List.length_map]; exact hn)]
  have s1 := new_same (o := .lst (ns.map V.int)) nb
  refine ⟨(by show 3 ≤ sizeLine; decide), fun l nl => ?_⟩
  have s3 := s1.trans (new_same (o := .lst [.ref b, .int 0, .int 0]) nl)
  have ncl : b ≠ l := fun e => by rw [← e, upd_same] at nl; cases nl
  exact q l b _ s3 (s1.free nl) nb ⟨ns, 0, 0, upd_same, by rw [upd_ne ncl]; exact upd_same, hn, by omega, by omega⟩
theorem ok_draw (F : Fun K "_law_take" "_law_take" sDraw f fd) (mn : mg "len" = none) (ma : mg "abs" = none) (mi : mg "int" = none) : FnOk P w K mg base CX0 1 f fd ["_law_pen_here", "_law_many"] spDraw := by
  refine F.ok scDraw (fun vs H Q E h => ?_) (fun cdv A outer s H vs Q E hr h => ?_)
  · obtain ⟨l, c, m, S, rfl, _⟩ := h
    rfl
  obtain ⟨l, c, m, S, rfl, hP, m0, m1, hS, q⟩ := h
  have nlc := hP.apart
  obtain ⟨ns, t, ov, el, ec, hn, t0, t1⟩ := hP
  have nd := scDraw.nd
  have zl : sizeLine = 16777216 := rfl
  refine ⟨_, pss_cons (ps_if (pt_cmpR op_gt (pe_ix ix_list (pv 0) pe_int (fun _ _ => rfl)) pe_int (nomark _))
      (pss_cons (ps_set (i := 2) nd rfl (.inl rfl) (pe_op op_modN (pe_ix ix_list (pv 0) pe_int (fun _ _ => rfl)) (pv 1)))
      (pss_cons (ps_asg (pe_op op_fdivN (pe_ix ix_list (pv 0) pe_int (fun _ _ => rfl)) (pv 1)) (pg_sub (pv 0) pe_int set_list))
      (pss_one (ps_ret (pv 2))))) pss_nil)
    (pss_cons (ps_set (i := 3) nd rfl (.inl rfl) (pe_ix ix_list (pv 0) pe_int (fun _ _ => rfl)))
    (C8.pss_cut (ps_asg (pe_op op_add (pv 3) pe_int) (pg_sub (pv 0) pe_int set_list))
    (pss_cons (ps_set (i := 4) nd rfl (.inl rfl) (pe_op op_add (pe_op op_mul pe_int (pv 3)) pe_int))
    (C8.pss_cut (ps_if (pt_cmpR op_gt (pe_callB call_len_seq (by rfl) mn PySem.boot_len (pa_cons (pe_ix ix_list (pv 0) pe_int (fun _ _ => rfl)) pa_nil)) pe_int (nomark _))
      (pss_one (ps_set (i := 4) nd rfl (.inl rfl) (pe_ix ix_list (pe_ix ix_list (pv 0) pe_int (fun _ _ => rfl)) (pe_op op_modN (pv 3) (pe_callB call_len_seq (by rfl) mn PySem.boot_len (pa_cons (pe_ix ix_list (pv 0) pe_int (fun _ _ => rfl)) pa_nil))) (fun _ _ => rfl)))) pss_nil)
    (C8.pss_cut (ps_if (PW.pt (pw_and (pt_cmpR op_lt (pv 3) (pe_callB call_len_seq (by rfl) mn PySem.boot_len (pa_cons (pe_ix ix_list (pv 0) pe_int (fun _ _ => rfl)) pa_nil)) (nomark _))
        (pw_and1 (pt_cmpR op_ge (pe_callB call_abs (by rfl) ma (by decide +kernel) (pa_cons (pv 4) pa_nil)) (pe_op op_pow pe_int pe_int) (nomark _)))))
      (pss_cons (ps_set (i := 5) nd rfl (.inl rfl) (pe_op op_add (pe_op op_mul pe_int (pe_callB call_abs (by rfl) ma (by decide +kernel) (pa_cons (pv 4) pa_nil))) (pe_callTy call_int1 (by rfl) mi (by decide +kernel) (pa_cons (pe_cmpR op_lt (pv 4) pe_int (nomark _)) pa_nil))))
      (pss_cons (ps_asg (pe_op op_fdivN (pv 5) (pv 1)) (pg_sub (pv 0) pe_int set_list))
      (pss_one (ps_ret (pe_op op_modN (pv 5) (pv 1)))))) pss_nil)
    (C8.pss_cut (ps_set (i := 6) nd rfl (.inl rfl) (pe_op op_modN (pe_op op_pow (pe_op op_add (pe_op op_add (pe_op op_add (pe_op op_modN (pv 4) pe_int) (pe_op op_mul (pe_op op_mul pe_int (pv 3)) (pv 3))) (pe_op op_mul pe_int (pv 3))) pe_int) pe_int) pe_int))
    (C8.pss_cut (ps_set (i := 6) nd rfl (.inl rfl) (pe_op op_modN (pe_op op_pow (pe_op op_add (pe_op op_mul (pv 6) (pe_op op_add (pe_op op_modN (pv 3) pe_int) pe_int)) pe_int) pe_int) pe_int))
    (pss_one (ps_ret (pe_op op_modN (pe_op op_fdivN (pv 6) pe_int) (pv 1))))))))))), ?_⟩
  have L : SqL K H l [.ref c, .int t, .int ov] := SqL.of el
  refine ⟨_, rfl, l, _, 2, _, rfl, rfl, L, atI_nat (j := 2) rfl, _, _, rfl, rfl, _, rfl, ite2 (fun e => ?_) (fun e => ?_)⟩
  · refine ⟨_, rfl, l, _, 2, _, rfl, rfl, L, atI_nat (j := 2) rfl, _, rfl, _, _, rfl, rfl, by omega, ?_⟩
    refine ⟨_, rfl, l, _, 2, _, rfl, rfl, L, atI_nat (j := 2) rfl, _, rfl, _, _, rfl, rfl, ⟨by omega, by omega⟩, ?_⟩
    refine ⟨_, rfl, l, _, 2, 2, rfl, rfl, el, rfl, ?_⟩
    refine ⟨_, rfl, ?_⟩
    obtain ⟨r0, r1⟩ := fmod_in ov m0
    exact q _ _ r0 r1 ⟨ns, t, _, upd_same, by rw [upd_ne nlc.symm]; exact ec, hn, t0, by omega⟩ .at
  refine ⟨_, rfl, l, _, 1, _, rfl, rfl, L, atI_nat (j := 1) rfl, ?_⟩
  refine ⟨fun σ' H' => H' l = some (.lst [.ref c, .int (t + 1), .int ov]) ∧ H' c = some (.lst (ns.map V.int)) ∧ Ex1 l H H' ∧ σ' = [some (.ref l), some (.int m), none, some (.int t), none, none, none], ?_, ?_⟩
  · refine ⟨_, rfl, _, _, rfl, rfl, _, rfl, l, _, 1, 1, rfl, rfl, el, rfl, ?_⟩
    exact ⟨upd_same, by rw [upd_ne nlc.symm]; exact ec, .at, rfl⟩
  rintro σ2 H2 ⟨el2, ec2, x2, rfl⟩
  refine ⟨_, rfl, _, _, rfl, rfl, .inl ⟨by decide, by decide⟩, _, _, rfl, rfl, ?_⟩
  refine ⟨fun σ' H' => Same H2 H' ∧ ∃ v : Int, σ' = [some (.ref l), some (.int m), none, some (.int t), some (.int v), none, none], ?_, ?_⟩
  · refine ⟨_, rfl, l, _, 0, _, rfl, rfl, SqL.of el2, atI_nat (j := 0) rfl, c, _, rfl, .inl (SqL.of ec2), _, _, rfl, rfl, _, rfl, ite2 (fun e => ?_) (fun e => ?_)⟩
    · have e : decide ((0 : Int) < (((ns.map V.int).length : Nat) : Int)) = true := e
      have pos : 0 < ns.length := by
        have := of_decide_eq_true e
        rw [List.length_map] at this
        omega
      obtain ⟨i0, i1⟩ := fmod_in t (b := ((ns.length : Nat) : Int)) (by omega)
      obtain ⟨v, hv, ev⟩ := at_list (f := V.int) (xs := ns) i0 i1
      refine ⟨_, rfl, l, _, 0, _, rfl, rfl, SqL.of el2, atI_nat (j := 0) rfl, _, rfl, _, rfl, l, _, 0, _, rfl, rfl, SqL.of el2, atI_nat (j := 0) rfl, c, _, rfl, .inl (SqL.of ec2), _, _, rfl, rfl, by rw [List.length_map]; omega, ?_⟩
      refine ⟨c, _, _, .int v, rfl, rfl, SqL.of ec2, by rw [List.length_map]; exact ev, ?_⟩
      exact ⟨fun _ _ e => e, v, rfl⟩
    · exact ⟨fun _ _ e => e, _, rfl⟩
  rintro σ3 H3 ⟨s3, v, rfl⟩
  have el3 := s3 _ _ el2
  have ec3 := s3 _ _ ec2
  have x3 : Ex1 l H H3 := x2.trans (ex1_of_same s3)
  refine ⟨fun σ' H' => H' = H3 ∧ σ' = [some (.ref l), some (.int m), none, some (.int t), some (.int v), none, none], ?_, ?_⟩
  · refine ⟨_, rfl, _, rfl, l, _, 0, _, rfl, rfl, SqL.of el3, atI_nat (j := 0) rfl, c, _, rfl, .inl (SqL.of ec3), _, _, rfl, rfl, _, rfl, ite2 (fun e => ?_) (fun e => ?_)⟩
    · refine ⟨_, rfl, _, rfl, 10, 18, rfl, rfl, ⟨by decide, by decide, by decide⟩, _, _, rfl, rfl, _, rfl, ite2 (fun e => ?_) (fun e => ?_)⟩
      · refine ⟨_, rfl, _, rfl, _, _, rfl, rfl, .inl ⟨by decide, by decide⟩, _, rfl, _, _, rfl, rfl, .inr ⟨_, rfl, _, _, rfl, rfl, ?_⟩⟩
        refine ⟨_, rfl, _, rfl, _, _, rfl, rfl, ⟨by omega, by omega⟩, _, rfl, l, _, 2, 2, rfl, rfl, el3, rfl, ?_⟩
        refine ⟨_, rfl, _, rfl, _, _, rfl, rfl, by omega, ?_⟩
        exact q _ _ (fmod_in _ m0).1 (fmod_in _ m0).2 ⟨ns, t + 1, _, upd_same, by rw [upd_ne nlc.symm]; exact ec3, hn, by omega, by omega⟩ (x3.trans .at)
      · exact ⟨rfl, rfl⟩
    · exact ⟨rfl, rfl⟩
  rintro σ4 H4 ⟨rfl, rfl⟩
  obtain ⟨a0, a1⟩ := fmod_in v (b := 2147483563) (by omega)
  obtain ⟨q0, q1⟩ := sq_le t0 (show t ≤ 100000 by omega)
  have e40 : 43037 * t * t = 43037 * (t * t) := Int.mul_assoc ..
  generalize hx0 : v.fmod 2147483563 = x0 at a0 a1
  refine ⟨fun σ' H' => H' = H4 ∧ ∃ x : Int, 0 ≤ x ∧ x < 2147483647 ∧ σ' = [some (.ref l), some (.int m), none, some (.int t), some (.int v), none, some (.int x)], ?_, ?_⟩
  · refine ⟨_, rfl, _, _, rfl, rfl, by omega, _, rfl, _, _, rfl, rfl, .inl ⟨by decide, by decide⟩, _, rfl, _, _, rfl, rfl, .inr ⟨by omega, by omega⟩, _, _, rfl, rfl, _, rfl, _, _, rfl, rfl, .inl ⟨by decide, by decide⟩, _, _, rfl, rfl, _, _, rfl, rfl,
      _, _, rfl, rfl, ⟨by decide, by decide, by rw [hx0, e40]; omega⟩, _, _, rfl, rfl, by omega, ?_⟩
    exact ⟨rfl, _, (fmod_in _ (by omega)).1, (fmod_in _ (by omega)).2, rfl⟩
  rintro σ5 H5 ⟨rfl, x1, b0, b1, rfl⟩
  obtain ⟨u0, u1⟩ := fmod_in t (b := 991) (by omega)
  obtain ⟨c0, c1⟩ := mul_le b0 (show x1 ≤ 2147483647 by omega) (show 0 ≤ t.fmod 991 + 7 by omega) (show t.fmod 991 + 7 ≤ 1000 by omega)
  refine ⟨fun σ' H' => H' = H5 ∧ ∃ x : Int, 0 ≤ x ∧ x < 2147483587 ∧ σ' = [some (.ref l), some (.int m), none, some (.int t), some (.int v), none, some (.int x)], ?_, ?_⟩
  · refine ⟨_, rfl, _, rfl, _, _, rfl, rfl, by omega, _, _, rfl, rfl, _, _, rfl, rfl, .inl ⟨by omega, by omega⟩, _, _, rfl, rfl, _, _, rfl, rfl, ⟨by decide, by decide, by omega⟩, _, _, rfl, rfl, by omega, ?_⟩
    exact ⟨rfl, _, (fmod_in _ (by omega)).1, (fmod_in _ (by omega)).2, rfl⟩
  rintro σ6 H6 ⟨rfl, x2', d0, d1, rfl⟩
  refine ⟨_, rfl, _, _, rfl, rfl, ⟨by omega, by omega⟩, _, rfl, _, _, rfl, rfl, by omega, ?_⟩
  exact q _ _ (fmod_in _ m0).1 (fmod_in _ m0).2 ⟨ns, t + 1, ov, el3, ec3, hn, by omega, by omega⟩ x3
end
end K18
end

section
set_option Elab.async false
set_option linter.all false
set_option maxRecDepth 100000
set_option maxHeartbeats 4000000
namespace K18
open PySem PySem.Spec PyProof.Rows L2 Gd
abbrev sPB : Stmt := topS 4
abbrev nPB : List Str := ["sources", "number", "ahead", "own", "aliases", "tied", "way", Str.ofString (String.ofList ['a', 'l', 'i', 'a', 's']), "table", "pairs", "column", "other", "column2", "at"]
theorem scPB : FnScope nPB ["sources", "number", "ahead"] (defScope sPB) := ⟨rfl, rfl, rfl, by decide +kernel, rfl, by decide +kernel, by decide +kernel⟩
theorem dp_src {K : PySem.W.Frag} {H : Hp} {v : V} {s : Src} (h : Dp K H v (srcD s)) : ∃ a b ps, v = .ref a ∧ SqT K H a [.str s.way, .str s.nick, .str s.table, .ref b] ∧ SqT K H b ps ∧ DpAll K H ps (s.pairs.map prD) := by
  cases h with
  | tup a k =>
  cases k with | cons k1 k =>
  cases k with | cons k2 k =>
  cases k with | cons k3 k =>
  cases k with | cons k4 k =>
  cases k
  cases k1
  cases k2
  cases k3
  cases k4 with
  | tup b m => exact ⟨_, _, _, rfl, a, b, m⟩
theorem dp_pr {K : PySem.W.Frag} {H : Hp} {v : V} {p : Pr} (h : Dp K H v (prD p)) : ∃ a, v = .ref a ∧ SqT K H a [.str p.c, .str p.o, .str p.d] := by
  cases h with
  | tup a k =>
  cases k with | cons k1 k =>
  cases k with | cons k2 k =>
  cases k with | cons k3 k =>
  cases k
  cases k1
  cases k2
  cases k3
  exact ⟨_, rfl, a⟩
theorem in_strs (k : Str) : ∀ r : List Str, inV (.str k) (r.map V.str) = decide (k ∈ r)
  | [] => rfl
  | x :: r => by
    have ih := in_strs k r
    show ((x == k) || inV (.str k) (r.map V.str)) = _
    rw [ih]
    by_cases e : x = k
    · subst e
      simp
    · rw [beq_false_of_ne e, Bool.false_or]
      simp [List.mem_cons, Ne.symm e]
theorem flat_strs : ∀ r : List Str, (r.map V.str).all flatV = true
  | [] => rfl
  | x :: r => flat_strs r
def spPB (K : PySem.W.Frag) : Sp := fun vs H Q _ => ∃ (S A : Addr) (n : Nat) (xs : List V) (ss : List Src) (js : List Nat), vs = [.ref S, .int ((n : Nat) : Int), .ref A] ∧ SqT K H S xs ∧ DpAll K H xs (ss.map srcD) ∧ n < ss.length ∧
  SqT K H A (js.map fun j => V.int ((j : Nat) : Int)) ∧ (∀ j ∈ js, j < ss.length) ∧ js.length ≤ 10 ∧ ss.length ≤ 10 ∧ (∀ s ∈ ss, s.pairs.length ≤ 10) ∧
  ∀ (l : Addr) (ts : List V) (H' : Hp), Same H H' → H l = none → H' l = some (.lst ts) → DpAll K H' ts ((tied ss n js).map prD) → Q (.ref l) H'
theorem srcs_at {ss : List Src} {i : Nat} (h : i < ss.length) : (ss.map srcD)[i]? = some (srcD (ss.getD i noSrc)) := by
  rw [List.getElem?_map, List.getD_eq_getElem?_getD, List.getElem?_eq_getElem h] <;> rfl
theorem prs_only : ∀ ps : List Pr, tupOnlyAll (ps.map prD) = true
  | [] => rfl
  | p :: ps => by
    rw [List.map_cons]
    simp only [tupOnlyAll, prs_only ps, Bool.and_true]
    rfl
section
variable {P : Program} {w : World} {K : PySem.W.Frag} {mg : Str → Option Value} {base : Heap} {f fT : Addr} {fd dT : FuncData}
theorem ok_pb (F : Fun K "pairs_between" "pairs_between" sPB f fd) : FnOk P w K mg base CX0 1 f fd ["sources", "number", "ahead"] (spPB K) := by
  refine F.ok scPB (fun vs H Q E h => ?_) (fun cdv A outer s H vs Q E hr h => ?_)
  · obtain ⟨S, A, n, xs, ss, js, rfl, _⟩ := h
    rfl
  obtain ⟨S, AH, n, xs, ss, js, rfl, hS, hX, hn, hJ, jl, j10, s10, p10, q⟩ := h
  have nd := scPB.nd
  have zl : sizeLine = 16777216 := rfl
  refine ⟨_, pss_cons (ps_set (i := 3) nd rfl (.inl rfl) (pe_ix ix_tup (pe_ix ix_tup (pv 0) (pv 1) (fun _ _ => rfl)) pe_int (fun _ _ => rfl)))
      (pss_cons (ps_setLc (i := 4) (own := [("at", 13)]) (g := gName 13) (tt := tYes) rfl nd rfl rfl (by rfl) (pi_tup (pv 2)) (blkOk_by (N := nPB) (sc := defScope sPB) (by decide +kernel)) (fun _ _ _ _ _ => pg_name (i := 13) nd rfl (Or.inl rfl)) (fun _ _ _ _ _ => pts_nil) (fun _ _ _ _ _ => (pe_ix (r := rIxT K) ix_tup (pe_ix (r := rIxT K) ix_tup (pv 0) (pv 13) (fun _ _ => rfl)) pe_int (fun _ _ => rfl))))
      (pss_cons (ps_set (i := 5) nd rfl (.inl rfl) (pe_lst pa_nil))
      (pss_cons (ps_for PassesOwn.never rfl (pi_tup (pv 0)) (pg_tup rfl (pgs_cons (pg_name (i := 6) nd rfl (.inl rfl)) (pgs_cons (pg_name (i := 7) nd rfl (.inl rfl)) (pgs_cons (pg_name (i := 8) nd rfl (.inl rfl)) (pgs_cons (pg_name (i := 9) nd rfl (.inl rfl)) pgs_nil)))))
      (pss_one (ps_for PassesOwn.never rfl (pi_tup (pv 9)) (pg_tup rfl (pgs_cons (pg_name (i := 10) nd rfl (.inl rfl)) (pgs_cons (pg_name (i := 11) nd rfl (.inl rfl)) (pgs_cons (pg_name (i := 12) nd rfl (.inl rfl)) pgs_nil))))
      (pss_one (ps_if (PW.pt (pw_and (pt_cmpR op_eq (pv 7) (pv 3) (nomark _)) (pw_and1 (pt_cmpR op_in_seq (pv 11) (pv 4) (by with_unfolding_all rfl)))))
        (pss_one (ps_expr (pe_bm PySem.F.plainAttrs_list PySem.F.slot_list_append PySem.F.type_list_append mt_append (pv 5) (pa_cons (pe_tup (pa_cons (pv 10) (pa_cons (pv 11) (pa_cons (pv 12) pa_nil)))) pa_nil)))) (pss_one (ps_if (PW.pt (pw_and (pt_cmpR op_eq (pv 11) (pv 3) (nomark _)) (pw_and1 (pt_cmpR op_in_seq (pv 7) (pv 4) (by with_unfolding_all rfl)))))
        (pss_one (ps_expr (pe_bm PySem.F.plainAttrs_list PySem.F.slot_list_append PySem.F.type_list_append mt_append (pv 5) (pa_cons (pe_tup (pa_cons (pv 12) (pa_cons (pv 7) (pa_cons (pv 10) pa_nil)))) pa_nil)))) pss_nil)))))))
      (pss_one (ps_ret (pv 5)))))), ?_⟩
  obtain ⟨a0, b0, ps0, e0, t0, _, _⟩ : ∃ a b ps, xs[n]? = some (.ref a) ∧ SqT K H a [.str (ss.getD n noSrc).way, .str (ss.getD n noSrc).nick, .str (ss.getD n noSrc).table, .ref b] ∧ SqT K H b ps ∧ DpAll K H ps ((ss.getD n noSrc).pairs.map prD) := by
    have l := (DpAll.len hX)
    rw [List.length_map] at l
    obtain ⟨d, ed, hd⟩ := DpAll.at_ hX (List.getElem?_eq_getElem (show n < xs.length by omega))
    rw [srcs_at hn] at ed
    cases ed
    obtain ⟨a, b, ps, ev, r⟩ := dp_src hd
    exact ⟨a, b, ps, by rw [List.getElem?_eq_getElem (show n < xs.length by omega), ev], r⟩
  have lX : xs.length = ss.length := by rw [(DpAll.len hX), List.length_map]
  refine ⟨_, rfl, _, rfl, S, _, _, _, rfl, rfl, hS, atI_nat e0, a0, _, 1, _, rfl, rfl, t0, atI_nat (j := 1) rfl, ?_⟩
  refine ⟨_, rfl, AH, rfl, ⟨_, hJ⟩, fun al nal => ?_⟩
  refine lc_it walk_tup (fun i H1 => Same H H1 ∧ H1 al = some (.lst (((js.take i).map (aliasAt ss)).map V.str))) ⟨new_same nal, upd_same⟩ (fun i H1 _ h => same_tup h.1 hJ) ?_ ?_
  · rintro i x H1 H2 hi ⟨s1, el⟩ ⟨rfl, ex⟩
    obtain ⟨j, ej, rfl⟩ := map_at ex
    have jlt := jl j (List.mem_of_getElem? ej)
    obtain ⟨d, ed, hd⟩ := DpAll.at_ hX (List.getElem?_eq_getElem (show j < xs.length by omega))
    rw [srcs_at jlt] at ed
    cases ed
    obtain ⟨a, b, ps, ev, tt, _⟩ := dp_src hd
    have hi : i < js.length := at_lt ej
    refine ⟨rfl, ?_⟩
    refine ⟨_, rfl, _, rfl, S, _, _, _, rfl, rfl, same_tup s1 hS, atI_nat (List.getElem?_eq_getElem (show j < xs.length by omega)), a, _, 1, _, ev, rfl, same_tup s1 tt, atI_nat (j := 1) rfl, ?_⟩
    refine ⟨_, el, by rw [List.length_map, List.length_map, List.length_take]; omega, own_same nal s1, ?_⟩
    rw [upd_same, take_at ej, List.map_append, List.map_append]
    rfl
  rintro H1 ⟨s1, el⟩
  rw [List.length_map, List.take_length] at el
  have own : (ss.getD n noSrc).nick = aliasAt ss n := rfl
  rw [own]
  refine ⟨by decide, fun T nT => ?_⟩
  have s2 := s1.trans (new_same (o := .lst []) nT)
  have nT0 : H T = none := s1.free nT
  have naT : al ≠ T := ne_of_none el nT
  refine ⟨_, rfl, S, rfl, ⟨_, same_tup s2 hS⟩, ?_⟩
  refine for_it walk_tup (fun i σ H3 => Same H H3 ∧ H3 al = some (.lst ((js.map (aliasAt ss)).map V.str)) ∧ (∃ ts, H3 T = some (.lst ts) ∧ ts.length ≤ 10 * i ∧ DpAll K H3 ts (((ss.take i).flatMap (tieS (aliasAt ss n) (js.map (aliasAt ss)))).map prD)) ∧
      ∃ y6 y7 y8 y9 y10 y11 y12 y13, σ = [some (.ref S), some (.int (n : Nat)), some (.ref AH), some (.str (aliasAt ss n)), some (.ref al), some (.ref T), y6, y7, y8, y9, y10, y11, y12, y13])
    ⟨s2, new_same nT _ _ el, ⟨_, upd_same, Nat.le_refl _, .nil⟩, _, _, _, _, _, _, _, _, rfl⟩ (fun i σ H3 _ h => same_tup h.1 hS) ?_ ?_
  · rintro i x σ H3 H4 hi ⟨s3, ea3, ⟨ts, eT, lt, hT⟩, y6, y7, y8, y9, y10, y11, y12, y13, rfl⟩ ⟨rfl, ex⟩
    have hi : i < xs.length := hi
    obtain ⟨d, ed, hd⟩ := DpAll.at_ hX ex
    rw [srcs_at (by omega)] at ed
    cases ed
    have es : ss[i]? = some (ss.getD i noSrc) := by rw [List.getD_eq_getElem?_getD, List.getElem?_eq_getElem (by omega)] <;> rfl
    have pl := p10 _ (List.mem_of_getElem? es)
    generalize ss.getD i noSrc = s at hd es pl
    obtain ⟨a, b, ps, rfl, tt, tb, hp⟩ := dp_src hd
    have lp : ps.length = s.pairs.length := by rw [(DpAll.len hp), List.length_map]
    refine ⟨a, _, rfl, same_tup s3 tt, rfl, _, _, rfl, _, _, rfl, _, _, rfl, _, _, rfl, rfl, ?_⟩
    refine ⟨_, rfl, b, rfl, ⟨_, same_tup s3 tb⟩, ?_⟩
    refine for_it walk_tup (fun j σ H5 => Same H H5 ∧ H5 al = some (.lst ((js.map (aliasAt ss)).map V.str)) ∧ (∃ ts, H5 T = some (.lst ts) ∧ ts.length ≤ 10 * i + j ∧ DpAll K H5 ts (((ss.take i).flatMap (tieS (aliasAt ss n) (js.map (aliasAt ss))) ++ (s.pairs.take j).flatMap (tie1 (aliasAt ss n) (js.map (aliasAt ss)) s)).map prD)) ∧
        ∃ y10 y11 y12 y13, σ = [some (.ref S), some (.int (n : Nat)), some (.ref AH), some (.str (aliasAt ss n)), some (.ref al), some (.ref T), some (.str s.way), some (.str s.nick), some (.str s.table), some (.ref b), y10, y11, y12, y13])
      ⟨s3, ea3, ⟨ts, eT, lt, by rw [List.take_zero, List.flatMap_nil, List.append_nil]; exact hT⟩, _, _, _, _, rfl⟩ (fun j σ H5 _ h => same_tup h.1 tb) ?_ ?_
    · rintro j x σ H5 H6 hj ⟨s5, ea5, ⟨ts, eT, lt, hT⟩, y10, y11, y12, y13, rfl⟩ ⟨rfl, ex⟩
      have hj : j < ps.length := hj
      obtain ⟨d, ed, hd⟩ := DpAll.at_ hp ex
      rw [List.getElem?_map, Option.map_eq_some_iff] at ed
      obtain ⟨p, ep, rfl⟩ := ed
      obtain ⟨c, rfl, tc⟩ := dp_pr hd
      have tj : (s.pairs.take (j + 1)).flatMap (tie1 (aliasAt ss n) (js.map (aliasAt ss)) s) = (s.pairs.take j).flatMap (tie1 (aliasAt ss n) (js.map (aliasAt ss)) s) ++ tie1 (aliasAt ss n) (js.map (aliasAt ss)) s p := by
        rw [take_at ep, List.flatMap_append]
        simp
      have nTal : T ≠ al := naT.symm
      -- one put behind
      have put : ∀ {p' : Pr} {t : Addr}, H6 t = none → tie1 (aliasAt ss n) (js.map (aliasAt ss)) s p = [p'] → ∀ H7, H7 = upd (upd H6 t (.tup [.str p'.c, .str p'.o, .str p'.d])) T (.lst (ts ++ [.ref t])) →
          Same H H7 ∧ H7 al = some (.lst ((js.map (aliasAt ss)).map V.str)) ∧ (∃ ts, H7 T = some (.lst ts) ∧ ts.length ≤ 10 * i + (j + 1) ∧ DpAll K H7 ts (((ss.take i).flatMap (tieS (aliasAt ss n) (js.map (aliasAt ss))) ++ (s.pairs.take (j + 1)).flatMap (tie1 (aliasAt ss n) (js.map (aliasAt ss)) s)).map prD)) := by
        rintro p' t nt e1 H7 rfl
        have j1 := new_same (o := .tup [.str p'.c, .str p'.o, .str p'.d]) nt
        refine ⟨own_same nT0 (s5.trans j1), by rw [upd_ne naT]; exact j1 _ _ ea5, ts ++ [.ref t], upd_same, by rw [List.length_append]; show ts.length + 1 ≤ _; omega, ?_⟩
        have T1 : Tups K H6 (upd (upd H6 t (.tup [.str p'.c, .str p'.o, .str p'.d])) T (.lst (ts ++ [.ref t]))) := (Tups.of_same j1).trans (Tups.upd_lst (j1 _ _ eT))
        rw [tj, e1, ← List.append_assoc, List.map_append]
        refine DpAll.snoc (DpAll.tups T1 _ ?_ hT) (.tup (Tups.upd_lst (j1 _ _ eT) _ _ (SqT.of upd_same)) (.cons (.str _) (.cons (.str _) (.cons (.str _) .nil))))
        exact prs_only _
      refine ⟨c, _, rfl, same_tup s5 tc, rfl, _, _, rfl, _, _, rfl, _, _, rfl, rfl, ?_⟩
      refine ⟨_, rfl, _, rfl, rfl, _, rfl, ite2 (fun e => ?_) (fun e => ?_)⟩
      · have e : decide (s.nick = aliasAt ss n) = true := decide_eq_true (V.str.inj (of_decide_eq_true e))
        refine ⟨_, rfl, _, rfl, al, _, rfl, .inl (SqL.of ea5), rfl, flat_strs _, _, rfl, ite2 (fun e2 => ?_) (fun e2 => ?_)⟩
        · have e2 : decide (p.o ∈ js.map (aliasAt ss)) = true := (in_strs _ _).symm.trans e2
          refine ⟨_, rfl, .inl ⟨rfl, _, SqL.of eT⟩, _, rfl, _, rfl, _, rfl, (by show 3 ≤ sizeLine; decide), fun t nt => ?_⟩
          have j1 := new_same (o := .tup [.str p.c, .str p.o, .str p.d]) nt
          refine ⟨T, ts, _, rfl, rfl, j1 _ _ eT, by omega, ?_⟩
          obtain ⟨a1, a2, a3⟩ := put (p' := ⟨p.c, p.o, p.d⟩) nt (by unfold tie1; rw [e, e2]; rfl) _ rfl
          exact ⟨a1, a2, a3, _, _, _, _, rfl⟩
        · have hc : (decide (s.nick = aliasAt ss n) && decide (p.o ∈ js.map (aliasAt ss))) = false := by
            rw [show decide (p.o ∈ js.map (aliasAt ss)) = false from (in_strs _ _).symm.trans (Bool.eq_false_iff.mpr e2), Bool.and_false]
          refine ⟨_, rfl, _, rfl, rfl, _, rfl, ite2 (fun e3 => ?_) (fun e3 => ?_)⟩
          · have e3 : decide (p.o = aliasAt ss n) = true := decide_eq_true (V.str.inj (of_decide_eq_true e3))
            refine ⟨_, rfl, _, rfl, al, _, rfl, .inl (SqL.of ea5), rfl, flat_strs _, _, rfl, ite2 (fun e4 => ?_) (fun e4 => ?_)⟩
            · have e4 : decide (s.nick ∈ js.map (aliasAt ss)) = true := (in_strs _ _).symm.trans e4
              refine ⟨_, rfl, .inl ⟨rfl, _, SqL.of eT⟩, _, rfl, _, rfl, _, rfl, (by show 3 ≤ sizeLine; decide), fun t nt => ?_⟩
              have j1 := new_same (o := .tup [.str p.d, .str s.nick, .str p.c]) nt
              refine ⟨T, ts, _, rfl, rfl, j1 _ _ eT, by omega, ?_⟩
              obtain ⟨a1, a2, a3⟩ := put (p' := ⟨p.d, s.nick, p.c⟩) nt (by unfold tie1; rw [hc, if_neg (by simp), e3, e4]; rfl) _ rfl
              exact ⟨a1, a2, a3, _, _, _, _, rfl⟩
            · have e4 : decide (s.nick ∈ js.map (aliasAt ss)) = false := (in_strs _ _).symm.trans (Bool.eq_false_iff.mpr e4)
              refine ⟨s5, ea5, ⟨ts, eT, by omega, ?_⟩, _, _, _, _, rfl⟩
              rw [tj, show tie1 (aliasAt ss n) (js.map (aliasAt ss)) s p = [] by unfold tie1; rw [hc, if_neg (by simp), e4, Bool.and_false, if_neg (by simp)], List.append_nil]
              exact hT
          · have e3 : decide (p.o = aliasAt ss n) = false := decide_eq_false fun z => e3 (decide_eq_true (by rw [z]))
            refine ⟨s5, ea5, ⟨ts, eT, by omega, ?_⟩, _, _, _, _, rfl⟩
            rw [tj, show tie1 (aliasAt ss n) (js.map (aliasAt ss)) s p = [] by unfold tie1; rw [hc, if_neg (by simp), e3, Bool.false_and, if_neg (by simp)], List.append_nil]
            exact hT
      · have hc : (decide (s.nick = aliasAt ss n) && decide (p.o ∈ js.map (aliasAt ss))) = false := by
          rw [show decide (s.nick = aliasAt ss n) = false from decide_eq_false fun z => e (decide_eq_true (by rw [z])), Bool.false_and]
        refine ⟨_, rfl, _, rfl, rfl, _, rfl, ite2 (fun e3 => ?_) (fun e3 => ?_)⟩
        · have e3 : decide (p.o = aliasAt ss n) = true := decide_eq_true (V.str.inj (of_decide_eq_true e3))
          refine ⟨_, rfl, _, rfl, al, _, rfl, .inl (SqL.of ea5), rfl, flat_strs _, _, rfl, ite2 (fun e4 => ?_) (fun e4 => ?_)⟩
          · have e4 : decide (s.nick ∈ js.map (aliasAt ss)) = true := (in_strs _ _).symm.trans e4
            refine ⟨_, rfl, .inl ⟨rfl, _, SqL.of eT⟩, _, rfl, _, rfl, _, rfl, (by show 3 ≤ sizeLine; decide), fun t nt => ?_⟩
            have j1 := new_same (o := .tup [.str p.d, .str s.nick, .str p.c]) nt
            refine ⟨T, ts, _, rfl, rfl, j1 _ _ eT, by omega, ?_⟩
            obtain ⟨a1, a2, a3⟩ := put (p' := ⟨p.d, s.nick, p.c⟩) nt (by unfold tie1; rw [hc, if_neg (by simp), e3, e4]; rfl) _ rfl
            exact ⟨a1, a2, a3, _, _, _, _, rfl⟩
          · have e4 : decide (s.nick ∈ js.map (aliasAt ss)) = false := (in_strs _ _).symm.trans (Bool.eq_false_iff.mpr e4)
            refine ⟨s5, ea5, ⟨ts, eT, by omega, ?_⟩, _, _, _, _, rfl⟩
            rw [tj, show tie1 (aliasAt ss n) (js.map (aliasAt ss)) s p = [] by unfold tie1; rw [hc, if_neg (by simp), e4, Bool.and_false, if_neg (by simp)], List.append_nil]
            exact hT
        · have e3 : decide (p.o = aliasAt ss n) = false := decide_eq_false fun z => e3 (decide_eq_true (by rw [z]))
          refine ⟨s5, ea5, ⟨ts, eT, by omega, ?_⟩, _, _, _, _, rfl⟩
          rw [tj, show tie1 (aliasAt ss n) (js.map (aliasAt ss)) s p = [] by unfold tie1; rw [hc, if_neg (by simp), e3, Bool.false_and, if_neg (by simp)], List.append_nil]
          exact hT
    · rintro σ H5 ⟨s5, ea5, ⟨ts, eT, lt, hT⟩, y10, y11, y12, y13, rfl⟩
      rw [lp, List.take_length] at hT
      refine ⟨s5, ea5, ⟨ts, eT, by omega, ?_⟩, _, _, _, _, _, _, _, _, rfl⟩
      rw [take_at es, List.flatMap_append, List.flatMap_cons, List.flatMap_nil, List.append_nil]
      exact hT
  · rintro σ H3 ⟨s3, ea3, ⟨ts, eT, lt, hT⟩, y6, y7, y8, y9, y10, y11, y12, y13, rfl⟩
    rw [lX, List.take_length] at hT
    exact ⟨_, rfl, q T ts H3 s3 nT0 eT hT⟩
end
end K18
end

section
set_option Elab.async false
set_option linter.all false
set_option maxRecDepth 100000
set_option maxHeartbeats 4000000
namespace Gd
open PySem PySem.Spec PyProof.Rows L2
section
variable {X : Cx}
/-- t[lo:hi], whichever object it is -/
def rSlC (K : PySem.W.Frag) : V → Option Int → Option Int → Hp → VK → Prop := fun x lo hi H Q => ∃ a xs, x = .ref a ∧ SqT K H a xs ∧ ∀ p H', Same H H' → SqT K H' p (cutV xs lo hi) → Q (.ref p) H'
theorem sl_tupC : SlR X (rSlC X.K) := by
  intro pins s σ H x v vl vu lo hi sl Q I rx hs pl pu h
  obtain ⟨a, xs, rfl, hx, q⟩ := h
  refine sl_tupA pins s σ H _ v vl vu lo hi sl Q I rx hs pl pu ⟨a, xs, rfl, hx, fun w => ?_, fun w p hp => q p _ (new_same hp) (SqT.of upd_same)⟩
  refine q a H (fun _ _ e => e) ?_
  have e : cutV xs lo hi = xs := by
    unfold cutV
    rw [w.1, w.2, List.drop_zero, Nat.sub_zero, List.take_length]
  rw [e]
  exact hx
end
theorem cutV_to {xs : List V} {i : Nat} (h : i ≤ xs.length) : cutV xs none (some (i : Int)) = xs.take i := by
  unfold cutV
  rw [HT.sIx_none, HT.sIx_nat, List.drop_zero, Nat.sub_zero, Nat.min_eq_left h]
theorem putK_new {kvs : List (Key × V)} {k : Key} {v : V} (h : ∀ x ∈ kvs, x.1 ≠ k) : putK kvs k v = kvs ++ [(k, v)] := by
  unfold putK
  rw [if_neg]
  intro e
  obtain ⟨x, hx, ex⟩ := List.any_eq_true.mp e
  exact h x hx (of_decide_eq_true ex)
/-- links in the heap -/
def LkAt (K : PySem.W.Frag) (H : Hp) (kvs : List (Key × V)) (ls : List (Nat × Pr)) : Prop := kvs.map (·.1) = ls.map (fun x => (Sum.inl ((x.1 : Nat) : Int) : Key)) ∧ DpAll K H (kvs.map (·.2)) (ls.map fun x => prD x.2)
theorem LkAt.len {K : PySem.W.Frag} {H : Hp} {kvs : List (Key × V)} {ls : List (Nat × Pr)} (h : LkAt K H kvs ls) : kvs.length = ls.length := by
  have := congrArg List.length h.1
  simpa using this
theorem LkAt.put {K : PySem.W.Frag} {H : Hp} {kvs : List (Key × V)} {ls : List (Nat × Pr)} {n : Nat} {p : Pr} {v : V} (h : LkAt K H kvs ls) (hv : Dp K H v (prD p)) (hn : ∀ x ∈ ls, x.1 ≠ n) :
    LkAt K H (putK kvs (Sum.inl ((n : Nat) : Int)) v) (ls ++ [(n, p)]) := by
  have fresh : ∀ x ∈ kvs, x.1 ≠ (Sum.inl ((n : Nat) : Int) : Key) := fun x hx e => by
    have m : x.1 ∈ ls.map (fun x => (Sum.inl ((x.1 : Nat) : Int) : Key)) := by
      rw [← h.1]
      exact List.mem_map_of_mem hx
    obtain ⟨y, hy, ey⟩ := List.mem_map.mp m
    rw [e] at ey
    have z := Sum.inl.inj ey
    exact hn y hy (by omega)
  rw [putK_new fresh]
  refine ⟨?_, ?_⟩
  · rw [List.map_append, List.map_append, h.1]
    rfl
  · rw [List.map_append, List.map_append]
    exact DpAll.snoc h.2 hv
theorem tups_dk {K : PySem.W.Frag} {H : Hp} {D : Addr} {xs ys : List (Key × V)} (e : H D = some (.dK xs)) : Tups K H (upd H D (.dK ys)) := by
  intro a zs h
  rcases h with (h | ⟨o, h⟩) | h
  · refine .inl (.inl ?_)
    rw [upd_ne (fun z => by rw [z, e] at h; cases h)]
    exact h
  · refine .inl (.inr ⟨o, ?_⟩)
    rw [upd_ne (fun z => by rw [z, e] at h; cases h)]
    exact h
  · exact .inr h
theorem prs2_only : ∀ ls : List (Nat × Pr), tupOnlyAll (ls.map fun x => prD x.2) = true
  | [] => rfl
  | p :: ps => by
    rw [List.map_cons]
    simp only [tupOnlyAll, prs2_only ps, Bool.and_true]
    rfl
theorem LkAt.tups {K : PySem.W.Frag} {H H' : Hp} {kvs : List (Key × V)} {ls : List (Nat × Pr)} (t : Tups K H H') (h : LkAt K H kvs ls) : LkAt K H' kvs ls := ⟨h.1, DpAll.tups t _ (prs2_only ls) h.2⟩
end Gd
namespace K18
open PySem PySem.Spec PyProof.Rows L2 Gd
abbrev sLk : Stmt := topS 3
abbrev nLk : List Str := ["ask", "plan", "sources", "order", "links", "place", "number", "pairs"]
theorem scLk : FnScope nLk ["ask", "plan"] (defScope sLk) := ⟨rfl, rfl, rfl, by decide +kernel, rfl, by decide +kernel, by decide +kernel⟩
/-- an ask's sources -/
def AskAt (K : PySem.W.Frag) (H : Hp) (A : Addr) (ss : List Src) : Prop := ∃ (as xs : List V) (S : Addr), SqT K H A as ∧ as[0]? = some (.ref S) ∧ SqT K H S xs ∧ DpAll K H xs (ss.map srcD)
def Small (ss : List Src) : Prop := ss.length ≤ 10 ∧ ∀ s ∈ ss, s.pairs.length ≤ 10
def intsV (order : List Nat) : List V := order.map fun j => V.int ((j : Nat) : Int)
def spLk (K : PySem.W.Frag) : Sp := fun vs H Q _ => ∃ (A PL : Addr) (ps : List V) (O : Addr) (ss : List Src) (order : List Nat), vs = [.ref A, .ref PL] ∧ AskAt K H A ss ∧ Small ss ∧ SqT K H PL ps ∧ ps[0]? = some (.ref O) ∧ SqT K H O (intsV order) ∧
  order.length ≤ ss.length ∧ order.Nodup ∧ (∀ j ∈ order, j < order.length) ∧ ∀ (l : Addr) (kvs : List (Key × V)) (H' : Hp), Same H H' → H l = none → H' l = some (.dK kvs) → LkAt K H' kvs (linksL ss order) → Q (.ref l) H'
theorem srcs_only : ∀ ss : List Src, (∀ s ∈ ss, s.pairs.length ≤ 10) → tupOnlyAll (ss.map srcD) = true
  | [], _ => rfl
  | s :: ss, h => by
    have a := prs_only s.pairs
    have b := h s (by simp)
    rw [List.map_cons]
    simp only [tupOnlyAll, srcs_only ss (fun s hs => h s (by simp [hs])), Bool.and_true, srcD, tupOnly, a, List.length_map, List.length_cons, List.length_nil, Bool.and_eq_true, decide_eq_true_eq, and_true]
    exact ⟨by decide, trivial, trivial, trivial, by omega⟩
theorem hu_of {n : Nat} {A : Around} (r : Room n A) : A.units + 1 < cLine := by
  have := r.units
  omega
section
variable {P : Program} {w : World} {K : PySem.W.Frag} {mg : Str → Option Value} {base : Heap} {f fB : Addr} {fd dB : FuncData}
theorem ok_lk (F : Fun K "links_of" "links_of" sLk f fd) (me : mg "enumerate" = none) (mr : mg "range" = none) (mn : mg "len" = none)
    (FB : Fun K "pairs_between" "pairs_between" sPB fB dB) (GB : FnOk P w K mg base CX0 1 fB dB ["sources", "number", "ahead"] (spPB K)) (bB : Binds K dB ["sources", "number", "ahead"] []) (gB : mg "pairs_between" = some (.ref fB)) :
    FnOk P w K mg base CX0 2 f fd ["ask", "plan"] (spLk K) := by
  refine F.ok scLk (fun vs H Q E h => ?_) (fun cdv A outer s0 H vs Q E hr h => ?_)
  · obtain ⟨A, PL, ps, O, ss, order, rfl, _⟩ := h
    rfl
  obtain ⟨AK, PL, ps, O, ss, order, rfl, ⟨as, xs, S, hA, e0, hS, hX⟩, ⟨s10, p10⟩, hP, e1, hO, lo, und, olt, q⟩ := h
  have nd := scLk.nd
  have zl : sizeLine = 16777216 := rfl
  have hu := hu_of hr
  refine ⟨_, pss_cons (ps_set (i := 2) nd rfl (.inl rfl) (pe_ix ix_tup (pv 0) pe_int (fun _ _ => rfl)))
      (pss_cons (ps_set (i := 3) nd rfl (.inl rfl) (pe_ix ix_tup (pv 1) pe_int (fun _ _ => rfl)))
      (pss_cons (ps_set (i := 4) nd rfl (.inl rfl) pe_dnewK)
      (pss_cons (ps_for PassesOwn.never rfl (pi_ET (by rfl) me (pa_cons (pv 3) pa_nil)) (pg_tup rfl (pgs_cons (pg_name (i := 5) nd rfl (.inl rfl)) (pgs_cons (pg_name (i := 6) nd rfl (.inl rfl)) pgs_nil)))
      (pss_cons (ps_set (i := 7) nd rfl (.inl rfl) (pe_call GB hr (by rfl) gB FB.kp bB .nil pass0 (pa_cons (pv 2) (pa_cons (pv 6) (pa_cons (pe_slice sl_tupC (pv 3) po_none (po_some (pv 5))) pa_nil)))))
      (pss_one (ps_if (pt_truth (pv 7) (by intro _; rfl))
        (pss_one (ps_dput hu (pv 4) (pv 6) (pe_ix ix_list (pv 7) pe_int (fun _ _ => rfl)) rfl)) pss_nil))))
      (pss_cons (ps_for PassesOwn.never rfl (pi_range2 (by rfl) mr (pa_cons (pe_callB call_len_seq (by rfl) mn PySem.boot_len (pa_cons (pv 3) pa_nil)) (pa_cons (pe_callB call_len_seq (by rfl) mn PySem.boot_len (pa_cons (pv 2) pa_nil)) pa_nil))) (pg_name (i := 6) nd rfl (.inl rfl))
      (pss_cons (ps_set (i := 7) nd rfl (.inl rfl) (pe_ix ix_tup (pe_ix ix_tup (pv 2) (pv 6) (fun _ _ => rfl)) pe_int (fun _ _ => rfl)))
      (pss_one (ps_if (pt_truth (pv 7) (by intro _; rfl))
        (pss_one (ps_dput hu (pv 4) (pv 6) (pe_ix ix_tup (pv 7) pe_int (fun _ _ => rfl)) rfl)) pss_nil))))
      (pss_one (ps_ret (pv 4))))))), ?_⟩
  have lX : xs.length = ss.length := by rw [DpAll.len hX, List.length_map]
  have ol : (intsV order).length = order.length := List.length_map ..
  refine ⟨_, rfl, AK, _, 0, _, rfl, rfl, hA, atI_nat (j := 0) e0, ?_⟩
  refine ⟨_, rfl, PL, _, 0, _, rfl, rfl, hP, atI_nat (j := 0) e1, ?_⟩
  refine fun l nl => ?_
  have s1 := new_same (o := .dK []) nl
  refine ⟨_, rfl, O, _, rfl, same_tup s1 hO, ?_⟩
  have only := srcs_only ss p10
  have nums1 : ∀ {i : Nat}, i < order.length → ∀ x ∈ linksA ss order i, x.1 ≠ order.getD i 0 := fun {i} hi x hx e => by
    obtain ⟨k, hk, ek⟩ := linksA_nums x hx
    rw [ek] at e
    have a : order[k]? = some (order.getD k 0) := by rw [List.getD_eq_getElem?_getD, List.getElem?_eq_getElem (by omega)] <;> rfl
    have b : order[i]? = some (order.getD i 0) := by rw [List.getD_eq_getElem?_getD, List.getElem?_eq_getElem hi] <;> rfl
    have c := (List.getElem?_inj (by omega) und).mp (a.trans ((congrArg some e).trans b.symm))
    omega
  refine for_it walk_ET (fun i σ H1 => Same H H1 ∧ (∃ kvs, H1 l = some (.dK kvs) ∧ LkAt K H1 kvs (linksA ss order i) ∧ kvs.length ≤ i) ∧ ∃ y5 y6 y7, σ = [some (.ref AK), some (.ref PL), some (.ref S), some (.ref O), some (.ref l), y5, y6, y7])
    ⟨s1, ⟨[], upd_same, ⟨rfl, .nil⟩, Nat.le_refl _⟩, _, _, _, rfl⟩ (fun i σ H1 _ h => same_tup h.1 hO) ?_ ?_
  · rintro i x σ H1 H2 hi ⟨s2, ⟨kvs, el, lk, lz⟩, y5, y6, y7, rfl⟩ ⟨T, x1, x2, rfl, nT, rfl, ei, ex⟩
    cases ei
    obtain ⟨j, ej, rfl⟩ := map_at ex
    have hi2 := at_lt ej
    have jo : order.getD i 0 = j := by rw [List.getD_eq_getElem?_getD, ej] <;> rfl
    have jlt := olt j (List.mem_of_getElem? ej)
    have j1 := new_same (o := .tup [.int ((i : Nat) : Int), .int ((j : Nat) : Int)]) nT
    refine ⟨T, _, rfl, SqT.of upd_same, rfl, _, _, rfl, _, _, rfl, rfl, ?_⟩
    have s3 := s2.trans j1
    have el3 := j1 _ _ el
    have lk3 := lk.tups (Tups.of_same j1)
    generalize upd H1 T (.tup [.int ((i : Nat) : Int), .int ((j : Nat) : Int)]) = H3 at s3 el3 lk3 ⊢
    refine ⟨_, rfl, _, rfl, _, rfl, _, rfl, _, rfl, O, _, rfl, same_tup s3 hO, fun p H4 s4 hp => ?_⟩
    rw [cutV_to (by rw [ol]; omega)] at hp
    have hp : SqT K H4 p ((order.take i).map fun j => V.int ((j : Nat) : Int)) := by
      rw [List.map_take]
      exact hp
    have s34 := s3.trans s4
    refine ⟨S, p, j, xs, ss, order.take i, rfl, same_tup s34 hS, DpAll.tups (Tups.of_same s34) _ only hX, by omega, hp, fun j hj => Nat.lt_of_lt_of_le (olt j (List.mem_of_mem_take hj)) lo, by rw [List.length_take]; omega, s10, p10, fun t ts H5 s5 nt et ht => ?_⟩
    have s35 := s34.trans s5
    have el5 := (s4.trans s5) _ _ el3
    have lk5 := lk3.tups (Tups.of_same (s4.trans s5))
    have lt : ts.length = (tied ss j (order.take i)).length := by rw [DpAll.len ht, List.length_map]
    refine ⟨_, rfl, !ts.isEmpty, .inl ⟨ts, SqL.of et, rfl⟩, ?_⟩
    cases ts with
    | nil =>
      refine iteF ⟨s35, ⟨kvs, el5, ?_, by omega⟩, _, _, _, rfl⟩
      have e : link1 ss (order.take i) (order.getD i 0) = [] := by
        rw [jo]
        unfold link1
        rw [List.eq_nil_of_length_eq_zero lt.symm]
      rw [linksA_succ, e, List.append_nil]
      exact lk5
    | cons t0 tr =>
      obtain ⟨p0, pr, ep⟩ : ∃ p0 pr, tied ss j (order.take i) = p0 :: pr := by
        cases e : tied ss j (order.take i) with
        | nil =>
          rw [e] at lt
          cases lt
        | cons p0 pr => exact ⟨_, _, rfl⟩
      rw [ep] at ht
      have hd : Dp K H5 t0 (prD p0) := by
        cases ht with
        | cons a _ => exact a
      refine iteT ?_
      refine ⟨_, rfl, t, _, 0, _, rfl, rfl, SqL.of et, atI_nat (j := 0) rfl, _, rfl, _, rfl, l, _, rfl, DPut.k (k := Sum.inl ((j : Nat) : Int)) el5 (by omega), ?_⟩
      have e : link1 ss (order.take i) (order.getD i 0) = [(j, p0)] := by
        rw [jo]
        unfold link1
        rw [ep]
      have T6 : Tups K H5 (upd H5 l (.dK (putK kvs (Sum.inl ((j : Nat) : Int)) t0))) := tups_dk el5
      have nn := nums1 hi2
      rw [jo] at nn
      refine ⟨own_same nl s35, ⟨_, upd_same, ?_, ?_⟩, _, _, _, rfl⟩
      · rw [linksA_succ, e]
        exact (lk5.put hd nn).tups T6
      · have z := (lk5.put hd nn).len
        have z2 := lk5.len
        rw [List.length_append] at z
        simp only [List.length_cons, List.length_nil] at z
        omega
  · rintro σ H1 ⟨s2, ⟨kvs, el, lk, lz⟩, y5, y6, y7, rfl⟩
    rw [ol] at lk lz
    refine ⟨_, rfl, O, _, rfl, .inr (same_tup s2 hO), _, rfl, S, _, rfl, .inr (same_tup s2 hS), ?_⟩
    rw [ol, lX]
    refine ⟨_, _, rfl, ⟨by omega, by omega, by omega, by omega⟩, ?_⟩
    rw [show (((ss.length : Nat) : Int) - ((order.length : Nat) : Int)).toNat = ss.length - order.length by omega]
    refine for_it walk_range (fun i σ H3 => Same H H3 ∧ (∃ kvs, H3 l = some (.dK kvs) ∧ LkAt K H3 kvs (linksA ss order order.length ++ linksB ss order.length i) ∧ kvs.length ≤ order.length + i) ∧ ∃ y5 y6 y7, σ = [some (.ref AK), some (.ref PL), some (.ref S), some (.ref O), some (.ref l), y5, y6, y7])
      ⟨s2, ⟨kvs, el, by unfold linksB; simpa using lk, lz⟩, _, _, _, rfl⟩ (fun _ _ _ _ _ => trivial) ?_ ?_
    · rintro i x σ H3 H4 hi ⟨s3, ⟨kvs, el, lk, lz⟩, y5, y6, y7, rfl⟩ ⟨rfl, rfl⟩
      have hi : i < ss.length - order.length := hi
      obtain ⟨d, ed, hd⟩ := DpAll.at_ hX (List.getElem?_eq_getElem (show order.length + i < xs.length by omega))
      rw [srcs_at (by omega)] at ed
      cases ed
      have es : (ss.getD (order.length + i) noSrc) ∈ ss := getD_mem' (by omega)
      have pl := p10 _ es
      have lk2 : link2 ss (order.length + i) = match (ss.getD (order.length + i) noSrc).pairs with | [] => [] | p :: _ => [(order.length + i, p)] := rfl
      generalize ss.getD (order.length + i) noSrc = s at hd es pl lk2
      obtain ⟨a, b, ps2, ev, tt, tb, hp⟩ := dp_src hd
      have lp : ps2.length = s.pairs.length := by rw [DpAll.len hp, List.length_map]
      show gName 6 (.int (((order.length : Nat) : Int) + ((i : Nat) : Int))) _ _ _
      rw [show ((order.length : Nat) : Int) + ((i : Nat) : Int) = ((order.length + i : Nat) : Int) by omega]
      refine ⟨_, rfl, _, rfl, S, _, _, _, rfl, rfl, same_tup s3 hS, atI_nat (List.getElem?_eq_getElem (show order.length + i < xs.length by omega)), a, _, 3, _, ev, rfl, same_tup s3 tt, atI_nat (j := 3) rfl, ?_⟩
      refine ⟨_, rfl, !ps2.isEmpty, .inr (.inl ⟨ps2, same_tup s3 tb, rfl⟩), ?_⟩
      have T6 : ∀ ys, Tups K H4 (upd H4 l (.dK ys)) := fun ys => tups_dk el
      cases ps2 with
      | nil =>
        refine iteF ⟨s3, ⟨kvs, el, ?_, by omega⟩, _, _, _, rfl⟩
        rw [linksB_succ, lk2, List.eq_nil_of_length_eq_zero lp.symm, List.append_nil]
        exact lk
      | cons t0 tr =>
        obtain ⟨p0, pr, ep⟩ : ∃ p0 pr, s.pairs = p0 :: pr := by
          cases e : s.pairs with
          | nil =>
            rw [e] at lp
            cases lp
          | cons p0 pr => exact ⟨_, _, rfl⟩
        rw [ep] at hp lk2
        have hd2 : Dp K H t0 (prD p0) := by
          cases hp with
          | cons a _ => exact a
        have hd3 : Dp K H4 t0 (prD p0) := Dp.tups (Tups.of_same s3) _ rfl hd2
        refine iteT ?_
        refine ⟨_, rfl, b, _, 0, _, rfl, rfl, same_tup s3 tb, atI_nat (j := 0) rfl, _, rfl, _, rfl, l, _, rfl, DPut.k (k := Sum.inl ((order.length + i : Nat) : Int)) el (by omega), ?_⟩
        have nn : ∀ x ∈ linksA ss order order.length ++ linksB ss order.length i, x.1 ≠ order.length + i := fun x hx e => by
          rcases List.mem_append.mp hx with hx | hx
          · obtain ⟨k, hk, ek⟩ := linksA_nums x hx
            have := olt (order.getD k 0) (getD_mem' hk)
            omega
          · have := (linksB_nums x hx).2
            omega
        have z := (lk.put hd3 nn).len
        have z2 := lk.len
        refine ⟨own_same nl s3, ⟨_, upd_same, ?_, ?_⟩, _, _, _, rfl⟩
        · rw [linksB_succ, lk2, ← List.append_assoc]
          exact (lk.put hd3 nn).tups (T6 _)
        · rw [List.length_append, List.length_append] at z
          rw [List.length_append] at z2
          simp only [List.length_cons, List.length_nil] at z
          omega
    · rintro σ H3 ⟨s3, ⟨kvs, el, lk, lz⟩, y5, y6, y7, rfl⟩
      exact ⟨_, rfl, q l kvs H3 s3 nl el lk⟩
end
end K18
end

section
set_option Elab.async false
set_option linter.all false
set_option maxRecDepth 100000
set_option maxHeartbeats 4000000
namespace K18
open PySem PySem.Spec PyProof.Rows L2 Gd
abbrev sPl : Stmt := topS 2
abbrev nPl : List Str := ["ask", "withs", "plans", "order", "source"]
theorem scPl : FnScope nPl ["ask"] (defScope sPl) := ⟨rfl, rfl, rfl, by decide +kernel, rfl, by decide +kernel, by decide +kernel⟩
def isWi (s : Src) : Bool := decide (s.way = "with")
def anyP (ss : List Src) : Bool := ss.any fun s => !s.pairs.isEmpty
def spPl (K : PySem.W.Frag) : Sp := fun vs H Q _ => ∃ (A : Addr) (ss : List Src) (m : Nat), vs = [.ref A] ∧ AskAt K H A ss ∧ Small ss ∧ Well ss m ∧ (ss.filter isWi).length = m ∧ 1 ≤ m ∧ m ≤ 3 ∧
  ∀ (us : List V) (p : Addr) (H' : Hp), Same H H' → H p = none → H' p = some (.lst us) → DpAll K H' us (plansL m (anyP ss)) → Q (.ref p) H'
/-- an order of permutations -/
theorem perms_ok {m i : Nat} {o : List Nat} (h1 : 1 ≤ m) (h3 : m ≤ 3) (h : (Pm.perms m)[i]? = some o) : o.length = m ∧ o.Nodup ∧ (∀ j ∈ o, j < m) ∧ (∀ j, j < m → ∃ a, a < m ∧ o.getD a 0 = j) ∧ ∀ a, a < m → o.getD a 0 < m := by
  have all : ∀ m, 1 ≤ m → m ≤ 3 → ∀ o ∈ Pm.perms m, o.length = m ∧ o.Nodup ∧ (∀ j ∈ o, j < m) ∧ (∀ j, j < m → ∃ a, a < m ∧ o.getD a 0 = j) ∧ ∀ a, a < m → o.getD a 0 < m := by
    intro m h1 h3
    match m, h1, h3 with
    | 1, _, _ => decide
    | 2, _, _ => decide
    | 3, _, _ => decide
  exact all m h1 h3 o (List.mem_of_getElem? h)
theorem links_emp {ss : List Src} {m : Nat} {o : List Nat} (w : Well ss m) {i : Nat} (h1 : 1 ≤ m) (h3 : m ≤ 3) (h : (Pm.perms m)[i]? = some o) : (linksL ss o).isEmpty = !anyP ss := by
  obtain ⟨a, b, c, d, e⟩ := perms_ok h1 h3 h
  cases q : anyP ss with
  | true =>
    obtain ⟨s, hs, hp⟩ := List.any_eq_true.mp q
    obtain ⟨k, hk⟩ := List.mem_iff_getElem?.mp hs
    have kl := at_lt hk
    have ek : ss.getD k noSrc = s := by rw [List.getD_eq_getElem?_getD, hk] <;> rfl
    have ne : linksL ss o ≠ [] := links_some w a d e kl (by
      rw [ek]
      intro z
      rw [z] at hp
      cases hp)
    cases z : linksL ss o with
    | nil => exact absurd z ne
    | cons _ _ => rfl
  | false =>
    have : linksL ss o = [] := links_none fun s hs => by
      have := List.any_eq_false.mp q s hs
      cases z : s.pairs with
      | nil => rfl
      | cons _ _ => rw [z] at this; exact absurd rfl this
    rw [this]
    rfl
theorem pl_only (o : List Nat) (w : Str) (h : o.length ≤ 1000) : tupOnly (pl o w) = true := by
  have : ∀ o : List Nat, tupOnlyAll (o.map fun k => PyData.int ((k : Nat) : Int)) = true := fun o => by
    induction o with
    | nil => rfl
    | cons k o ih => rw [List.map_cons]; simp only [tupOnlyAll, tupOnly, ih, Bool.and_self]
  simp only [pl, tupOnly, tupOnlyAll, this, Bool.and_true, List.length_cons, List.length_nil, List.length_map, Bool.and_eq_true, decide_eq_true_eq]
  exact ⟨by decide, h⟩
theorem pl_dp {K : PySem.W.Frag} {H : Hp} {t O : Addr} {o : List Nat} {w : Str} (ht : SqT K H t [.ref O, .str w]) (hO : SqT K H O (intsV o)) : Dp K H (.ref t) (pl o w) := by
  refine .tup ht (.cons (.tup hO ?_) (.cons (.str _) .nil))
  have : ∀ o : List Nat, DpAll K H (intsV o) (o.map fun k => PyData.int ((k : Nat) : Int)) := fun o => by
    induction o with
    | nil => exact .nil
    | cons k o ih => exact .cons (.int _) ih
  exact this o
def gen1 (b : Bool) (o : List Nat) : List PyData := if b then [pl o "walked", pl o "kept"] else [pl o "walked"]
theorem gens_only (b : Bool) : ∀ os : List (List Nat), (∀ o ∈ os, o.length ≤ 1000) → tupOnlyAll (os.flatMap (gen1 b)) = true
  | [], _ => rfl
  | o :: os, h => by
    have a := pl_only o "walked" (h o (by simp))
    have c := pl_only o "kept" (h o (by simp))
    have ih := gens_only b os fun o m => h o (by simp [m])
    rw [List.flatMap_cons]
    cases b with
    | true => show tupOnlyAll (pl o "walked" :: pl o "kept" :: os.flatMap (gen1 true)) = true; simp only [tupOnlyAll, a, c, ih, Bool.and_self]
    | false => show tupOnlyAll (pl o "walked" :: os.flatMap (gen1 false)) = true; simp only [tupOnlyAll, a, ih, Bool.and_self]
def gen2 (b : Bool) (o : List Nat) : List PyData := if b then [pl o "kept", pl o "walked"] else [pl o "walked"]
theorem gens2_only (b : Bool) : ∀ os : List (List Nat), (∀ o ∈ os, o.length ≤ 1000) → tupOnlyAll (os.flatMap (gen2 b)) = true
  | [], _ => rfl
  | o :: os, h => by
    have a := pl_only o "walked" (h o (by simp))
    have c := pl_only o "kept" (h o (by simp))
    have ih := gens2_only b os fun o m => h o (by simp [m])
    rw [List.flatMap_cons]
    cases b with
    | true => show tupOnlyAll (pl o "kept" :: pl o "walked" :: os.flatMap (gen2 true)) = true; simp only [tupOnlyAll, a, c, ih, Bool.and_self]
    | false => show tupOnlyAll (pl o "walked" :: os.flatMap (gen2 false)) = true; simp only [tupOnlyAll, a, ih, Bool.and_self]
theorem rg_m (m : Nat) : rgV 0 ((m : Nat) : Int) = (List.range m).map fun k => V.int ((k : Nat) : Int) := by
  unfold rgV
  rw [show (((m : Nat) : Int) - 0).toNat = m by omega]
  exact List.map_congr_left fun i _ => by rw [Int.zero_add]
theorem only_snoc : ∀ {ds : List PyData} {d : PyData}, tupOnlyAll ds = true → tupOnly d = true → tupOnlyAll (ds ++ [d]) = true
  | [], d, _, h => by simp only [List.nil_append, tupOnlyAll, h, Bool.and_true]
  | x :: r, d, a, h => by
    rw [List.cons_append]
    simp only [tupOnlyAll, Bool.and_eq_true] at a ⊢
    exact ⟨a.1, only_snoc a.2 h⟩
theorem gen_deep {m : Nat} {b : Bool} (h1 : 1 ≤ m) (h3 : m ≤ 3) : ∀ d ∈ genL m b, d.depth ≤ 50 := by
  match m, b, h1, h3 with
  | 1, true, _, _ => decide +kernel
  | 1, false, _, _ => decide +kernel
  | 2, true, _, _ => decide +kernel
  | 2, false, _, _ => decide +kernel
  | 3, true, _, _ => decide +kernel
  | 3, false, _, _ => decide +kernel
section
variable {P : Program} {w : World} {K : PySem.W.Frag} {mg : Str → Option Value} {base : Heap} {f fL : Addr} {fd dL : FuncData}
theorem ok_pl (F : Fun K "plans_of" "plans_of" sPl f fd) (mp : mg "permutations" = some (.type "itertools.permutations")) (ml : mg "list" = none) (mr : mg "range" = none) (mn : mg "len" = none) (ms : mg "sorted" = none)
    (FL : Fun K "links_of" "links_of" sLk fL dL) (GL : FnOk P w K mg base CX0 2 fL dL ["ask", "plan"] (spLk K)) (bL : Binds K dL ["ask", "plan"] []) (gL : mg "links_of" = some (.ref fL)) :
    FnOk P w K mg base CX0 3 f fd ["ask"] (spPl K) := by
  refine F.ok scPl (fun vs H Q E h => ?_) (fun cdv A outer s0 H vs Q E hr h => ?_)
  · obtain ⟨A, ss, m, rfl, _⟩ := h
    rfl
  obtain ⟨AK, ss, m, rfl, hK, hs, hw, hm, m1, m3, q⟩ := h
  have nd := scPl.nd
  have zl : sizeLine = 16777216 := rfl
  refine ⟨_, pss_cons (ps_setLc (i := 1) (own := [("source", 4)]) (g := gName 4) rfl nd rfl rfl (by rfl) (pi_tup (pe_ix ix_tup (pv 0) pe_int (fun _ _ => rfl))) (blkOk_by (N := nPl) (sc := defScope sPl) (by decide +kernel)) (fun _ _ _ _ _ => pg_name (i := 4) nd rfl (Or.inl rfl)) (fun _ _ _ _ _ => pts_one (pt_cmpR op_eq (pe_ix (r := rIxT K) ix_tup (pv 4) pe_int (fun _ _ => rfl)) pe_str (nomark _))) (fun _ _ _ _ _ => (pv 4)))
      (pss_cons (ps_set (i := 2) nd rfl (.inl rfl) (pe_lst pa_nil))
      (pss_cons (ps_for PassesOwn.never rfl (Pm.pi_pm (by rfl) mp (pa_cons (pe_listRg rfl (by rfl) ml (prg_1 (by rfl) mr (pe_callB call_len_seq (by rfl) mn PySem.boot_len (pa_cons (pv 1) pa_nil)))) pa_nil)) (pg_name (i := 3) nd rfl (.inl rfl))
      (pss_cons (ps_expr (pe_bm PySem.F.plainAttrs_list PySem.F.slot_list_append PySem.F.type_list_append mt_append (pv 2) (pa_cons (pe_tup (pa_cons (pv 3) (pa_cons pe_str pa_nil))) pa_nil)))
      (pss_one (ps_if (pt_truth (pe_call GL hr (by rfl) gL FL.kp bL .nil pass0 (pa_cons (pv 0) (pa_cons (pe_tup (pa_cons (pv 3) (pa_cons pe_str pa_nil))) pa_nil))) (by intro _; rfl))
        (pss_one (ps_expr (pe_bm PySem.F.plainAttrs_list PySem.F.slot_list_append PySem.F.type_list_append mt_append (pv 2) (pa_cons (pe_tup (pa_cons (pv 3) (pa_cons pe_str pa_nil))) pa_nil)))) pss_nil))))
      (pss_one (ps_ret (pe_callB (call_sortedD hr.units) (by rfl) ms (by decide +kernel) (pa_cons (pv 2) pa_nil)))))), ?_⟩
  have hu := hu_of hr
  obtain ⟨as, xs, S, hA, e0, hS, hX⟩ := id hK
  obtain ⟨s10, p10⟩ := id hs
  have lX : xs.length = ss.length := by rw [DpAll.len hX, List.length_map]
  refine ⟨_, rfl, AK, _, 0, _, rfl, rfl, hA, atI_nat (j := 0) e0, S, rfl, ⟨_, hS⟩, fun W nW => ?_⟩
  refine lc_it walk_tup (fun i H1 => Same H H1 ∧ ∃ acc, H1 W = some (.lst acc) ∧ acc.length = ((ss.take i).filter isWi).length) ⟨new_same nW, _, upd_same, rfl⟩ (fun i H1 _ h => same_tup h.1 hS) ?_ ?_
  · rintro i x H1 H2 hi ⟨s1, acc, eW, la⟩ ⟨rfl, ex⟩
    have hi : i < xs.length := hi
    obtain ⟨d, ed, hd⟩ := DpAll.at_ hX ex
    rw [srcs_at (by omega)] at ed
    cases ed
    have es : ss[i]? = some (ss.getD i noSrc) := by rw [List.getD_eq_getElem?_getD, List.getElem?_eq_getElem (by omega)] <;> rfl
    generalize ss.getD i noSrc = s at hd es
    obtain ⟨a, b, ps, rfl, tt, tb, hp⟩ := dp_src hd
    have tk : ((ss.take (i + 1)).filter isWi).length = ((ss.take i).filter isWi).length + (if isWi s then 1 else 0) := by
      rw [take_at es, List.filter_append, List.length_append]
      cases z : isWi s <;> simp [List.filter, z]
    have lf := List.length_filter_le isWi (ss.take i)
    rw [List.length_take] at lf
    refine ⟨rfl, ?_⟩
    refine ⟨_, rfl, a, _, 0, _, rfl, rfl, same_tup s1 tt, atI_nat (j := 0) rfl, rfl, _, rfl, ?_⟩
    by_cases z : s.way = "with"
    · have zi : isWi s = true := decide_eq_true z
      rw [show decide (V.str s.way = V.str "with") = true from decide_eq_true (congrArg V.str z)]
      refine iteT ?_
      refine ⟨_, rfl, _, eW, by omega, own_same nW s1, _, upd_same, ?_⟩
      rw [tk, zi, List.length_append, la]
      rfl
    · have zi : isWi s = false := decide_eq_false z
      rw [show decide (V.str s.way = V.str "with") = false from decide_eq_false (fun e => z (V.str.inj e))]
      refine iteF ⟨s1, acc, eW, ?_⟩
      rw [tk, zi, la]
      rfl
  rintro H1 ⟨s1, acc, eW, la⟩
  rw [lX, List.take_length, hm] at la
  refine ⟨Nat.zero_le _, fun T nT => ?_⟩
  have s2 := s1.trans (new_same (o := .lst []) nT)
  have nT0 : H T = none := s1.free nT
  have hW2 := new_same (o := .lst []) nT _ _ eW
  have nWT : W ≠ T := ne_of_none eW nT
  have T0 : upd H1 T (.lst []) T = some (.lst []) := upd_same
  generalize upd H1 T (.lst []) = H2 at s2 hW2 T0 ⊢
  refine ⟨_, rfl, W, _, rfl, .inl (SqL.of hW2), ?_⟩
  rw [la]
  refine ⟨_, rfl, ⟨by omega, by omega, by omega, by omega, by omega⟩, fun L nL => ?_⟩
  have s3 := s2.trans (new_same (o := .lst (rgV 0 ((m : Nat) : Int))) nL)
  have T3 := new_same (o := .lst (rgV 0 ((m : Nat) : Int))) nL _ _ T0
  have eL : upd H2 L (.lst (rgV 0 ((m : Nat) : Int))) L = some (.lst ((List.range m).map fun k => V.int ((k : Nat) : Int))) := by
    rw [upd_same, rg_m]
  refine ⟨L, m, rfl, SqL.of eL, m1, m3, ?_⟩
  generalize upd H2 L (.lst (rgV 0 ((m : Nat) : Int))) = H3 at s3 T3
  have lenP : (Pm.perms m).length ≤ 6 := by
    match m, m1, m3 with
    | 1, _, _ => decide
    | 2, _, _ => decide
    | 3, _, _ => decide
  refine for_it Pm.walk_pm (fun i σ H4 => Same H H4 ∧ (∃ ts, H4 T = some (.lst ts) ∧ DpAll K H4 ts (((Pm.perms m).take i).flatMap (gen1 (anyP ss))) ∧ ts.length ≤ 2 * i) ∧ ∃ y3 y4, σ = [some (.ref AK), some (.ref W), some (.ref T), y3, y4])
    ⟨s3, ⟨[], T3, .nil, Nat.le_refl _⟩, _, _, rfl⟩ (fun _ _ _ _ _ => trivial) ?_ ?_
  · rintro i x σ H4 H5 hi ⟨s4, ⟨ts, eT, ht, lt⟩, y3, y4, rfl⟩ ⟨O, o, rfl, nO, eo, rfl⟩
    obtain ⟨o1, o2, o3, o4, o5⟩ := perms_ok m1 m3 eo
    have j1 := new_same (o := .tup (intsV o)) nO
    have s5 := s4.trans j1
    have eT5 := j1 _ _ eT
    have hO : SqT K (upd H4 O (.tup (intsV o))) O (intsV o) := SqT.of upd_same
    have only : tupOnlyAll (((Pm.perms m).take i).flatMap (gen1 (anyP ss))) = true := gens_only _ _ fun o' h' => by
      obtain ⟨k, hk⟩ := List.mem_iff_getElem?.mp (List.mem_of_mem_take h')
      have := (perms_ok m1 m3 hk).1
      omega
    have ht5 := DpAll.tups (Tups.of_same j1) _ only ht
    have tk : ((Pm.perms m).take (i + 1)).flatMap (gen1 (anyP ss)) = ((Pm.perms m).take i).flatMap (gen1 (anyP ss)) ++ gen1 (anyP ss) o := by
      rw [take_at eo, List.flatMap_append]
      simp
    show gName 3 (.ref O) _ (upd H4 O (.tup (intsV o))) _
    generalize upd H4 O (.tup (intsV o)) = H5 at s5 eT5 hO ht5 ⊢
    refine ⟨_, rfl, .inl ⟨rfl, _, SqL.of eT5⟩, _, rfl, (by show 2 ≤ sizeLine; decide), fun t nt => ?_⟩
    have j2 := new_same (o := .tup [.ref O, .str "walked"]) nt
    have eT6 := j2 _ _ eT5
    refine ⟨T, ts, _, rfl, rfl, eT6, by omega, ?_⟩
    have s6 := s5.trans j2
    have hO6 := same_tup j2 hO
    have ht6 := DpAll.tups (Tups.of_same j2) _ only ht5
    have tt6 : SqT K (upd H5 t (.tup [.ref O, .str "walked"])) t [.ref O, .str "walked"] := SqT.of upd_same
    generalize upd H5 t (.tup [.ref O, .str "walked"]) = H6 at s6 eT6 hO6 ht6 tt6 ⊢
    have u7 := Tups.upd_lst (K := K) (ys := ts ++ [.ref t]) eT6
    have s7 := own_same (o := .lst (ts ++ [.ref t])) nT0 s6
    have ht7 := DpAll.snoc ht6 (pl_dp tt6 hO6)
    have only7 : tupOnlyAll (((Pm.perms m).take i).flatMap (gen1 (anyP ss)) ++ [pl o "walked"]) = true := only_snoc only (pl_only o _ (by omega))
    have ht7 := DpAll.tups u7 _ only7 ht7
    have hO7 := u7 _ _ hO6
    have eT7 : upd H6 T (.lst (ts ++ [.ref t])) T = some (.lst (ts ++ [.ref t])) := upd_same
    generalize upd H6 T (.lst (ts ++ [.ref t])) = H7 at s7 ht7 hO7 eT7 ⊢
    have l7 : (ts ++ [V.ref t]).length = ts.length + 1 := List.length_append ..
    generalize ts ++ [V.ref t] = ts7 at ht7 eT7 l7
    -- the links of the plan
    refine ⟨_, rfl, _, rfl, (by show 2 ≤ sizeLine; decide), fun p np => ?_⟩
    have j8 := new_same (o := .tup [.ref O, .str "walked"]) np
    have s8 := s7.trans j8
    have pp8 : SqT K (upd H7 p (.tup [.ref O, .str "walked"])) p [.ref O, .str "walked"] := SqT.of upd_same
    have hO8 := same_tup j8 hO7
    have eT8 := j8 _ _ eT7
    have ht8 := DpAll.tups (Tups.of_same j8) _ only7 ht7
    generalize upd H7 p (.tup [.ref O, .str "walked"]) = H8 at s8 pp8 hO8 eT8 ht8 ⊢
    have ol : o.length ≤ ss.length := by
      have := List.length_filter_le isWi ss
      omega
    refine ⟨AK, p, _, O, ss, o, rfl, ⟨as, xs, S, same_tup s8 hA, e0, same_tup s8 hS, DpAll.tups (Tups.of_same s8) _ (srcs_only ss p10) hX⟩, ⟨s10, p10⟩, pp8, rfl, hO8, ol, o2, fun j hj => by rw [o1]; exact o3 j hj, fun l kvs H9 s9 nl el lk => ?_⟩
    have lz := lk.len
    have le := links_emp hw m1 m3 eo
    have ez : kvs.isEmpty = !anyP ss := by
      rw [← le]
      cases kvs with
      | nil => cases q : linksL ss o with
        | nil => rfl
        | cons _ _ => rw [q] at lz; cases lz
      | cons _ _ => cases q : linksL ss o with
        | nil => rw [q] at lz; cases lz
        | cons _ _ => rfl
    have s89 := s8.trans s9
    have eT9 := s9 _ _ eT8
    have ht9 := DpAll.tups (Tups.of_same s9) _ only7 ht8
    have hO9 := same_tup s9 hO8
    refine ⟨!kvs.isEmpty, .inr (.inr ⟨kvs, el, rfl⟩), ?_⟩
    rw [ez, Bool.not_not]
    cases z : anyP ss with
    | false =>
      refine iteF ⟨s89, ⟨ts7, eT9, ?_, by omega⟩, _, _, rfl⟩
      rw [z] at tk ht9
      rw [tk]
      exact ht9
    | true =>
      refine iteT ?_
      refine ⟨_, rfl, .inl ⟨rfl, _, SqL.of eT9⟩, _, rfl, (by show 2 ≤ sizeLine; decide), fun r nr => ?_⟩
      have j10 := new_same (o := .tup [.ref O, .str "kept"]) nr
      have eT10 := j10 _ _ eT9
      refine ⟨T, ts7, _, rfl, rfl, eT10, by omega, ?_⟩
      have s10' := s89.trans j10
      have ht10 := DpAll.tups (Tups.of_same j10) _ only7 ht9
      have hO10 := same_tup j10 hO9
      have rr : SqT K (upd H9 r (.tup [.ref O, .str "kept"])) r [.ref O, .str "kept"] := SqT.of upd_same
      have ht11 := DpAll.snoc ht10 (pl_dp rr hO10)
      have only11 := only_snoc only7 (pl_only o "kept" (by omega))
      have u11 := Tups.upd_lst (K := K) (ys := ts7 ++ [.ref r]) eT10
      refine ⟨own_same nT0 s10', ⟨ts7 ++ [.ref r], upd_same, ?_, by rw [List.length_append]; show ts7.length + 1 ≤ _; omega⟩, _, _, rfl⟩
      have ht12 := DpAll.tups u11 _ only11 ht11
      rw [z] at tk ht12
      rw [tk]
      rw [List.append_assoc] at ht12
      exact ht12
  · rintro σ H4 ⟨s4, ⟨ts, eT, ht, lt⟩, y3, y4, rfl⟩
    rw [List.take_length] at ht
    refine ⟨_, rfl, T, ts, genL m (anyP ss), rfl, SqL.of eT, ht, al_gen _ _ m1 m3, so_gen _ _, ?_, ?_, fun us p np hu => ?_⟩
    · have := DpAll.len ht
      show ((Pm.perms m).flatMap (gen1 (anyP ss))).length ≤ 1000
      omega
    · exact gen_deep m1 m3
    · rw [told_gen _ _ m1 m3] at hu
      have j := new_same (o := .lst us) np
      refine q us p _ (s4.trans j) (s4.free np) upd_same (DpAll.tups (Tups.of_same j) _ (gens2_only _ _ fun o' h' => ?_) hu)
      obtain ⟨k, hk⟩ := List.mem_iff_getElem?.mp h'
      have := (perms_ok m1 m3 hk).1
      omega
end
end K18
end

section
set_option Elab.async false
set_option linter.all false
set_option maxRecDepth 100000
set_option maxHeartbeats 4000000
namespace K18
open PySem PySem.Spec PyProof.Rows L2 Gd
abbrev sNm : Stmt := topS 8
abbrev nNm : List Str := ["_law_pen_here", "_law_many", "_law_letters", "_law_first", "_law_ending", "_law_k"]
theorem scNm : FnScope nNm ["_law_pen_here", "_law_many"] (defScope sNm) := ⟨rfl, rfl, rfl, by decide +kernel, rfl, by decide +kernel, by decide +kernel⟩
def ends5 : List Str := ["", "", "a", "with", "abcdefg"]
def nm (f : Nat) (y : Str) (k : Nat) : Str := (⟨#[97 + (f + 3 * k) % 26]⟩ : Str) ++ y
def nms (f : Nat) (y : Str) : List Str := (List.range 5).map (nm f y)
theorem nms_nodup : ∀ f, f < 26 → ∀ y ∈ ends5, (nms f y).Nodup := by decide +kernel
theorem nm_plain : ∀ k, k < 5 → ∀ f, f < 26 → ∀ y ∈ ends5, ((nm f y k).cps.toList.all fun c => decide (c < 128)) = true ∧ (nm f y k).length ≤ 30 := by decide +kernel
theorem let26 : ∀ n : Nat, n < 26 → atI ("abcdefghijklmnopqrstuvwxyz" : Str).cps.toList ((n : Nat) : Int) = some (97 + n) := by decide +kernel
def spNm : Sp := fun vs H Q _ => ∃ (l c : Addr) (S : Int), vs = [.ref l, .int 5] ∧ Pen H l c S ∧ S ≤ 90000 ∧
  ∀ (a : Addr) (ns : List Str) (H' : Hp), H a = none → H' a = some (.lst (ns.map V.str)) → ns.length = 5 → ns.Nodup → (∀ n ∈ ns, Szg.Pl n) → Pen H' l c (S + 2) → Ex1 l H H' → Q (.ref a) H'
theorem upto {n : Nat} : Walk (Itr 0 n) n (fun _ => True) (YFn fun i => .int ((i : Nat) : Int)) :=
  walk_range.mono (fun _ _ => trivial) (fun i H x H' _ _ y => ⟨y.1, y.2.trans (by show V.int (0 + ((i : Nat) : Int)) = V.int ((i : Nat) : Int); rw [Int.zero_add])⟩)
theorem free_ex1 {l q : Addr} {H H' : Hp} (x : Ex1 l H H') (n : q ≠ l) (h : H' q = none) : H q = none := by
  cases e : H q with
  | none => rfl
  | some o =>
    have := x q o n e
    rw [h] at this
    cases this
theorem ex1_same {l : Addr} {H H' : Hp} (s : Same H H') : Ex1 l H H' := fun a o _ e => s a o e
section
variable {P : Program} {w : World} {K : PySem.W.Frag} {mg : Str → Option Value} {base : Heap} {f fT : Addr} {fd dT : FuncData}
theorem ok_nm (F : Fun K "_law_names" "_law_names" sNm f fd) (mr : mg "range" = none) (FT : Fun K "_law_take" "_law_take" sDraw fT dT) (G : FnOk P w K mg base CX0 1 fT dT ["_law_pen_here", "_law_many"] spDraw) (bT : Binds K dT ["_law_pen_here", "_law_many"] []) (gT : mg "_law_take" = some (.ref fT)) :
    FnOk P w K mg base CX0 2 f fd ["_law_pen_here", "_law_many"] spNm := by
  refine F.ok scNm (fun vs H Q E h => ?_) (fun cdv A outer s H vs Q E hr h => ?_)
  · obtain ⟨l, c, S, rfl, _⟩ := h
    rfl
  obtain ⟨l, c, S, rfl, hP, hS, q⟩ := h
  have nd := scNm.nd
  have zl : sizeLine = 16777216 := rfl
  refine ⟨_, pss_cons (ps_set (i := 2) nd rfl (by first | exact .inl rfl | exact .inr rfl) pe_str)
    (pss_cons (ps_set (i := 3) nd rfl (by first | exact .inl rfl | exact .inr rfl) (pe_call G hr (by rfl) gT FT.kp bT .nil pass0 (pa_cons (pv 0) (pa_cons pe_int pa_nil))))
    (pss_cons (ps_set (i := 4) nd rfl (by first | exact .inl rfl | exact .inr rfl) (pe_ix ix_list (pe_lst (pa_cons pe_str (pa_cons pe_str (pa_cons pe_str (pa_cons pe_str (pa_cons pe_str pa_nil)))))) (pe_call G hr (by rfl) gT FT.kp bT .nil pass0 (pa_cons (pv 0) (pa_cons pe_int pa_nil))) (fun _ _ => rfl)))
    (pss_one (ps_ret (pe_lc (own := [("_law_k", 5)]) (g := gName 5) (tt := tYes) rfl nd (pi_range1 (by rfl) mr (pa_cons (pv 1) pa_nil)) (blkOk_by (N := nNm) (sc := defScope sNm) (by decide +kernel)) (fun _ _ _ _ _ => pg_name (i := 5) nd rfl (Or.inl rfl)) (fun _ _ _ _ _ => pts_nil)
      (fun _ _ _ _ _ => pe_op op_add_str (pe_ix ix_str (pv 2) (pe_op op_modN (pe_op op_add (pv 3) (pe_op op_mul pe_int (pv 5))) pe_int) (fun _ _ => rfl)) (pv 4)))))))
  , ?_⟩
  refine ⟨_, rfl, l, c, 26, S, rfl, hP, by decide, by decide, by omega, fun r1 H1 r10 r11 p1 x1 => ?_⟩
  refine ⟨(by show 5 ≤ sizeLine; decide), fun b nb => ?_⟩
  have p2 := p1.same (new_same (o := .lst [.str "", .str "", .str "a", .str "with", .str "abcdefg"]) nb)
  refine ⟨_, rfl, l, c, 5, _, rfl, p2, by decide, by decide, by omega, fun r3 H3 r30 r31 p3 x3 => ?_⟩
  obtain ⟨y, hy, ey⟩ := at_list (f := V.str) (xs := ["", "", "a", "with", "abcdefg"]) r30 (by simpa using r31)
  have ly : y.length ≤ 7 := by
    simp only [List.mem_cons, List.not_mem_nil, or_false] at hy
    rcases hy with rfl | rfl | rfl | rfl | rfl <;> decide +kernel
  refine ⟨b, _, _, .str y, rfl, rfl, SqL.of (x3 _ _ (p1.not nb).1 upd_same), ey, ?_⟩
  have x13 : Ex1 l H H3 := (x1.trans (Ex1.new nb)).trans x3
  refine ⟨_, rfl, _, rfl, by omega, by omega, fun D nD => ?_⟩
  have nDl := (p3.not nD).1
  have nD0 : H D = none := free_ex1 x13 nDl nD
  refine lc_it upto (fun j H5 => Same H3 H5 ∧ H5 D = some (.lst (((List.range j).map (nm r1.toNat y)).map V.str))) ⟨new_same nD, upd_same⟩ (fun _ _ _ _ => trivial) ?_ ?_
  · rintro j x H5 H6 hj ⟨s5, et⟩ ⟨rfl, rfl⟩
    obtain ⟨u0, u1⟩ := fmod_in (r1 + 3 * ((j : Nat) : Int)) (b := 26) (by omega)
    have em : (r1 + 3 * ((j : Nat) : Int)).fmod 26 = (((r1.toNat + 3 * j) % 26 : Nat) : Int) := by
      rw [Int.fmod_eq_emod_of_nonneg _ (by omega)]
      omega
    have ech := let26 ((r1.toNat + 3 * j) % 26) (Nat.mod_lt _ (by decide))
    rw [← em] at ech
    refine ⟨rfl, ?_⟩
    refine ⟨_, rfl, _, rfl, _, rfl, _, _, rfl, rfl, .inl ⟨by decide, by decide⟩, _, _, rfl, rfl, _, _, rfl, rfl, by omega, _, _, _, rfl, rfl, by decide +kernel, ech, ?_⟩
    refine ⟨_, rfl, _, _, rfl, rfl, (by show 1 + y.length ≤ sizeLine; omega), ?_⟩
    refine ⟨_, et, by rw [List.length_map, List.length_map, List.length_range]; omega, own_same nD s5, ?_⟩
    rw [upd_same, List.range_succ, List.map_append, List.map_append]
    rfl
  rintro H5 ⟨s5, et⟩
  refine q D (nms r1.toNat y) H5 nD0 et rfl (nms_nodup _ (by omega) _ hy) (fun n hn => ?_) ((p3.same s5).le (by omega)) (x13.trans (ex1_same s5))
  obtain ⟨k, hk, rfl⟩ := List.mem_map.mp hn
  obtain ⟨a1, a2⟩ := nm_plain k (List.mem_range.mp hk) r1.toNat (by omega) y hy
  exact ⟨fun c hc => of_decide_eq_true (List.all_eq_true.mp a1 c hc), a2⟩
end
end K18
end

section
set_option Elab.async false
set_option linter.all false
set_option maxRecDepth 100000
set_option maxHeartbeats 4000000
namespace K18
open PySem PySem.Spec PyProof.Rows L2 Gd
abbrev sSc : Stmt := topS 9
abbrev nSc : List Str := ["_law_pen_here", "_law_names_here", "_law_many", "_law_tables", "_law_found", "_law_k", "_law_pairs", "_law_turn", "_law_ends", "_law_way"]
theorem scSc : FnScope nSc ["_law_pen_here", "_law_names_here"] (defScope sSc) := ⟨rfl, rfl, rfl, by decide +kernel, rfl, by decide +kernel, by decide +kernel⟩
/-- a pair of the i-th source -/
def PrOk (ns : List Str) (m i : Nat) (p : Pr) : Prop := Szg.Pl p.c ∧ Szg.Pl p.o ∧ Szg.Pl p.d ∧ ∃ j, j < i ∧ j < m ∧ p.o = ns.getD j ""
structure SrcOk (ns : List Str) (m i : Nat) (s : Src) : Prop where
  al : s.nick = ns.getD i ""
  way : isWi s = decide (i < m)
  two : s.pairs.length ≤ 2
  prs : ∀ p ∈ s.pairs, PrOk ns m i p
  w : Szg.Pl s.way
  t : Szg.Pl s.table
def SrcsOk (ns : List Str) (m : Nat) (ss : List Src) : Prop := ∀ i s, ss[i]? = some s → SrcOk ns m i s
theorem SrcsOk.snoc {ns : List Str} {m : Nat} {ss : List Src} {s : Src} (h : SrcsOk ns m ss) (a : SrcOk ns m ss.length s) : SrcsOk ns m (ss ++ [s]) := by
  intro i t e
  by_cases z : i < ss.length
  · rw [List.getElem?_append_left z] at e
    exact h i t e
  · rw [List.getElem?_append_right (by omega)] at e
    have := at_lt e
    have e0 : i - ss.length = 0 := by simpa using this
    rw [e0] at e
    cases e
    rw [show i = ss.length by omega]
    exact a
/-- what the sources are, all in all -/
structure Drawn (ss : List Src) (m : Nat) : Prop where
  well : Well ss m
  withs : (ss.filter isWi).length = m
  m1 : 1 ≤ m
  m3 : m ≤ 3
  five : ss.length ≤ 5
  small : ∀ s ∈ ss, s.pairs.length ≤ 2 ∧ Szg.Pl s.way ∧ Szg.Pl s.nick ∧ Szg.Pl s.table ∧ ∀ p ∈ s.pairs, Szg.Pl p.c ∧ Szg.Pl p.o ∧ Szg.Pl p.d
theorem withs_len {ns : List Str} {m : Nat} : ∀ (ss : List Src), SrcsOk ns m ss → (ss.filter isWi).length = min ss.length m := by
  intro ss h
  have key : ∀ (k : Nat), k ≤ ss.length → ((ss.take k).filter isWi).length = min k m := fun k => by
    induction k with
    | zero => intro _; simp
    | succ k ih =>
      intro hk
      have e : ss[k]? = some (ss.getD k noSrc) := by rw [List.getD_eq_getElem?_getD, List.getElem?_eq_getElem (by omega)] <;> rfl
      have o := (h k _ e).way
      rw [take_at e, List.filter_append, List.length_append, ih (by omega)]
      by_cases z : k < m
      · rw [decide_eq_true z] at o
        rw [List.filter_cons, o]
        show min k m + 1 = _
        omega
      · rw [decide_eq_false z] at o
        rw [List.filter_cons, o]
        show min k m + 0 = _
        omega
  have := key ss.length (Nat.le_refl _)
  rw [List.take_length] at this
  exact this
theorem drawn_of {ns : List Str} {m : Nat} {ss : List Src} (h : SrcsOk ns m ss) (nn : ns.Nodup) (n5 : ns.length = 5) (pn : ∀ n ∈ ns, Szg.Pl n) (m1 : 1 ≤ m) (m3 : m ≤ 3) (l1 : m ≤ ss.length) (l5 : ss.length ≤ 5) : Drawn ss m := by
  have at_ : ∀ k, k < ss.length → ss[k]? = some (ss.getD k noSrc) := fun k hk => by rw [List.getD_eq_getElem?_getD, List.getElem?_eq_getElem hk] <;> rfl
  have al : ∀ k, k < ss.length → aliasAt ss k = ns.getD k "" := fun k hk => (h k _ (at_ k hk)).al
  refine ⟨⟨l1, fun i j hi hj e => ?_, fun k hk p hp => ?_⟩, ?_, m1, m3, l5, fun s hs => ?_⟩
  · rw [al i hi, al j hj, List.getD_eq_getElem?_getD, List.getD_eq_getElem?_getD, List.getElem?_eq_getElem (by omega), List.getElem?_eq_getElem (by omega)] at e
    have a : ns[i]? = some ns[i] := List.getElem?_eq_getElem (by omega)
    have b : ns[j]? = some ns[j] := List.getElem?_eq_getElem (by omega)
    have e : ns[i] = ns[j] := e
    exact (List.getElem?_inj (by omega) nn).mp (a.trans ((congrArg some e).trans b.symm))
  · obtain ⟨_, _, _, j, j1, j2, j3⟩ := (h k _ (at_ k hk)).prs p hp
    exact ⟨j, j1, j2, by rw [al j (by omega)]; exact j3⟩
  · rw [withs_len ss h]
    omega
  · obtain ⟨k, e⟩ := List.mem_iff_getElem?.mp hs
    have o := h k s e
    have hk := at_lt e
    refine ⟨o.two, o.w, ?_, o.t, fun p hp => ⟨(o.prs p hp).1, (o.prs p hp).2.1, (o.prs p hp).2.2.1⟩⟩
    rw [o.al]
    exact pn _ (getD_mem' (by omega))
def spSc (K : PySem.W.Frag) : Sp := fun vs H Q _ => ∃ (l c a : Addr) (S : Int) (ns : List Str), vs = [.ref l, .ref a] ∧ Pen H l c S ∧ S ≤ 80000 ∧ H a = some (.lst (ns.map V.str)) ∧ a ≠ l ∧ ns.length = 5 ∧ ns.Nodup ∧ (∀ n ∈ ns, Szg.Pl n) ∧
  ∀ (T : Addr) (us : List V) (ss : List Src) (m : Nat) (H' : Hp), SqT K H' T us → DpAll K H' us (ss.map srcD) → Drawn ss m → Pen H' l c (S + 60) → Ex1 l H H' → Q (.ref T) H'
theorem own_ex1 {l q : Addr} {H H1 : Hp} {o : HO} (n : H q = none) (x : Ex1 l H H1) : Ex1 l H (upd H1 q o) := fun a u ne e => by
  rw [upd_ne (ne_of_none e n)]
  exact x a u ne e
theorem str_at {ns : List Str} {r : Int} (h0 : 0 ≤ r) (h1 : r < ns.length) : atI (ns.map V.str) r = some (.str (ns.getD r.toNat "")) := by
  have h2 : r.toNat < ns.length := by omega
  have e : ((r.toNat : Nat) : Int) = r := by omega
  have z : atI (ns.map V.str) ((r.toNat : Nat) : Int) = some (.str (ns.getD r.toNat "")) := atI_nat (by
    rw [List.getElem?_map, List.getElem?_eq_getElem h2, List.getD_eq_getElem?_getD, List.getElem?_eq_getElem h2] <;> rfl)
  rw [e] at z
  exact z
theorem npac {l c q : Addr} {S : Int} {H : Hp} (p : Pen H l c S) (n : H q = none) : q ≠ c := (p.not n).2
section
variable {P : Program} {w : World} {K : PySem.W.Frag} {mg : Str → Option Value} {base : Heap} {f fT : Addr} {fd dT : FuncData}
theorem ok_sc (F : Fun K "_law_sources" "_law_sources" sSc f fd) (mr : mg "range" = none) (mn : mg "len" = none) (mm : mg "min" = none) (mi : mg "int" = none) (mt : mg "tuple" = none)
    (FT : Fun K "_law_take" "_law_take" sDraw fT dT) (G : FnOk P w K mg base CX0 1 fT dT ["_law_pen_here", "_law_many"] spDraw) (bT : Binds K dT ["_law_pen_here", "_law_many"] []) (gT : mg "_law_take" = some (.ref fT)) :
    FnOk P w K mg base CX0 2 f fd ["_law_pen_here", "_law_names_here"] (spSc K) := by
  refine F.ok scSc (fun vs H Q E h => ?_) (fun cdv A outer s0 H vs Q E hr h => ?_)
  · obtain ⟨l, c, a, S, ns, rfl, _⟩ := h
    rfl
  obtain ⟨l, c, a, S, ns, rfl, hP, hS, ea, nal, n5, nn, pn, q⟩ := h
  have nd := scSc.nd
  have zl : sizeLine = 16777216 := rfl
  refine ⟨_, pss_cons (ps_set (i := 2) nd rfl (.inl rfl) (pe_op op_add pe_int (pe_call G hr (by rfl) gT FT.kp bT .nil pass0 (pa_cons (pv 0) (pa_cons pe_int pa_nil)))))
      (pss_cons (ps_set (i := 3) nd rfl (.inl rfl) (pe_slice sl_list (pe_revL (pv 1)) po_none (po_some (pe_op op_add pe_int (pe_call G hr (by rfl) gT FT.kp bT .nil pass0 (pa_cons (pv 0) (pa_cons pe_int pa_nil)))))))
      (pss_cons (ps_set (i := 4) nd rfl (.inl rfl) (pe_lst pa_nil))
      (pss_cons (ps_for PassesOwn.never rfl (pi_range1 (by rfl) mr (pa_cons (pe_op op_add (pv 2) (pe_call G hr (by rfl) gT FT.kp bT .nil pass0 (pa_cons (pv 0) (pa_cons pe_int pa_nil)))) pa_nil)) (pg_name (i := 5) nd rfl (.inl rfl))
      (pss_cons (ps_set (i := 6) nd rfl (.inl rfl) (pe_lst pa_nil))
      (pss_cons (ps_for PassesOwn.never rfl (pi_range1 (by rfl) mr (pa_cons (pe_op op_mul (pe_ix ix_list (pe_lst (pa_cons pe_int (pa_cons pe_int (pa_cons pe_int (pa_cons pe_int pa_nil))))) (pe_call G hr (by rfl) gT FT.kp bT .nil pass0 (pa_cons (pv 0) (pa_cons pe_int pa_nil))) (fun _ _ => rfl)) (pe_callTy call_int1 (by rfl) mi (by decide +kernel) (pa_cons (pe_cmpR op_gt (pv 5) pe_int (nomark _)) pa_nil))) pa_nil)) (pg_name (i := 7) nd rfl (.inl rfl))
      (pss_cons (ps_set (i := 8) nd rfl (.inl rfl) (pe_tup (pa_cons (pe_ix ix_list (pv 1) (pe_call G hr (by rfl) gT FT.kp bT .nil pass0 (pa_cons (pv 0) (pa_cons pe_int pa_nil))) (fun _ _ => rfl)) (pa_cons (pe_ix ix_list (pv 1) (pe_call G hr (by rfl) gT FT.kp bT .nil pass0 (pa_cons (pv 0) (pa_cons (pe_callB (call_min2 rfl) (by rfl) mm (by decide +kernel) (pa_cons (pv 5) (pa_cons (pv 2) pa_nil))) pa_nil))) (fun _ _ => rfl)) (pa_cons (pe_ix ix_list (pv 1) (pe_call G hr (by rfl) gT FT.kp bT .nil pass0 (pa_cons (pv 0) (pa_cons pe_int pa_nil))) (fun _ _ => rfl)) pa_nil)))))
      (pss_one (ps_expr (pe_bm PySem.F.plainAttrs_list PySem.F.slot_list_append PySem.F.type_list_append mt_append (pv 6) (pa_cons (pv 8) pa_nil))))))
      (pss_cons (ps_set (i := 9) nd rfl (.inl rfl) (pe_ix ix_list (pe_lst (pa_cons pe_str (pa_cons (pe_ix ix_list (pe_lst (pa_cons pe_str (pa_cons pe_str pa_nil))) (pe_call G hr (by rfl) gT FT.kp bT .nil pass0 (pa_cons (pv 0) (pa_cons pe_int pa_nil))) (fun _ _ => rfl)) pa_nil))) (pe_callTy call_int1 (by rfl) mi (by decide +kernel) (pa_cons (pe_cmpR op_ge (pv 5) (pv 2) (nomark _)) pa_nil)) (fun _ _ => rfl)))
      (pss_one (ps_expr (pe_bm PySem.F.plainAttrs_list PySem.F.slot_list_append PySem.F.type_list_append mt_append (pv 4) (pa_cons (pe_tup (pa_cons (pv 9) (pa_cons (pe_ix ix_list (pv 1) (pv 5) (fun _ _ => rfl)) (pa_cons (pe_ix ix_list (pv 3) (pe_call G hr (by rfl) gT FT.kp bT .nil pass0 (pa_cons (pv 0) (pa_cons (pe_callB call_len_seq (by rfl) mn PySem.boot_len (pa_cons (pv 3) pa_nil)) pa_nil))) (fun _ _ => rfl)) (pa_cons (pe_tupleOf (by rfl) mt (pv 6)) pa_nil))))) pa_nil))))))))
      (pss_one (ps_ret (pe_tupleOf (by rfl) mt (pv 4))))))), ?_⟩
  have la : (ns.map V.str).length = 5 := by rw [List.length_map, n5]
  refine ⟨_, rfl, l, c, 3, S, rfl, hP, by decide, by decide, by omega, fun r0 H0 a0 b0 p0 x0 => ?_⟩
  obtain ⟨k0, rfl⟩ : ∃ k : Nat, r0 = ((k : Nat) : Int) := ⟨r0.toNat, by omega⟩
  refine ⟨_, _, rfl, rfl, ?_⟩
  show gName 2 (.int (1 + ((k0 : Nat) : Int))) _ _ _
  rw [show (1 : Int) + ((k0 : Nat) : Int) = ((k0 + 1 : Nat) : Int) by omega]
  obtain ⟨m, hm⟩ : ∃ m, m = k0 + 1 := ⟨_, rfl⟩
  rw [← hm]
  have m1 : 1 ≤ m := by omega
  have m3 : m ≤ 3 := by omega
  refine ⟨_, rfl, a, _, rfl, SqL.of (x0 _ _ nal ea), fun b nb _ => ?_⟩
  have eb : upd H0 b (.lst (ns.map V.str).reverse) b = some (.lst (ns.map V.str).reverse) := upd_same
  have nbl := (p0.not nb).1
  have p1 := p0.same (new_same (o := .lst (ns.map V.str).reverse) nb)
  have x1 := x0.trans (Ex1.new (o := .lst (ns.map V.str).reverse) nb)
  generalize upd H0 b (.lst (ns.map V.str).reverse) = H1 at eb p1 x1 ⊢
  refine ⟨_, rfl, l, c, 3, _, rfl, p1, by decide, by decide, by omega, fun r2 H2 a2 b2 p2 x2 => ?_⟩
  obtain ⟨k2, rfl⟩ : ∃ k : Nat, r2 = ((k : Nat) : Int) := ⟨r2.toNat, by omega⟩
  refine ⟨_, _, rfl, rfl, _, rfl, b, _, rfl, SqL.of (x2 _ _ nbl eb), fun tb ntb => ?_⟩
  have ecut : cutV (ns.map V.str).reverse none (some (1 + ((k2 : Nat) : Int))) = ((ns.reverse.take (k2 + 1)).map V.str) := by
    rw [show (1 : Int) + ((k2 : Nat) : Int) = ((k2 + 1 : Nat) : Int) by omega, cutV_to (by rw [List.length_reverse, la]; omega), ← List.map_reverse, ← List.map_take]
  rw [ecut]
  have lt : (ns.reverse.take (k2 + 1)).length = k2 + 1 := by rw [List.length_take, List.length_reverse, n5]; omega
  have pt_ : ∀ n ∈ ns.reverse.take (k2 + 1), Szg.Pl n := fun n hn => pn n (List.mem_reverse.mp (List.mem_of_mem_take hn))
  generalize ns.reverse.take (k2 + 1) = tbs at lt pt_ ⊢
  have et : upd H2 tb (.lst (tbs.map V.str)) tb = some (.lst (tbs.map V.str)) := upd_same
  have ntbl := (p2.not ntb).1
  have p3 := p2.same (new_same (o := .lst (tbs.map V.str)) ntb)
  have x3 := (x1.trans x2).trans (Ex1.new (o := .lst (tbs.map V.str)) ntb)
  generalize upd H2 tb (.lst (tbs.map V.str)) = H3 at et p3 x3 ⊢
  refine ⟨Nat.zero_le _, fun fo nfo => ?_⟩
  have nfol := (p3.not nfo).1
  have nfo0 := free_ex1 x3 nfol nfo
  have ntf : tb ≠ fo := ne_of_none et nfo
  have naf : a ≠ fo := ne_of_none ea nfo0
  have p4 := p3.same (new_same (o := .lst []) nfo)
  have x4 := x3.trans (Ex1.new (o := .lst []) nfo)
  have et4 := new_same (o := .lst []) nfo _ _ et
  have ef4 : upd H3 fo (.lst []) fo = some (.lst []) := upd_same
  generalize upd H3 fo (.lst []) = H4 at p4 x4 et4 ef4 ⊢
  refine ⟨_, rfl, _, rfl, l, c, 3, _, rfl, p4, by decide, by decide, by omega, fun r5 H5 a5 b5 p5 x5 => ?_⟩
  obtain ⟨k5, rfl⟩ : ∃ k : Nat, r5 = ((k : Nat) : Int) := ⟨r5.toNat, by omega⟩
  refine ⟨_, _, rfl, rfl, _, rfl, by omega, by omega, ?_⟩
  rw [show (((m : Nat) : Int) + ((k5 : Nat) : Int)).toNat = m + k5 by omega]
  refine for_it upto (fun k σ H6 => Ex1 l H H6 ∧ Pen H6 l c (S + 3 + 9 * ((k : Nat) : Int)) ∧ H6 tb = some (.lst (tbs.map V.str)) ∧ (∃ us ss, H6 fo = some (.lst us) ∧ DpAll K H6 us (ss.map srcD) ∧ ss.length = k ∧ SrcsOk ns m ss) ∧ ∃ y5 y6 y7 y8 y9, σ = [some (.ref l), some (.ref a), some (.int (m : Nat)), some (.ref tb), some (.ref fo), y5, y6, y7, y8, y9])
    ⟨x4.trans x5, p5.le (by omega), x5 _ _ ntbl et4, ⟨[], [], x5 _ _ nfol ef4, .nil, rfl, fun i s e => by cases e⟩, _, _, _, _, _, rfl⟩ (fun _ _ _ _ _ => trivial) ?_ ?_
  · rintro k x σ H6 H7 hk ⟨x6, p6, et6, ⟨us, ss, ef, hd, ls, so⟩, y5, y6, y7, y8, y9, rfl⟩ ⟨rfl, rfl⟩
    refine ⟨Nat.zero_le _, fun pa npa => ?_⟩
    have npal := (p6.not npa).1
    have p8 := p6.same (new_same (o := .lst []) npa)
    have x8 := Ex1.new (p := l) (o := .lst []) npa
    have ep8 : upd H7 pa (.lst []) pa = some (.lst []) := upd_same
    generalize upd H7 pa (.lst []) = H8 at p8 x8 ep8 ⊢
    refine ⟨(by show 4 ≤ sizeLine; decide), fun f4 nf4 => ?_⟩
    have p9 := p8.same (new_same (o := .lst [.int 0, .int 1, .int 1, .int 2]) nf4)
    have x9 := x8.trans (Ex1.new (o := .lst [.int 0, .int 1, .int 1, .int 2]) nf4)
    have ep9 := new_same (o := .lst [.int 0, .int 1, .int 1, .int 2]) nf4 _ _ ep8
    have e49 : upd H8 f4 (.lst [.int 0, .int 1, .int 1, .int 2]) f4 = some (.lst [.int 0, .int 1, .int 1, .int 2]) := upd_same
    have n4l := (p8.not nf4).1
    generalize upd H8 f4 (.lst [.int 0, .int 1, .int 1, .int 2]) = H9 at p9 x9 ep9 e49 ⊢
    refine ⟨_, rfl, l, c, 4, _, rfl, p9, by decide, by decide, by omega, fun r10 H10 a10 b10 p10 x10 => ?_⟩
    obtain ⟨z, hz, ez⟩ := at_list (f := V.int) (xs := [0, 1, 1, 2]) a10 (by simpa using b10)
    have z0 : 0 ≤ z ∧ z ≤ 2 := by
      simp only [List.mem_cons, List.not_mem_nil, or_false] at hz
      omega
    refine ⟨f4, _, _, .int z, rfl, rfl, SqL.of (x10 _ _ n4l e49), ez, ?_⟩
    refine ⟨_, rfl, _, _, rfl, rfl, .inr ⟨_, rfl, ?_⟩⟩
    have x11 := x9.trans x10
    have ep11 := x10 _ _ npal ep9
    obtain ⟨t, ht⟩ : ∃ t : Nat, z * (if decide ((0 : Int) < ((k : Nat) : Int)) = true then 1 else 0) = ((t : Nat) : Int) := by
      by_cases q0 : (0 : Int) < ((k : Nat) : Int)
      · rw [decide_eq_true q0, if_pos rfl]
        exact ⟨z.toNat, by omega⟩
      · rw [decide_eq_false q0]
        exact ⟨0, by simp⟩
    have t2 : t ≤ 2 ∧ (0 < t → 0 < k) := by
      by_cases q0 : (0 : Int) < ((k : Nat) : Int)
      · rw [decide_eq_true q0, if_pos rfl] at ht
        exact ⟨by omega, fun _ => by omega⟩
      · rw [decide_eq_false q0] at ht
        have : ((t : Nat) : Int) = 0 := by rw [← ht]; simp
        exact ⟨by omega, fun h => by omega⟩
    refine ⟨_, _, rfl, rfl, .inl ⟨by omega, by omega⟩, ?_⟩
    refine ⟨((t : Nat) : Int), congrArg (fun i => [V.int i]) ht, by omega, by omega, ?_⟩
    rw [Int.toNat_natCast]
    generalize H10 = H11 at p10 x11 ep11 ⊢
    refine for_it upto (fun j σ H12 => Ex1 l H7 H12 ∧ Pen H12 l c (S + 4 + 9 * ((k : Nat) : Int) + 3 * ((j : Nat) : Int)) ∧ (∃ vs ps, H12 pa = some (.lst vs) ∧ DpAll K H12 vs (ps.map prD) ∧ ps.length = j ∧ ∀ p ∈ ps, PrOk ns m k p) ∧ ∃ y7 y8 y9, σ = [some (.ref l), some (.ref a), some (.int (m : Nat)), some (.ref tb), some (.ref fo), some (.int (k : Nat)), some (.ref pa), y7, y8, y9])
      ⟨x11, p10.le (by omega), ⟨[], [], ep11, .nil, rfl, fun p h => nomatch h⟩, _, _, _, rfl⟩ (fun _ _ _ _ _ => trivial) ?_ ?_
    · rintro j x σ H12 H13 hj ⟨x12, p12, ⟨vs, ps, ep, hp, lp, hps⟩, y7, y8, y9, rfl⟩ ⟨rfl, rfl⟩
      have k0' : 0 < k := t2.2 (by omega)
      have ea12 := (x6.trans x12) _ _ nal ea
      refine ⟨_, rfl, _, rfl, l, c, 3, _, rfl, p12, by decide, by decide, by omega, fun r14 H14 a14 b14 p14 x14 => ?_⟩
      refine ⟨a, _, _, _, rfl, rfl, SqL.of (x14 _ _ nal ea12), str_at a14 (by omega), ?_⟩
      have mn1 : (0 : Int) < (if ((m : Nat) : Int) < ((k : Nat) : Int) then ((m : Nat) : Int) else ((k : Nat) : Int)) ∧ (if ((m : Nat) : Int) < ((k : Nat) : Int) then ((m : Nat) : Int) else ((k : Nat) : Int)) ≤ m ∧ (if ((m : Nat) : Int) < ((k : Nat) : Int) then ((m : Nat) : Int) else ((k : Nat) : Int)) ≤ k := by
        split <;> omega
      refine ⟨_, rfl, _, rfl, _, rfl, _, rfl, _, _, rfl, l, c, _, _, rfl, p14, mn1.1, by omega, by omega, fun r15 H15 a15 b15 p15 x15 => ?_⟩
      refine ⟨a, _, _, _, rfl, rfl, SqL.of (x15 _ _ nal (x14 _ _ nal ea12)), str_at a15 (by omega), ?_⟩
      refine ⟨_, rfl, _, rfl, l, c, 3, _, rfl, p15, by decide, by decide, by omega, fun r16 H16 a16 b16 p16 x16 => ?_⟩
      refine ⟨a, _, _, _, rfl, rfl, SqL.of (x16 _ _ nal (x15 _ _ nal (x14 _ _ nal ea12))), str_at a16 (by omega), ?_⟩
      refine ⟨(by show 3 ≤ sizeLine; decide), fun e ne => ?_⟩
      have x17 := ((x14.trans x15).trans x16).trans (Ex1.new (o := .tup [.str (ns.getD r14.toNat ""), .str (ns.getD r15.toNat ""), .str (ns.getD r16.toNat "")]) ne)
      have p17 := p16.same (new_same (o := .tup [.str (ns.getD r14.toNat ""), .str (ns.getD r15.toNat ""), .str (ns.getD r16.toNat "")]) ne)
      have se : SqT K (upd H16 e (.tup [.str (ns.getD r14.toNat ""), .str (ns.getD r15.toNat ""), .str (ns.getD r16.toNat "")])) e [.str (ns.getD r14.toNat ""), .str (ns.getD r15.toNat ""), .str (ns.getD r16.toNat "")] := SqT.of upd_same
      generalize upd H16 e (.tup [.str (ns.getD r14.toNat ""), .str (ns.getD r15.toNat ""), .str (ns.getD r16.toNat "")]) = H17 at x17 p17 se ⊢
      have ep17 := x17 _ _ npal ep
      obtain ⟨_, _, _, el12, _⟩ := id p12
      have hp17 := DpAll.tups (Ex1.tups x17 el12) _ (prs_only ps) hp
      have pa_ne : pa ≠ l := npal
      have vl : vs.length = ps.length := by rw [DpAll.len hp, List.length_map]
      have gp : ∀ r : Int, 0 ≤ r → r < 5 → Szg.Pl (ns.getD r.toNat "") := fun r h1 h2 => pn _ (getD_mem' (by omega))
      refine ⟨_, rfl, .inl ⟨rfl, _, SqL.of ep17⟩, _, rfl, pa, vs, _, rfl, rfl, ep17, by omega, ?_⟩
      have u18 := Tups.upd_lst (K := K) (ys := vs ++ [.ref e]) ep17
      refine ⟨own_ex1 npa (x12.trans x17), (p17.off npal (npac p6 npa)).le (by omega), ⟨vs ++ [.ref e], ps ++ [⟨ns.getD r14.toNat "", ns.getD r15.toNat "", ns.getD r16.toNat ""⟩], upd_same, ?_, by rw [List.length_append, lp]; rfl, fun p hp' => ?_⟩, _, _, _, rfl⟩
      · rw [List.map_append]
        refine DpAll.tups u18 _ ?_ (DpAll.snoc hp17 (.tup se (.cons (.str _) (.cons (.str _) (.cons (.str _) .nil)))))
        have := prs_only (ps ++ [⟨ns.getD r14.toNat "", ns.getD r15.toNat "", ns.getD r16.toNat ""⟩])
        rw [List.map_append] at this
        exact this
      · rcases List.mem_append.mp hp' with h | h
        · exact hps p h
        · rw [List.mem_singleton] at h
          subst h
          exact ⟨gp _ a14 (by omega), gp _ a15 (by omega), gp _ a16 (by omega), r15.toNat, by omega, by omega, rfl⟩
    · rintro σ H12 ⟨x12, p12, ⟨vs, ps, ep, hp, lp, hps⟩, y7, y8, y9, rfl⟩
      have vl : vs.length = ps.length := by rw [DpAll.len hp, List.length_map]
      have s30 := x6.trans x12
      have ea12 := s30 _ _ nal ea
      have et12 := x12 _ _ ntbl et6
      have ef12 := x12 _ _ nfol ef
      have lu : us.length = ss.length := by rw [DpAll.len hd, List.length_map]
      have only := srcs_only ss (fun s hs => by
        obtain ⟨i, e⟩ := List.mem_iff_getElem?.mp hs
        have := (so i s e).two
        omega)
      obtain ⟨_, _, _, el7, _⟩ := id p6
      have hd12 := DpAll.tups (Ex1.tups x12 el7) _ only hd
      -- the word
      refine ⟨(by show 2 ≤ sizeLine; decide), fun w2 nw2 => ?_⟩
      have p20 := p12.same (new_same (o := .lst [.str "perhaps", .str "none"]) nw2)
      have x20 := Ex1.new (p := l) (o := .lst [.str "perhaps", .str "none"]) nw2
      have n2l := (p12.not nw2).1
      have e2 : upd H12 w2 (.lst [.str "perhaps", .str "none"]) w2 = some (.lst [.str "perhaps", .str "none"]) := upd_same
      generalize upd H12 w2 (.lst [.str "perhaps", .str "none"]) = H20 at p20 x20 e2 ⊢
      refine ⟨_, rfl, l, c, 2, _, rfl, p20, by decide, by decide, by omega, fun r21 H21 a21 b21 p21 x21 => ?_⟩
      obtain ⟨y, hy, ey⟩ := at_list (f := V.str) (xs := ["perhaps", "none"]) a21 (by simpa using b21)
      refine ⟨w2, _, _, .str y, rfl, rfl, SqL.of (x21 _ _ n2l e2), ey, ?_⟩
      have yw : y ≠ "with" ∧ Szg.Pl y := by
        simp only [List.mem_cons, List.not_mem_nil, or_false] at hy
        rcases hy with rfl | rfl <;> exact ⟨by decide, by unfold Szg.Pl; decide +kernel⟩
      refine ⟨(by show 2 ≤ sizeLine; decide), fun w1 nw1 => ?_⟩
      have p22 := p21.same (new_same (o := .lst [.str "with", .str y]) nw1)
      have x22 := (x20.trans x21).trans (Ex1.new (o := .lst [.str "with", .str y]) nw1)
      have e1 : upd H21 w1 (.lst [.str "with", .str y]) w1 = some (.lst [.str "with", .str y]) := upd_same
      generalize upd H21 w1 (.lst [.str "with", .str y]) = H22 at p22 x22 e1 ⊢
      refine ⟨_, rfl, _, rfl, _, _, rfl, rfl, .inr ⟨_, rfl, ?_⟩⟩
      obtain ⟨way, hw1, hw2, hw3⟩ : ∃ way : Str, atI [V.str "with", V.str y] (if decide (((m : Nat) : Int) ≤ ((k : Nat) : Int)) = true then 1 else 0) = some (.str way) ∧ decide (way = "with") = decide (k < m) ∧ Szg.Pl way := by
        by_cases z : k < m
        · have z2 : ¬ (((m : Nat) : Int) ≤ ((k : Nat) : Int)) := by omega
          rw [decide_eq_false z2]
          exact ⟨"with", rfl, by rw [decide_eq_true z, decide_eq_true rfl], by unfold Szg.Pl; decide +kernel⟩
        · have z2 : ((m : Nat) : Int) ≤ ((k : Nat) : Int) := by omega
          rw [decide_eq_true z2]
          exact ⟨y, rfl, by rw [decide_eq_false z, decide_eq_false yw.1], yw.2⟩
      refine ⟨w1, _, _, .str way, rfl, rfl, SqL.of e1, hw1, ?_⟩
      have ef22 := x22 _ _ nfol ef12
      have ea22 := x22 _ _ nal ea12
      have et22 := x22 _ _ ntbl et12
      have ep22 := x22 _ _ npal ep
      refine ⟨_, rfl, .inl ⟨rfl, _, SqL.of ef22⟩, _, rfl, _, rfl, _, rfl, a, _, _, _, rfl, rfl, SqL.of ea22, str_at (r := ((k : Nat) : Int)) (by omega) (by omega), ?_⟩
      refine ⟨_, rfl, _, rfl, _, rfl, tb, _, rfl, .inl (SqL.of et22), l, c, _, _, rfl, p22, by rw [List.length_map]; omega, by rw [List.length_map]; omega, by omega, fun r23 H23 a23 b23 p23 x23 => ?_⟩
      rw [List.length_map] at b23
      refine ⟨tb, _, _, _, rfl, rfl, SqL.of (x23 _ _ ntbl et22), str_at a23 (by omega), ?_⟩
      have x2223 := x22.trans x23
      have ep23 := x23 _ _ npal ep22
      refine ⟨_, rfl, .inl ⟨pa, vs, rfl, SqL.of ep23, fun pt npt => ?_⟩⟩
      have j24 := new_same (o := .tup vs) npt
      have p24 := p23.same j24
      have x24 := x2223.trans (ex1_same j24)
      have t24 : SqT K (upd H23 pt (.tup vs)) pt vs := SqT.of upd_same
      generalize upd H23 pt (.tup vs) = H24 at p24 x24 t24 ⊢
      refine ⟨(by show 4 ≤ sizeLine; decide), fun sx nsx => ?_⟩
      rw [Int.toNat_natCast]
      have j25 := new_same (o := .tup [.str way, .str (ns.getD k ""), .str (tbs.getD r23.toNat ""), .ref pt]) nsx
      have p25 := p24.same j25
      have x25 := x24.trans (ex1_same j25)
      have t25 := same_tup j25 t24
      have s25 : SqT K (upd H24 sx (.tup [.str way, .str (ns.getD k ""), .str (tbs.getD r23.toNat ""), .ref pt])) sx [.str way, .str (ns.getD k ""), .str (tbs.getD r23.toNat ""), .ref pt] := SqT.of upd_same
      generalize upd H24 sx (.tup [.str way, .str (ns.getD k ""), .str (tbs.getD r23.toNat ""), .ref pt]) = H25 at p25 x25 t25 s25 ⊢
      have ef25 := x25 _ _ nfol ef12
      obtain ⟨_, _, _, el12, _⟩ := id p12
      have hp25 := DpAll.tups (Ex1.tups x25 el12) _ (prs_only ps) hp
      have hd25 := DpAll.tups (Ex1.tups x25 el12) _ only hd12
      have u26 := Tups.upd_lst (K := K) (ys := us ++ [.ref sx]) ef25
      refine ⟨fo, us, _, rfl, rfl, ef25, by omega, ?_⟩
      have so' : SrcsOk ns m (ss ++ [⟨way, ns.getD k "", tbs.getD r23.toNat "", ps⟩]) := so.snoc ⟨by rw [ls], by rw [ls]; exact hw2, by show ps.length ≤ 2; omega, fun p h => by rw [ls]; exact hps p h, hw3, pt_ _ (getD_mem' (by omega))⟩
      have only2 := srcs_only (ss ++ [⟨way, ns.getD k "", tbs.getD r23.toNat "", ps⟩]) (fun s hs => by
        obtain ⟨i, e⟩ := List.mem_iff_getElem?.mp hs
        have := (so' i s e).two
        omega)
      refine ⟨own_ex1 nfo0 (s30.trans x25), (p25.off nfol (npac hP nfo0)).le (by omega), ?_, ⟨us ++ [.ref sx], ss ++ [⟨way, ns.getD k "", tbs.getD r23.toNat "", ps⟩], upd_same, ?_, by rw [List.length_append, ls]; rfl, so'⟩, _, _, _, _, _, rfl⟩
      · rw [upd_ne ntf]
        exact x25 _ _ ntbl et12
      · rw [List.map_append] at only2 ⊢
        exact DpAll.tups u26 _ only2 (DpAll.snoc hd25 (.tup s25 (.cons (.str _) (.cons (.str _) (.cons (.str _) (.cons (.tup t25 hp25) .nil))))))
  · rintro σ H6 ⟨x6, p6, et6, ⟨us, ss, ef, hd, ls, so⟩, y5, y6, y7, y8, y9, rfl⟩
    have only := srcs_only ss (fun s hs => by
      obtain ⟨i, e⟩ := List.mem_iff_getElem?.mp hs
      have := (so i s e).two
      omega)
    refine ⟨_, rfl, .inl ⟨fo, us, rfl, SqL.of ef, fun T nT => ?_⟩⟩
    have j := new_same (o := .tup us) nT
    exact q T us ss m _ (SqT.of upd_same) (DpAll.tups (Tups.of_same j) _ only hd) (drawn_of so nn n5 pn m1 m3 (by omega) (by omega)) ((p6.same j).le (by omega)) (x6.trans (Ex1.new nT))
end
end K18
end

section
set_option Elab.async false
set_option linter.all false
set_option maxRecDepth 100000
set_option maxHeartbeats 4000000
namespace K18
open PySem PySem.Spec PyProof.Rows L2 Gd PySem.W
abbrev sOr : Stmt := topS 10
abbrev nOr : List Str := ["_law_many", "_law_found", "_law_turn", "_law_longer", "_law_ahead", "_law_number"]
theorem scOr : FnScope nOr ["_law_many"] (defScope sOr) := ⟨rfl, rfl, rfl, by decide +kernel, rfl, by decide +kernel, by decide +kernel⟩
def ordD (o : List Nat) : PyData := .tuple (o.map fun k => PyData.int ((k : Nat) : Int))
/-- the ways on from an order, the first j numbers tried -/
def growJ (o : List Nat) (j : Nat) : List (List Nat) := ((List.range j).filter fun n => !decide (n ∈ o)).map fun n => o ++ [n]
def lev (m : Nat) : Nat → List (List Nat)
  | 0 => [[]]
  | t + 1 => (lev m t).flatMap fun o => growJ o m
theorem lev_perms {m : Nat} (h1 : 1 ≤ m) (h3 : m ≤ 3) : lev m m = Pm.perms m := by
  match m, h1, h3 with
  | 1, _, _ => decide
  | 2, _, _ => decide
  | 3, _, _ => decide
theorem lev_len : ∀ {m t : Nat}, m ≤ 3 → t ≤ m → (lev m t).length ≤ 6 ∧ ∀ o ∈ lev m t, o.length ≤ 3 := by
  have : ∀ m, m < 4 → ∀ t, t < 4 → t ≤ m → (lev m t).length ≤ 6 ∧ ∀ o ∈ lev m t, o.length ≤ 3 := by decide
  intro m t a b
  exact this m (by omega) t (by omega) b
theorem growJ_len (o : List Nat) (j : Nat) : (growJ o j).length ≤ j := by
  unfold growJ
  rw [List.length_map]
  have := List.length_filter_le (fun n => !decide (n ∈ o)) (List.range j)
  rw [List.length_range] at this
  exact this
theorem growJ_succ (o : List Nat) (j : Nat) : growJ o (j + 1) = growJ o j ++ (if j ∈ o then [] else [o ++ [j]]) := by
  unfold growJ
  rw [List.range_succ, List.filter_append, List.map_append]
  by_cases z : j ∈ o <;> simp [List.filter, z]
theorem told_ord {m : Nat} (h1 : 1 ≤ m) (h3 : m ≤ 3) : told ((Pm.perms m).map ordD) = (Pm.perms m).map ordD := by
  have a1 : told ((Pm.perms 1).map ordD) = (Pm.perms 1).map ordD := by unfold told Pm.perms; simp (decide := true) [List.mergeSort]
  have a2 : told ((Pm.perms 2).map ordD) = (Pm.perms 2).map ordD := by unfold told Pm.perms; simp (decide := true) [List.mergeSort]
  have a3 : told ((Pm.perms 3).map ordD) = (Pm.perms 3).map ordD := by unfold told Pm.perms; simp (decide := true) [List.mergeSort]
  match m, h1, h3 with
  | 1, _, _ => exact a1
  | 2, _, _ => exact a2
  | 3, _, _ => exact a3
theorem al_ord {m : Nat} (h1 : 1 ≤ m) (h3 : m ≤ 3) : AllAlike ((Pm.perms m).map ordD) := by
  match m, h1, h3 with
  | 1, _, _ => unfold AllAlike; decide +kernel
  | 2, _, _ => unfold AllAlike; decide +kernel
  | 3, _, _ => unfold AllAlike; decide +kernel
theorem deep_ord {m : Nat} (h1 : 1 ≤ m) (h3 : m ≤ 3) : ∀ d ∈ (Pm.perms m).map ordD, d.depth ≤ 50 := by
  match m, h1, h3 with
  | 1, _, _ => decide +kernel
  | 2, _, _ => decide +kernel
  | 3, _, _ => decide +kernel
theorem so_ord {m : Nat} (h1 : 1 ≤ m) (h3 : m ≤ 3) : Sortable ((Pm.perms m).map ordD) := by
  refine .inl fun d hd => ?_
  obtain ⟨o, ho, rfl⟩ := List.mem_map.mp hd
  obtain ⟨k, hk⟩ := List.mem_iff_getElem?.mp ho
  have := (perms_ok h1 h3 hk).1
  cases o with
  | nil =>
    simp only [List.length_nil] at this
    omega
  | cons x r => exact ⟨_, _, rfl⟩
theorem ints_only : ∀ o : List Nat, tupOnlyAll (o.map fun k => PyData.int ((k : Nat) : Int)) = true
  | [] => rfl
  | k :: o => by rw [List.map_cons]; simp only [tupOnlyAll, tupOnly, ints_only o, Bool.and_self]
theorem ord_only (o : List Nat) (h : o.length ≤ 1000) : tupOnly (ordD o) = true := by
  unfold ordD
  simp only [tupOnly, ints_only, Bool.and_true, List.length_map, decide_eq_true_eq]
  exact h
theorem ords_only : ∀ os : List (List Nat), (∀ o ∈ os, o.length ≤ 1000) → tupOnlyAll (os.map ordD) = true
  | [], _ => rfl
  | o :: os, h => by
    rw [List.map_cons]
    simp only [tupOnlyAll, ord_only o (h o (by simp)), ords_only os fun o m => h o (by simp [m]), Bool.and_self]
theorem ints_dp {K : PySem.W.Frag} {H : Hp} : ∀ o : List Nat, DpAll K H (intsV o) (o.map fun k => PyData.int ((k : Nat) : Int))
  | [] => .nil
  | k :: o => .cons (.int _) (ints_dp o)
theorem dp_ints {K : PySem.W.Frag} {H : Hp} : ∀ {o : List Nat} {vs : List V}, DpAll K H vs (o.map fun k => PyData.int ((k : Nat) : Int)) → vs = intsV o
  | [], _, h => by cases h; rfl
  | k :: o, _, h => by
    rw [List.map_cons] at h
    cases h with
    | cons a b =>
      cases a
      rw [dp_ints b]
      rfl
theorem dp_ord {K : PySem.W.Frag} {H : Hp} {v : V} {o : List Nat} (h : Dp K H v (ordD o)) : ∃ a, v = .ref a ∧ SqT K H a (intsV o) := by
  unfold ordD at h
  cases h with
  | tup a b =>
    rw [dp_ints b] at a
    exact ⟨_, rfl, a⟩
theorem ord_dp {K : PySem.W.Frag} {H : Hp} {a : Addr} {o : List Nat} (h : SqT K H a (intsV o)) : Dp K H (.ref a) (ordD o) := .tup h (ints_dp o)
theorem in_ints (k : Nat) : ∀ o : List Nat, inV (.int ((k : Nat) : Int)) (intsV o) = decide (k ∈ o)
  | [] => rfl
  | x :: o => by
    have ih := in_ints k o
    unfold inV at ih ⊢
    unfold intsV at ih ⊢
    rw [List.map_cons, List.any_cons, ih]
    have e : eqV (.int ((x : Nat) : Int)) (.int ((k : Nat) : Int)) = decide (k = x) := by
      show decide _ = _
      by_cases z : k = x
      · subst z; simp
      · have : ¬ ((x : Nat) : Int) = ((k : Nat) : Int) := by omega
        simp [z, this]
    rw [e]
    by_cases z : k = x
    · simp [z]
    · simp [z]
theorem ints_flat : ∀ o : List Nat, (intsV o).all flatV = true
  | [] => rfl
  | k :: o => by
    have := ints_flat o
    unfold intsV at this ⊢
    rw [List.map_cons, List.all_cons, this]
    rfl
theorem dp_app {K : PySem.W.Frag} {H : Hp} : ∀ {xs ys : List V} {ds es : List PyData}, DpAll K H xs ds → DpAll K H ys es → DpAll K H (xs ++ ys) (ds ++ es)
  | _, _, _, _, .nil, h => h
  | _, _, _, _, .cons a b, h => .cons a (dp_app b h)
def spOr (K : PySem.W.Frag) : Sp := fun vs H Q _ => ∃ m : Nat, vs = [.int (m : Nat)] ∧ 1 ≤ m ∧ m ≤ 3 ∧ ∀ (us : List V) (p : Addr) (H' : Hp), Same H H' → H p = none → H' p = some (.lst us) → DpAll K H' us ((Pm.perms m).map ordD) → Q (.ref p) H'
section
variable {P : Program} {w : World} {K : PySem.W.Frag} {mg : Str → Option Value} {base : Heap} {f : Addr} {fd : FuncData}
theorem ok_or (F : Fun K "_law_orders" "_law_orders" sOr f fd) (mr : mg "range" = none) (ms : mg "sorted" = none) : FnOk P w K mg base CX0 1 f fd ["_law_many"] (spOr K) := by
  refine F.ok scOr (fun vs H Q E h => ?_) (fun cdv A outer s0 H vs Q E hr h => ?_)
  · obtain ⟨m, rfl, _⟩ := h
    rfl
  obtain ⟨m, rfl, m1, m3, q⟩ := h
  have nd := scOr.nd
  have zl : sizeLine = 16777216 := rfl
  refine ⟨_, pss_cons (ps_set (i := 1) nd rfl (by first | exact .inl rfl | exact .inr rfl) (pe_lst (pa_cons (pe_tup pa_nil) pa_nil)))
      (pss_cons (ps_for PassesOwn.never rfl (pi_range1 (by rfl) mr (pa_cons (pv 0) pa_nil)) (pg_name (i := 2) nd rfl (by first | exact .inl rfl | exact .inr rfl))
      (pss_cons (ps_set (i := 3) nd rfl (by first | exact .inl rfl | exact .inr rfl) (pe_lst pa_nil))
      (pss_cons (ps_for PassesOwn.never rfl (pi_list (pv 1)) (pg_name (i := 4) nd rfl (by first | exact .inl rfl | exact .inr rfl))
      (pss_one (ps_expr (pe_bm PySem.F.plainAttrs_list PySem.F.slot_list_extend PySem.F.type_list_extend mt_extend (pv 3) (pa_cons (pe_lc (own := [("_law_number", 5)]) (g := gName 5) rfl nd (pi_range1 (by rfl) mr (pa_cons (pv 0) pa_nil)) (blkOk_by (N := nOr) (sc := defScope sOr) (by decide +kernel)) (fun _ _ _ _ _ => pg_name (i := 5) nd rfl (Or.inl rfl)) (fun _ _ _ _ _ => pts_one (pt_cmpR (r := rIn K true) op_notIn_seq (pv 5) (pv 4) (by with_unfolding_all rfl))) (fun _ _ _ _ _ => (pe_op (r := rCatA K) op_catA (pv 4) (pe_tup (pa_cons (pv 5) pa_nil))))) pa_nil)))))
      (pss_one (ps_set (i := 1) nd rfl (by first | exact .inl rfl | exact .inr rfl) (pv 3))))))
      (pss_one (ps_ret (pe_callB (call_sortedD hr.units) (by rfl) ms (by decide +kernel) (pa_cons (pv 1) pa_nil))))), ?_⟩
  refine ⟨Nat.zero_le _, fun e0 ne0 => ?_⟩
  have t0 : SqT K (upd H e0 (.tup [])) e0 [] := SqT.of upd_same
  have s1 := new_same (o := .tup []) ne0
  generalize upd H e0 (.tup []) = H1 at t0 s1 ⊢
  refine ⟨(by show 1 ≤ sizeLine; decide), fun f0 nf0 => ?_⟩
  have s2 := s1.trans (new_same (o := .lst [.ref e0]) nf0)
  have t2 := same_tup (new_same (o := .lst [.ref e0]) nf0) t0
  have ef2 : upd H1 f0 (.lst [.ref e0]) f0 = some (.lst [.ref e0]) := upd_same
  have nf00 := s1.free nf0
  generalize upd H1 f0 (.lst [.ref e0]) = H2 at s2 t2 ef2 ⊢
  refine ⟨_, rfl, _, rfl, by omega, by omega, ?_⟩
  rw [Int.toNat_natCast]
  refine for_it upto (fun t σ H4 => Same H H4 ∧ ∃ (F : Addr) (us : List V), H4 F = some (.lst us) ∧ H F = none ∧ DpAll K H4 us ((lev m t).map ordD) ∧ ∃ y2 y3 y4 y5, σ = [some (.int (m : Nat)), some (.ref F), y2, y3, y4, y5])
    ⟨s2, f0, _, ef2, nf00, .cons (ord_dp t2) .nil, _, _, _, _, rfl⟩ (fun _ _ _ _ _ => trivial) ?_ ?_
  · rintro t x σ H4 H5 ht ⟨s4, F, us, eF, nF, hus, y2, y3, y4, y5, rfl⟩ ⟨rfl, rfl⟩
    obtain ⟨le6, lo3⟩ := lev_len m3 (show t ≤ m by omega)
    have lu : us.length = (lev m t).length := by rw [DpAll.len hus, List.length_map]
    refine ⟨Nat.zero_le _, fun Lg nLg => ?_⟩
    have j5 := new_same (o := .lst []) nLg
    have s5 := s4.trans j5
    have nLg0 := s4.free nLg
    have eF5 := j5 _ _ eF
    have nFL : F ≠ Lg := ne_of_none eF nLg
    have eL5 : upd H5 Lg (.lst []) Lg = some (.lst []) := upd_same
    have hus5 := DpAll.tups (Tups.of_same j5) _ (ords_only _ fun o h => by have := lo3 o h; omega) hus
    generalize upd H5 Lg (.lst []) = H6 at s5 eF5 eL5 hus5 ⊢
    refine ⟨_, rfl, F, rfl, ⟨us, SqL.of eF5⟩, ?_⟩
    refine for_it walk_list (fun i σ H7 => Same H H7 ∧ H7 F = some (.lst us) ∧ DpAll K H7 us ((lev m t).map ordD) ∧ (∃ ws, H7 Lg = some (.lst ws) ∧ DpAll K H7 ws ((((lev m t).take i).flatMap fun o => growJ o m).map ordD) ∧ ws.length ≤ 3 * i) ∧ ∃ y4 y5, σ = [some (.int (m : Nat)), some (.ref F), some ((fun i => V.int ((i : Nat) : Int)) t), some (.ref Lg), y4, y5])
      ⟨s5, eF5, hus5, ⟨[], eL5, .nil, Nat.le_refl _⟩, _, _, rfl⟩ (fun i σ H7 _ h => SqL.of h.2.1) ?_ ?_
    · rintro i x σ H7 H8 hi ⟨s7, eF7, hus7, ⟨ws, eW, hws, lw⟩, y4, y5, rfl⟩ ⟨rfl, ex⟩
      obtain ⟨d, ed, hd⟩ := DpAll.at_ hus7 ex
      rw [List.getElem?_map, Option.map_eq_some_iff] at ed
      obtain ⟨o, eo, rfl⟩ := ed
      obtain ⟨a, rfl, ta⟩ := dp_ord hd
      have lo := lo3 o (List.mem_of_getElem? eo)
      refine ⟨_, rfl, .inl ⟨rfl, _, SqL.of eW⟩, _, rfl, _, rfl, by omega, by omega, fun D nD => ?_⟩
      rw [Int.toNat_natCast]
      have nD0 := s7.free nD
      refine lc_it upto (fun j H9 => Same H8 H9 ∧ ∃ zs, H9 D = some (.lst zs) ∧ DpAll K H9 zs ((growJ o j).map ordD) ∧ zs.length ≤ j) ⟨new_same nD, [], upd_same, .nil, Nat.le_refl _⟩ (fun _ _ _ _ => trivial) ?_ ?_
      · rintro j x H9 H10 hj ⟨s9, zs, eD, hz, lz⟩ ⟨rfl, rfl⟩
        have ta9 := same_tup s9 ta
        have only : tupOnlyAll ((growJ o j).map ordD) = true := ords_only _ fun o' h => by
          obtain ⟨n, _, rfl⟩ := List.mem_map.mp h
          rw [List.length_append]
          show o.length + 1 ≤ 1000
          omega
        refine ⟨rfl, ?_⟩
        refine ⟨_, rfl, _, rfl, a, _, rfl, .inr ta9, rfl, ints_flat _, _, rfl, ?_⟩
        have fin : ∀ (H11 : Hp) (v : V), Same H10 H11 → Dp K H11 v (ordD (o ++ [j])) → ∃ xs, H11 D = some (.lst xs) ∧ xs.length < sizeLine ∧ (Same H8 (upd H11 D (.lst (xs ++ [v]))) ∧ ∃ zs, upd H11 D (.lst (xs ++ [v])) D = some (.lst zs) ∧ DpAll K (upd H11 D (.lst (xs ++ [v]))) zs ((growJ o j ++ [o ++ [j]]).map ordD) ∧ zs.length ≤ j + 1) := by
          intro H11 v s11 hv
          have eD11 := s11 _ _ eD
          refine ⟨zs, eD11, by omega, own_same nD (s9.trans s11), zs ++ [v], upd_same, ?_, by rw [List.length_append]; show zs.length + 1 ≤ _; omega⟩
          have h1 := DpAll.snoc (DpAll.tups (Tups.of_same s11) _ only hz) hv
          rw [List.map_append]
          refine DpAll.tups (Tups.upd_lst eD11) _ ?_ h1
          exact only_snoc only (ord_only _ (by rw [List.length_append]; show o.length + 1 ≤ 1000; omega))
        by_cases z : j ∈ o
        · rw [show inV (.int ((j : Nat) : Int)) (intsV o) = true from (in_ints j o).trans (decide_eq_true z)]
          refine iteF ⟨s9, zs, eD, ?_, by omega⟩
          rw [growJ_succ, if_pos z, List.append_nil]
          exact hz
        · rw [show inV (.int ((j : Nat) : Int)) (intsV o) = false from (in_ints j o).trans (decide_eq_false z)]
          refine iteT ?_
          rw [growJ_succ, if_neg z]
          refine ⟨_, rfl, _, rfl, (by show 1 ≤ sizeLine; decide), fun n nn => ?_⟩
          have j11 := new_same (o := .tup [.int ((j : Nat) : Int)]) nn
          have tn : SqT K (upd H10 n (.tup [.int ((j : Nat) : Int)])) n (intsV [j]) := SqT.of upd_same
          refine ⟨a, n, intsV o, intsV [j], rfl, rfl, same_tup j11 ta9, tn, ?_, fun e => ?_, (fun _ e => nomatch e), fun _ _ p np => ?_⟩
          · show (intsV o).length + 1 ≤ sizeLine
            unfold intsV
            rw [List.length_map]
            omega
          · have oe : o = [] := by
              cases o with
              | nil => rfl
              | cons _ _ => cases e
            subst oe
            exact fin _ _ j11 (ord_dp tn)
          · have tp : SqT K (upd (upd H10 n (.tup [.int ((j : Nat) : Int)])) p (.tup (intsV o ++ intsV [j]))) p (intsV (o ++ [j])) := by
              unfold intsV
              rw [List.map_append]
              exact SqT.of upd_same
            exact fin _ _ (j11.trans (new_same np)) (ord_dp tp)
      rintro H9 ⟨s9, zs, eD, hz, lz⟩
      have eW9 := s9 _ _ eW
      have s79 := s7.trans s9
      have eF9 := s9 _ _ eF7
      have gl := growJ_len o m
      have tk : ((lev m t).take (i + 1)).flatMap (fun o => growJ o m) = ((lev m t).take i).flatMap (fun o => growJ o m) ++ growJ o m := by
        rw [take_at eo, List.flatMap_append]
        simp
      have onW : tupOnlyAll ((((lev m t).take i).flatMap fun o => growJ o m).map ordD) = true := ords_only _ fun o' h => by
        obtain ⟨x, hx, h⟩ := List.mem_flatMap.mp h
        have := lo3 x (List.mem_of_mem_take hx)
        obtain ⟨n, _, rfl⟩ := List.mem_map.mp h
        rw [List.length_append]
        show x.length + 1 ≤ 1000
        omega
      have onG : tupOnlyAll ((growJ o m).map ordD) = true := ords_only _ fun o' h => by
        obtain ⟨n, _, rfl⟩ := List.mem_map.mp h
        rw [List.length_append]
        show o.length + 1 ≤ 1000
        omega
      have onF : tupOnlyAll ((lev m t).map ordD) = true := ords_only _ fun o h => by have := lo3 o h; omega
      refine ⟨Lg, D, ws, zs, rfl, rfl, eW9, eD, by omega, ?_⟩
      have u10 := Tups.upd_lst (K := K) (ys := ws ++ zs) eW9
      refine ⟨own_same nLg0 s79, ?_, DpAll.tups u10 _ onF (DpAll.tups (Tups.of_same s9) _ onF hus7), ⟨ws ++ zs, upd_same, ?_, by rw [List.length_append]; omega⟩, _, _, rfl⟩
      · rw [upd_ne nFL]
        exact eF9
      · rw [tk, List.map_append]
        exact dp_app (DpAll.tups u10 _ onW (DpAll.tups (Tups.of_same s9) _ onW hws)) (DpAll.tups u10 _ onG hz)
    · rintro σ H7 ⟨s7, eF7, hus7, ⟨ws, eW, hws, lw⟩, y4, y5, rfl⟩
      rw [lu, List.take_length] at hws
      exact ⟨_, rfl, s7, Lg, ws, eW, nLg0, hws, _, _, _, _, rfl⟩
  · rintro σ H4 ⟨s4, F, us, eF, nF, hus, y2, y3, y4, y5, rfl⟩
    rw [lev_perms m1 m3] at hus
    have l6 : ((Pm.perms m).map ordD).length ≤ 1000 := by
      rw [List.length_map, ← lev_perms m1 m3]
      have := (lev_len m3 (Nat.le_refl m)).1
      omega
    refine ⟨_, rfl, F, us, _, rfl, SqL.of eF, hus, al_ord m1 m3, so_ord m1 m3, l6, deep_ord m1 m3, fun vs p np hv => ?_⟩
    rw [told_ord m1 m3] at hv
    have j := new_same (o := .lst vs) np
    refine q vs p _ (s4.trans j) (s4.free np) upd_same (DpAll.tups (Tups.of_same j) _ (ords_only _ fun o ho => ?_) hv)
    rw [← lev_perms m1 m3] at ho
    have := (lev_len m3 (Nat.le_refl m)).2 o ho
    omega
end
end K18
end

section
set_option Elab.async false
set_option linter.all false
set_option maxRecDepth 100000
set_option maxHeartbeats 4000000
namespace K18
open PySem PySem.Spec PyProof.Rows L2 Gd PySem.W
abbrev sDu : Stmt := topS 11
abbrev nDu : List Str := ["_law_sources_here", "_law_ways", "_law_found", "_law_order", "_law_source", "_law_way"]
theorem scDu : FnScope nDu ["_law_sources_here"] (defScope sDu) := ⟨rfl, rfl, rfl, by decide +kernel, rfl, by decide +kernel, by decide +kernel⟩
def waysL (b : Bool) : List Str := if b then ["kept", "walked"] else ["walked"]
theorem gen2_ways (b : Bool) (o : List Nat) : gen2 b o = (waysL b).map (pl o) := by cases b <;> rfl
theorem waysL_len (b : Bool) : (waysL b).length ≤ 2 := by cases b <;> decide
theorem pls_only (o : List Nat) (h : o.length ≤ 1000) : ∀ ws : List Str, tupOnlyAll (ws.map (pl o)) = true
  | [] => rfl
  | x :: ws => by rw [List.map_cons]; simp only [tupOnlyAll, pl_only o x h, pls_only o h ws, Bool.and_self]
theorem pl_ok {s : Str} (h : Szg.Pl s) : PyData.strOk s = true := by
  unfold PyData.strOk
  rw [← Array.all_toList, List.all_eq_true]
  intro c hc
  exact decide_eq_true (Nat.lt_trans (h.1 c hc) (by decide))
theorem prD_shape : ∀ ps : List Pr, (∀ p ∈ ps, Szg.Pl p.c ∧ Szg.Pl p.o ∧ Szg.Pl p.d) → PyData.canLayAll0 (ps.map prD) = true ∧ PyData.depthAll (ps.map prD) ≤ 1
  | [], _ => ⟨rfl, Nat.zero_le _⟩
  | p :: ps, h => by
    obtain ⟨a, b⟩ := prD_shape ps fun x m => h x (by simp [m])
    obtain ⟨h1, h2, h3⟩ := h p (by simp)
    rw [List.map_cons]
    refine ⟨?_, ?_⟩
    · simp only [PyData.canLayAll0, a, Bool.and_true, prD, PyData.canLay0, pl_ok h1, pl_ok h2, pl_ok h3]
    · have : (prD p).depth = 1 := by
        simp [prD, PyData.depth, PyData.depthAll]
      simp only [PyData.depthAll]
      omega
theorem prs_shaped (ps : List Pr) (h : ∀ p ∈ ps, Szg.Pl p.c ∧ Szg.Pl p.o ∧ Szg.Pl p.d) : SeqAt.shaped (.tuple (ps.map prD)) = true := by
  obtain ⟨a, b⟩ := prD_shape ps h
  unfold SeqAt.shaped
  have e : (PyData.tuple (ps.map prD)).depth = PyData.depthAll (ps.map prD) + 1 := by
    unfold PyData.depth
    rfl
  rw [e]
  simp only [PyData.canLay0, a, Bool.true_and, decide_eq_true_eq]
  omega
theorem prs_eqv (ps : List Pr) : PyData.eqv (.tuple (ps.map prD)) (.tuple []) = ps.isEmpty := by
  cases ps with
  | nil => rfl
  | cons p ps => rfl
def spDu (K : PySem.W.Frag) : Sp := fun vs H Q _ => ∃ (A : Addr) (xs : List V) (ss : List Src) (m : Nat), vs = [.ref A] ∧ SqT K H A xs ∧ DpAll K H xs (ss.map srcD) ∧ Drawn ss m ∧
  ∀ (us : List V) (p : Addr) (H' : Hp), Same H H' → H p = none → H' p = some (.lst us) → DpAll K H' us (plansL m (anyP ss)) → Q (.ref p) H'
section
variable {P : Program} {w : World} {K : PySem.W.Frag} {mg : Str → Option Value} {base : Heap} {f fO : Addr} {fd dO : FuncData}
theorem ok_du (F : Fun K "_law_due" "_law_due" sDu f fd) (mn : mg "len" = none) (mi : mg "int" = none)
    (FO : Fun K "_law_orders" "_law_orders" sOr fO dO) (GO : FnOk P w K mg base CX0 1 fO dO ["_law_many"] (spOr K)) (bO : Binds K dO ["_law_many"] []) (gO : mg "_law_orders" = some (.ref fO)) :
    FnOk P w K mg base CX0 2 f fd ["_law_sources_here"] (spDu K) := by
  refine F.ok scDu (fun vs H Q E h => ?_) (fun cdv A outer s0 H vs Q E hr h => ?_)
  · obtain ⟨A, xs, ss, m, rfl, _⟩ := h
    rfl
  obtain ⟨AS, xs, ss, m, rfl, hA, hX, dr, q⟩ := h
  have nd := scDu.nd
  have zl : sizeLine = 16777216 := rfl
  have hu := hu_of hr
  have hu2 := hr.units
  refine ⟨_, pss_cons (ps_set (i := 1) nd rfl (by first | exact .inl rfl | exact .inr rfl) (pe_ix ix_list (pe_lst (pa_cons (pe_lst (pa_cons pe_str pa_nil)) (pa_cons (pe_lst (pa_cons pe_str (pa_cons pe_str pa_nil))) pa_nil))) (pe_callTy call_int1 (by rfl) mi (by decide +kernel) (pa_cons (pe_cmpR (op_neL0 (Nat.lt_of_succ_lt hu)) (pe_lc (own := [("_law_source", 4)]) (g := gName 4) rfl nd (pi_tup (pv 0)) (blkOk_by (N := nDu) (sc := defScope sDu) (by decide +kernel)) (fun _ _ _ _ _ => pg_name (i := 4) nd rfl (Or.inl rfl)) (fun _ _ _ _ _ => pts_one (pt_cmpR (r := rNeD K) (op_neD hu2) (pe_ix (r := rIxT K) ix_tup (pv 4) pe_int (fun _ _ => rfl)) (pe_tup pa_nil) (nomark _))) (fun _ _ _ _ _ => (pv 4))) (pe_lst pa_nil) (nomark _)) pa_nil)) (fun _ _ => rfl)))
      (pss_cons (ps_set (i := 2) nd rfl (by first | exact .inl rfl | exact .inr rfl) (pe_lst pa_nil))
      (pss_cons (ps_for PassesOwn.never rfl (pi_list (pe_call GO hr (by rfl) gO FO.kp bO .nil pass0 (pa_cons (pe_callB call_len_seq (by rfl) mn PySem.boot_len (pa_cons (pe_lc (own := [("_law_source", 4)]) (g := gName 4) rfl nd (pi_tup (pv 0)) (blkOk_by (N := nDu) (sc := defScope sDu) (by decide +kernel)) (fun _ _ _ _ _ => pg_name (i := 4) nd rfl (Or.inl rfl)) (fun _ _ _ _ _ => pts_one (pt_cmpR op_eq (pe_ix (r := rIxT K) ix_tup (pv 4) pe_int (fun _ _ => rfl)) pe_str (nomark _))) (fun _ _ _ _ _ => (pv 4))) pa_nil)) pa_nil))) (pg_name (i := 3) nd rfl (by first | exact .inl rfl | exact .inr rfl))
      (pss_one (ps_expr (pe_bm PySem.F.plainAttrs_list PySem.F.slot_list_extend PySem.F.type_list_extend mt_extend (pv 2) (pa_cons (pe_lc (own := [("_law_way", 5)]) (g := gName 5) (tt := tYes) rfl nd (pi_list (pv 1)) (blkOk_by (N := nDu) (sc := defScope sDu) (by decide +kernel)) (fun _ _ _ _ _ => pg_name (i := 5) nd rfl (Or.inl rfl)) (fun _ _ _ _ _ => pts_nil) (fun _ _ _ _ _ => (pe_tup (pa_cons (pv 3) (pa_cons (pv 5) pa_nil))))) pa_nil)))))
      (pss_one (ps_ret (pv 2))))), ?_⟩
  have lX : xs.length = ss.length := by rw [DpAll.len hX, List.length_map]
  have l5 := dr.five
  have m1 := dr.m1
  have m3 := dr.m3
  have src_at : ∀ {i : Nat} {x : V}, i < xs.length → xs[i]? = some x → ∃ s a b ps, ss[i]? = some s ∧ x = .ref a ∧ SqT K H a [.str s.way, .str s.nick, .str s.table, .ref b] ∧ SqT K H b ps ∧ DpAll K H ps (s.pairs.map prD) := by
    intro i x hi ex
    obtain ⟨d, ed, hd⟩ := DpAll.at_ hX ex
    rw [srcs_at (by omega)] at ed
    cases ed
    have es : ss[i]? = some (ss.getD i noSrc) := by rw [List.getD_eq_getElem?_getD, List.getElem?_eq_getElem (by omega)] <;> rfl
    obtain ⟨a, b, ps, e, r⟩ := dp_src hd
    exact ⟨_, a, b, ps, es, e, r⟩
  refine ⟨(by show 1 ≤ sizeLine; decide), fun w1 nw1 => ?_⟩
  have s1 := new_same (o := .lst [.str "walked"]) nw1
  have e1 : upd H w1 (.lst [.str "walked"]) w1 = some (.lst ((waysL false).map V.str)) := upd_same
  generalize upd H w1 (.lst [.str "walked"]) = H1 at s1 e1 ⊢
  refine ⟨(by show 2 ≤ sizeLine; decide), fun w2 nw2 => ?_⟩
  have j2 := new_same (o := .lst [.str "kept", .str "walked"]) nw2
  have s2 := s1.trans j2
  have e12 := j2 _ _ e1
  have e2 : upd H1 w2 (.lst [.str "kept", .str "walked"]) w2 = some (.lst ((waysL true).map V.str)) := upd_same
  generalize upd H1 w2 (.lst [.str "kept", .str "walked"]) = H2 at s2 e12 e2 ⊢
  refine ⟨(by show 2 ≤ sizeLine; decide), fun w0 nw0 => ?_⟩
  have j3 := new_same (o := .lst [.ref w1, .ref w2]) nw0
  have s3 := s2.trans j3
  have e13 := j3 _ _ e12
  have e23 := j3 _ _ e2
  have e03 : upd H2 w0 (.lst [.ref w1, .ref w2]) w0 = some (.lst [.ref w1, .ref w2]) := upd_same
  generalize upd H2 w0 (.lst [.ref w1, .ref w2]) = H3 at s3 e13 e23 e03 ⊢
  refine ⟨_, rfl, AS, rfl, ⟨xs, same_tup s3 hA⟩, fun D nD => ?_⟩
  have nD0 := s3.free nD
  refine lc_it walk_tup (fun i H4 => Same H3 H4 ∧ ∃ acc, H4 D = some (.lst acc) ∧ acc.length ≤ i ∧ acc.isEmpty = !(anyP (ss.take i))) ⟨new_same nD, [], upd_same, Nat.le_refl _, rfl⟩ (fun i H4 _ h => same_tup (s3.trans h.1) hA) ?_ ?_
  · rintro i x H4 H5 hi ⟨s4, acc, eD, la, ea⟩ ⟨rfl, ex⟩
    have hi : i < xs.length := hi
    obtain ⟨s, a, b, ps, es, rfl, tt, tb, hp⟩ := src_at hi ex
    have s34 := s3.trans s4
    have tk : anyP (ss.take (i + 1)) = (anyP (ss.take i) || !s.pairs.isEmpty) := by
      unfold anyP
      rw [take_at es, List.any_append]
      simp
    refine ⟨rfl, ?_⟩
    refine ⟨_, rfl, a, _, 3, _, rfl, rfl, same_tup s34 tt, atI_nat (j := 3) rfl, ?_⟩
    refine ⟨Nat.zero_le _, fun z0 nz0 => ?_⟩
    have j6 := new_same (o := .tup []) nz0
    refine ⟨.tuple (s.pairs.map prD), .tuple [], Dp.tups (Tups.of_same (s34.trans j6)) _ ?_ (.tup tb hp), .tup (SqT.of upd_same) .nil, prs_shaped _ (dr.small s (List.mem_of_getElem? es)).2.2.2.2, rfl, _, rfl, ?_⟩
    · have := (dr.small s (List.mem_of_getElem? es)).1
      simp only [tupOnly, prs_only, Bool.and_true, decide_eq_true_eq, List.length_map]
      omega
    rw [prs_eqv]
    cases z : s.pairs.isEmpty with
    | true =>
      refine iteF ⟨s4.trans j6, acc, j6 _ _ eD, by omega, ?_⟩
      rw [tk, z, ea]
      simp
    | false =>
      refine iteT ⟨_, rfl, acc, j6 _ _ eD, by omega, own_same nD (s4.trans j6), acc ++ [.ref a], upd_same, by rw [List.length_append]; show acc.length + 1 ≤ _; omega, ?_⟩
      rw [tk, z]
      cases acc <;> simp
  rintro H4 ⟨s4, acc, eD, la, ea⟩
  rw [lX, List.take_length] at ea
  refine ⟨Nat.zero_le _, fun z1 nz1 => ?_⟩
  have j5 := new_same (o := .lst []) nz1
  have s5 := (s3.trans s4).trans j5
  have eD5 := j5 _ _ eD
  have ez5 : upd H4 z1 (.lst []) z1 = some (.lst []) := upd_same
  have e15 := j5 _ _ (s4 _ _ e13)
  have e25 := j5 _ _ (s4 _ _ e23)
  have e05 := j5 _ _ (s4 _ _ e03)
  generalize upd H4 z1 (.lst []) = H5 at s5 eD5 ez5 e15 e25 e05 ⊢
  refine ⟨D, z1, acc, rfl, rfl, SqL.of eD5, SqL.of ez5, .inr ⟨_, rfl, ?_⟩⟩
  have nb : (!acc.isEmpty) = anyP ss := by rw [ea, Bool.not_not]
  obtain ⟨wb, hwb, ewb⟩ : ∃ wb : Addr, atI [V.ref w1, V.ref w2] (if (!acc.isEmpty) = true then 1 else 0) = some (.ref wb) ∧ H5 wb = some (.lst ((waysL (anyP ss)).map V.str)) := by
    rw [nb]
    cases anyP ss with
    | true => exact ⟨w2, rfl, e25⟩
    | false => exact ⟨w1, rfl, e15⟩
  refine ⟨w0, _, _, .ref wb, rfl, rfl, SqL.of e05, hwb, ?_⟩
  generalize hb : anyP ss = b at ewb
  refine ⟨Nat.zero_le _, fun FO nFO => ?_⟩
  have j6 := new_same (o := .lst []) nFO
  have s6 := s5.trans j6
  have nFO0 := s5.free nFO
  have ewb6 := j6 _ _ ewb
  have nwF : wb ≠ FO := ne_of_none ewb nFO
  have ef6 : upd H5 FO (.lst []) FO = some (.lst []) := upd_same
  generalize upd H5 FO (.lst []) = H6 at s6 ewb6 ef6 ⊢
  refine ⟨_, rfl, AS, rfl, ⟨xs, same_tup s6 hA⟩, fun E1 nE1 => ?_⟩
  refine lc_it walk_tup (fun i H7 => Same H6 H7 ∧ ∃ acc, H7 E1 = some (.lst acc) ∧ acc.length = ((ss.take i).filter isWi).length) ⟨new_same nE1, [], upd_same, rfl⟩ (fun i H7 _ h => same_tup (s6.trans h.1) hA) ?_ ?_
  · rintro i x H7 H8 hi ⟨s7, acc, eE, la⟩ ⟨rfl, ex⟩
    have hi : i < xs.length := hi
    obtain ⟨s, a, b, ps, es, rfl, tt, tb, hp⟩ := src_at hi ex
    have s67 := s6.trans s7
    have tk : ((ss.take (i + 1)).filter isWi).length = ((ss.take i).filter isWi).length + (if isWi s then 1 else 0) := by
      rw [take_at es, List.filter_append, List.length_append]
      cases z : isWi s <;> simp [List.filter, z]
    have lf := List.length_filter_le isWi (ss.take i)
    rw [List.length_take] at lf
    refine ⟨rfl, ?_⟩
    refine ⟨_, rfl, a, _, 0, _, rfl, rfl, same_tup s67 tt, atI_nat (j := 0) rfl, rfl, _, rfl, ?_⟩
    by_cases z : s.way = "with"
    · have zi : isWi s = true := decide_eq_true z
      rw [show decide (V.str s.way = V.str "with") = true from decide_eq_true (congrArg V.str z)]
      refine iteT ⟨_, rfl, _, eE, by omega, own_same nE1 s7, _, upd_same, ?_⟩
      rw [tk, zi, List.length_append, la]
      rfl
    · have zi : isWi s = false := decide_eq_false z
      rw [show decide (V.str s.way = V.str "with") = false from decide_eq_false (fun e => z (V.str.inj e))]
      refine iteF ⟨s7, acc, eE, ?_⟩
      rw [tk, zi, la]
      rfl
  rintro H7 ⟨s7, acc2, eE, la2⟩
  rw [lX, List.take_length, dr.withs] at la2
  refine ⟨E1, acc2, rfl, .inl (SqL.of eE), ?_⟩
  rw [la2]
  refine ⟨m, rfl, m1, m3, fun us OL H8 s8 nOL eO hO => ?_⟩
  have ewb8 := s8 _ _ (s7 _ _ ewb6)
  have ef8 := s8 _ _ (s7 _ _ ef6)
  have s68 := s6.trans (s7.trans s8)
  have lP : (Pm.perms m).length ≤ 6 ∧ ∀ o ∈ Pm.perms m, o.length ≤ 3 := by
    rw [← lev_perms m1 m3]
    exact lev_len m3 (Nat.le_refl m)
  have lu : us.length = (Pm.perms m).length := by rw [DpAll.len hO, List.length_map]
  have onO : tupOnlyAll ((Pm.perms m).map ordD) = true := ords_only _ fun o h => by have := lP.2 o h; omega
  have nOF : OL ≠ FO := fun e => by rw [e, (s7 _ _ ef6)] at nOL; cases nOL
  have onG : ∀ os : List (List Nat), (∀ o ∈ os, o ∈ Pm.perms m) → tupOnlyAll (os.flatMap (gen2 b)) = true := fun os h => gens2_only b os fun o ho => by have := lP.2 o (h o ho); omega
  refine ⟨OL, rfl, ⟨us, SqL.of eO⟩, ?_⟩
  refine for_it walk_list (fun i σ H9 => Same H H9 ∧ H9 OL = some (.lst us) ∧ H9 wb = some (.lst ((waysL b).map V.str)) ∧ DpAll K H9 us ((Pm.perms m).map ordD) ∧ (∃ ws, H9 FO = some (.lst ws) ∧ DpAll K H9 ws (((Pm.perms m).take i).flatMap (gen2 b)) ∧ ws.length ≤ 2 * i) ∧ ∃ y3 y4 y5, σ = [some (.ref AS), some (.ref wb), some (.ref FO), y3, y4, y5])
    ⟨s68, eO, ewb8, hO, ⟨[], ef8, .nil, Nat.le_refl _⟩, _, _, _, rfl⟩ (fun i σ H9 _ h => SqL.of h.2.1) ?_ ?_
  · rintro i x σ H9 H10 hi ⟨s9, eO9, ew9, hO9, ⟨ws, eW, hws, lw⟩, y3, y4, y5, rfl⟩ ⟨rfl, ex⟩
    obtain ⟨d, ed, hd⟩ := DpAll.at_ hO9 ex
    rw [List.getElem?_map, Option.map_eq_some_iff] at ed
    obtain ⟨o, eo, rfl⟩ := ed
    obtain ⟨a, rfl, ta⟩ := dp_ord hd
    have lo := lP.2 o (List.mem_of_getElem? eo)
    refine ⟨_, rfl, .inl ⟨rfl, _, SqL.of eW⟩, _, rfl, wb, rfl, ⟨_, SqL.of ew9⟩, fun D nD => ?_⟩
    refine lc_it walk_list (fun j H11 => Same H10 H11 ∧ ∃ zs, H11 D = some (.lst zs) ∧ DpAll K H11 zs (((waysL b).take j).map (pl o)) ∧ zs.length ≤ j) ⟨new_same nD, [], upd_same, .nil, Nat.le_refl _⟩ (fun j H11 _ h => SqL.of (h.1 _ _ ew9)) ?_ ?_
    · rintro j x H11 H12 hj ⟨s11, zs, eD, hz, lz⟩ ⟨rfl, ex⟩
      obtain ⟨y, ey, rfl⟩ := map_at ex
      have hj2 := at_lt ey
      have l2 := waysL_len b
      have ta11 := same_tup s11 ta
      have only := pls_only o (by omega) ((waysL b).take j)
      refine ⟨rfl, ?_⟩
      refine ⟨_, rfl, _, rfl, (by show 2 ≤ sizeLine; decide), fun n nn => ?_⟩
      have j13 := new_same (o := .tup [.ref a, .str y]) nn
      have tn : SqT K (upd H12 n (.tup [.ref a, .str y])) n [.ref a, .str y] := SqT.of upd_same
      have eD13 := j13 _ _ eD
      refine ⟨zs, eD13, by omega, own_same nD (s11.trans j13), zs ++ [.ref n], upd_same, ?_, by rw [List.length_append]; show zs.length + 1 ≤ _; omega⟩
      rw [take_at ey, List.map_append]
      refine DpAll.tups (Tups.upd_lst eD13) _ (only_snoc only (pl_only o y (by omega))) (DpAll.snoc (DpAll.tups (Tups.of_same j13) _ only hz) (pl_dp tn (same_tup j13 ta11)))
    rintro H11 ⟨s11, zs, eD, hz, lz⟩
    rw [List.length_map] at hz lz
    rw [List.take_length] at hz
    have eW11 := s11 _ _ eW
    have onW := onG ((Pm.perms m).take i) fun o h => List.mem_of_mem_take h
    have only := pls_only o (by omega) (waysL b)
    have tk : ((Pm.perms m).take (i + 1)).flatMap (gen2 b) = ((Pm.perms m).take i).flatMap (gen2 b) ++ (waysL b).map (pl o) := by
      rw [take_at eo, List.flatMap_append, ← gen2_ways]
      simp
    have l2 := waysL_len b
    refine ⟨FO, D, ws, zs, rfl, rfl, eW11, eD, by omega, ?_⟩
    have u12 := Tups.upd_lst (K := K) (ys := ws ++ zs) eW11
    refine ⟨own_same nFO0 (s9.trans s11), ?_, ?_, DpAll.tups u12 _ onO (DpAll.tups (Tups.of_same s11) _ onO hO9), ⟨ws ++ zs, upd_same, ?_, by rw [List.length_append]; omega⟩, _, _, _, rfl⟩
    · rw [upd_ne nOF]
      exact s11 _ _ eO9
    · rw [upd_ne nwF]
      exact s11 _ _ ew9
    · rw [tk]
      exact dp_app (DpAll.tups u12 _ onW (DpAll.tups (Tups.of_same s11) _ onW hws)) (DpAll.tups u12 _ only hz)
  · rintro σ H9 ⟨s9, eO9, ew9, hO9, ⟨ws, eW, hws, lw⟩, y3, y4, y5, rfl⟩
    rw [lu, List.take_length] at hws
    refine ⟨_, rfl, q ws FO H9 s9 nFO0 eW ?_⟩
    rw [hb]
    exact hws
end
end K18
end

section
set_option Elab.async false
set_option linter.all false
set_option maxRecDepth 100000
set_option maxHeartbeats 4000000
namespace K18
open PySem PySem.Spec PyProof.Rows L2 Gd PySem.W
/-- one by its name alone -/
def only1 {α : Type} : List α → List α → List α
  | [], ws => ws
  | _ :: _, _ => []
theorem only1_rel {vs : List V} {us : List Value} {zs : List V} {ws : List Value} (a : Vals vs us) (b : Vals zs ws) : Vals (only1 vs zs) (only1 us ws) := by
  cases a with
  | nil => exact b
  | cons _ _ => exact .nil
theorem only1_of {K : PySem.W.Frag} {x qual k : Str} {st : Stmt} {f : Addr} {fd : FuncData} (F : Fun K x qual st f fd)
    (h : ∀ (kV doc pm : Value) (an : Option Addr) (cdv ct w : Value), bindArgs (PySem.W.fnOf x qual (defArgs st) (defBody st) (defScope st) .none kV doc pm an cdv ct) ⟨[], [(k, w)]⟩ = pure [(k, w)]) :
    KBinds K fd [k] [k] only1 only1 := by
  obtain ⟨oc, od, kV, doc, pm, an, cdv, ct, osl, rfl, lk, hcd⟩ := F.ex
  refine ⟨fun s us ws _ hl => ?_, fun a b => only1_rel a b⟩
  cases us with
  | cons _ _ => cases hl
  | nil =>
    match ws, hl with
    | [w], _ => exact .of_eq (h kV doc pm an cdv ct w)
abbrev sLaw : Stmt := topS 12
abbrev nLw : List Str := ["_law_script", "_law_pen_here", "_law_turn", "_law_sources_here", "_law_asked", "_law_kept", "_law_due_here", "_law_found"]
theorem scLaw : FnScope nLw ["_law_script"] (defScope sLaw) := ⟨rfl, rfl, rfl, by decide +kernel, rfl, by decide +kernel, by decide +kernel⟩
def askD (ss : List Src) (b : Bool) : PyData := .tuple [.tuple (ss.map srcD), .tuple [], .tuple [.str "rows", .tuple [.tuple [.str "number", .int 1]]], .tuple [], .none, .bool b]
open Szg in
theorem src_sm {s : Src} (h : s.pairs.length ≤ 2 ∧ Pl s.way ∧ Pl s.nick ∧ Pl s.table ∧ ∀ p ∈ s.pairs, Pl p.c ∧ Pl p.o ∧ Pl p.d) : Sm 300 3 (srcD s) := by
  obtain ⟨a, b, c, d, e⟩ := h
  have hp : Sms 190 1 (s.pairs.map prD) := by
    refine (Sms.all (w := 94) (n := 1) fun x hx => ?_).mono (by rw [List.length_map]; omega) (Nat.le_refl _)
    obtain ⟨p, hp, rfl⟩ := List.mem_map.mp hx
    obtain ⟨e1, e2, e3⟩ := e p hp
    exact (Sms.cons (sm_str e1) (Sms.cons (sm_str e2) (Sms.cons (sm_str e3) Sms.nil))).tup.mono (by decide) (by decide)
  have hq : Sm 191 2 (.tuple (s.pairs.map prD)) := hp.tup
  exact (Sms.cons ((sm_str b).mono (Nat.le_refl _) (Nat.zero_le 2)) (Sms.cons ((sm_str c).mono (Nat.le_refl _) (Nat.zero_le 2)) (Sms.cons ((sm_str d).mono (Nat.le_refl _) (Nat.zero_le 2)) (Sms.cons hq Sms.nil)))).tup.mono (by decide) (by decide)
open Szg in
theorem ask_sm {ss : List Src} {m : Nat} (d : Drawn ss m) (b : Bool) : Sm 3000 6 (askD ss b) := by
  have h1 : Sm 1600 4 (.tuple (ss.map srcD)) := by
    refine (Sms.all (w := 300) (n := 3) fun x hx => ?_).tup.mono (by rw [List.length_map]; have := d.five; omega) (Nat.le_refl _)
    obtain ⟨s, hs, rfl⟩ := List.mem_map.mp hx
    exact src_sm (d.small s hs)
  have e0 : Sm 1 4 (.tuple []) := Sms.nil.tup
  have pr : ∀ s : Str, (s.cps.toList.all fun c => decide (c < 128)) = true → s.length ≤ 30 → Pl s := fun s a b => ⟨fun c hc => of_decide_eq_true (List.all_eq_true.mp a c hc), b⟩
  have i1 : Sm 5 0 (.int 1) := ⟨by decide +kernel, by decide +kernel, by decide +kernel, by decide +kernel⟩
  have h3 : Sm 200 4 (.tuple [.str "rows", .tuple [.tuple [.str "number", .int 1]]]) :=
    (Sms.cons ((sm_str (pr "rows" (by decide +kernel) (by decide +kernel))).mono (Nat.le_refl _) (Nat.zero_le 2)) (Sms.cons (Sms.cons (Sms.cons (sm_str (pr "number" (by decide +kernel) (by decide +kernel))) (Sms.cons i1 Sms.nil)).tup Sms.nil).tup Sms.nil)).tup.mono (by decide) (by decide)
  exact (Sms.cons h1 (Sms.cons e0 (Sms.cons h3 (Sms.cons e0 (Sms.cons (sm_none.mono (Nat.le_refl _) (Nat.zero_le 4)) (Sms.cons ((sm_bool b).mono (Nat.le_refl _) (Nat.zero_le 4)) Sms.nil)))))).tup.mono (by decide) (by decide)
theorem plans_sm {m : Nat} (b : Bool) (h1 : 1 ≤ m) (h3 : m ≤ 3) : Szg.Sm 2000 4 (.list (plansL m b)) := by
  match m, b, h1, h3 with
  | 1, true, _, _ => exact ⟨by decide +kernel, by decide +kernel, by decide +kernel, by decide +kernel⟩
  | 1, false, _, _ => exact ⟨by decide +kernel, by decide +kernel, by decide +kernel, by decide +kernel⟩
  | 2, true, _, _ => exact ⟨by decide +kernel, by decide +kernel, by decide +kernel, by decide +kernel⟩
  | 2, false, _, _ => exact ⟨by decide +kernel, by decide +kernel, by decide +kernel, by decide +kernel⟩
  | 3, true, _, _ => exact ⟨by decide +kernel, by decide +kernel, by decide +kernel, by decide +kernel⟩
  | 3, false, _, _ => exact ⟨by decide +kernel, by decide +kernel, by decide +kernel, by decide +kernel⟩
theorem plans_len {m : Nat} {b : Bool} (h1 : 1 ≤ m) (h3 : m ≤ 3) : (plansL m b).length ≤ 1000 := by
  match m, b, h1, h3 with
  | 1, true, _, _ => decide +kernel
  | 1, false, _, _ => decide +kernel
  | 2, true, _, _ => decide +kernel
  | 2, false, _, _ => decide +kernel
  | 3, true, _, _ => decide +kernel
  | 3, false, _, _ => decide +kernel
def spLaw (K : PySem.W.Frag) : Sp := fun vs H Q _ => ∃ (a : Addr) (ns : List Int), vs = [.ref a] ∧ SqL K H a (ns.map V.int) ∧ ns.length ≤ 63 ∧ ∀ H', Q (.bl true) H'
section
variable {P : Program} {w : World} {K : PySem.W.Frag} {mg : Str → Option Value} {base : Heap} {f fE fT fN fS fD fP : Addr} {fd dE dT dN dS dD dP : FuncData}
theorem ok_law (F : Fun K "law" "law" sLaw f fd) (mr : mg "range" = none) (mp : mg "repr" = none) (mi : mg "isinstance" = none) (ml : mg "list" = none)
    (FE : Fun K "_law_pen" "_law_pen" sPen fE dE) (GE : FnOk P w K mg base CX0 1 fE dE ["_law_script"] (spPen K)) (bE : Binds K dE ["_law_script"] []) (gE : mg "_law_pen" = some (.ref fE))
    (FT : Fun K "_law_take" "_law_take" sDraw fT dT) (GT : FnOk P w K mg base CX0 1 fT dT ["_law_pen_here", "_law_many"] spDraw) (bT : Binds K dT ["_law_pen_here", "_law_many"] []) (gT : mg "_law_take" = some (.ref fT))
    (FN : Fun K "_law_names" "_law_names" sNm fN dN) (GN : FnOk P w K mg base CX0 2 fN dN ["_law_pen_here", "_law_many"] spNm) (bN : Binds K dN ["_law_pen_here", "_law_many"] []) (gN : mg "_law_names" = some (.ref fN))
    (FS : Fun K "_law_sources" "_law_sources" sSc fS dS) (GS : FnOk P w K mg base CX0 2 fS dS ["_law_pen_here", "_law_names_here"] (spSc K)) (bS : Binds K dS ["_law_pen_here", "_law_names_here"] []) (gS : mg "_law_sources" = some (.ref fS))
    (FD : Fun K "_law_due" "_law_due" sDu fD dD) (GD : FnOk P w K mg base CX0 2 fD dD ["_law_sources_here"] (spDu K)) (bD : Binds K dD ["_law_sources_here"] []) (gD : mg "_law_due" = some (.ref fD))
    (FP : Fun K "plans_of" "plans_of" sPl fP dP) (GP : FnOk P w K mg base CX0 3 fP dP ["ask"] (spPl K)) (bP : Binds K dP ["ask"] []) (kP : KBinds K dP ["ask"] ["ask"] only1 only1) (gP : mg "plans_of" = some (.ref fP)) :
    FnG P w K mg base CX0 4 f fd ["_law_script"] (spLaw K) := by
  refine okG F scLaw (fun vs H Q E h => ?_) (fun cv A out s H vs Q E gd hr h => ?_)
  · obtain ⟨a, ns, rfl, _⟩ := h
    rfl
  obtain ⟨a, ns, rfl, ha, hn, q⟩ := h
  have nd := scLaw.nd
  have zl : sizeLine = 16777216 := rfl
  have hr1 := hr.mono (show 1 ≤ 3 by decide)
  have hr2 := hr.mono (show 2 ≤ 3 by decide)
  refine ⟨_, pss_cons (ps_set (i := 1) nd rfl (.inl rfl) (pe_call GE hr1 (by rfl) gE FE.kp bE .nil pass0 (pa_cons (pv 0) pa_nil)))
      (pss_cons (ps_for PassesOwn.never rfl (pi_range1 (by rfl) mr (pa_cons pe_int pa_nil)) (pg_name (i := 2) nd rfl (.inl rfl))
      (pss_cons (ps_set (i := 3) nd rfl (.inl rfl) (pe_call GS hr2 (by rfl) gS FS.kp bS .nil pass0 (pa_cons (pv 1) (pa_cons (pe_call GN hr2 (by rfl) gN FN.kp bN .nil pass0 (pa_cons (pv 1) (pa_cons pe_int pa_nil))) pa_nil))))
      (pss_cons (ps_set (i := 4) nd rfl (.inl rfl) (pe_tup (pa_cons (pv 3) (pa_cons (pe_tup pa_nil) (pa_cons (pe_tup (pa_cons pe_str (pa_cons (pe_tup (pa_cons (pe_tup (pa_cons pe_str (pa_cons pe_int pa_nil))) pa_nil)) pa_nil))) (pa_cons (pe_tup pa_nil) (pa_cons pe_non (pa_cons (pe_cmpR op_eq (pe_call GT hr1 (by rfl) gT FT.kp bT .nil pass0 (pa_cons (pv 1) (pa_cons pe_int pa_nil))) pe_int (nomark _)) pa_nil))))))))
      (pss_cons (ps_set (i := 5) nd rfl (.inl rfl) (pe_callB (call_repr gd hr.units) (by rfl) mp (by decide +kernel) (pa_cons (pv 4) pa_nil)))
      (pss_cons (ps_set (i := 6) nd rfl (.inl rfl) (pe_callB (call_repr gd hr.units) (by rfl) mp (by decide +kernel) (pa_cons (pe_call GD hr2 (by rfl) gD FD.kp bD .nil pass0 (pa_cons (pv 3) pa_nil)) pa_nil)))
      (pss_cons (ps_set (i := 7) nd rfl (.inl rfl) (pe_call GP hr (by rfl) gP FP.kp bP .nil pass0 (pa_cons (pv 4) pa_nil)))
      (pss_cons (ps_if (PW.pt (pw_or (pt_not (pt_val (pe_callB call_isi (by rfl) mi (by decide +kernel) (pa_cons (pv 7) (pa_cons (pe_bltn (v := .ty "list") (by rfl) ml (by decide +kernel) rfl) pa_nil))))) (pw_or1 (pt_cmpR op_ne (pe_callB (call_repr gd hr.units) (by rfl) mp (by decide +kernel) (pa_cons (pv 7) pa_nil)) (pv 6) (nomark _)))))
        pss_never pss_nil)
      (pss_cons (ps_expr (pe_bm0 PySem.F.plainAttrs_list PySem.F.slot_list_reverse PySem.F.type_list_reverse mt_reverse (pv 7)))
      (pss_cons (ps_expr (pe_bm PySem.F.plainAttrs_list PySem.F.slot_list_append PySem.F.type_list_append mt_append (pv 7) (pa_cons pe_non pa_nil)))
      (pss_one (ps_if (PW.pt (pw_or (pt_cmpR op_ne (pe_callB (call_repr gd hr.units) (by rfl) mp (by decide +kernel) (pa_cons (pe_kw2 GP hr (by rfl) gP FP.kp kP pass0 (pk_cons (pv 4) pk_nil)) pa_nil)) (pv 6) (nomark _)) (pw_or1 (pt_cmpR op_ne (pe_callB (call_repr gd hr.units) (by rfl) mp (by decide +kernel) (pa_cons (pv 4) pa_nil)) (pv 5) (nomark _)))))
        pss_never pss_nil)))))))))))
      (pss_one (ps_ret pe_bl))), ?_⟩
  refine ⟨_, rfl, a, ns, rfl, ha, hn, fun l c H0 s0 nl nc p0 => ?_⟩
  refine ⟨8, rfl, by decide, by decide, ?_⟩
  refine for_it walk_range (fun i σ H1 => Pen H1 l c (63 * ((i : Nat) : Int)) ∧ ∃ y2 y3 y4 y5 y6 y7, σ = [some (.ref a), some (.ref l), y2, y3, y4, y5, y6, y7])
    ⟨p0.le (by simp), _, _, _, _, _, _, rfl⟩ (fun _ _ _ _ _ => trivial) ?_ ?_
  · rintro i x σ H1 H2 hi ⟨p1, y2, y3, y4, y5, y6, y7, rfl⟩ ⟨rfl, rfl⟩
    have hi8 : i < 8 := hi
    refine ⟨_, rfl, _, rfl, l, c, _, rfl, p1, by omega, fun an nms H3 na ea n5 nn pn p3 x3 => ?_⟩
    have nal := (p1.not na).1
    refine ⟨l, c, an, _, nms, rfl, p3, by omega, ea, nal, n5, nn, pn, fun T us ss m H4 hT hus dr p4 x4 => ?_⟩
    have only := srcs_only ss (fun s hs => Nat.le_trans (dr.small s hs).1 (by decide))
    -- the ask
    refine ⟨_, rfl, Nat.zero_le _, fun t1 nt1 => ?_⟩
    have j1 := new_same (o := .tup []) nt1
    have d1 : Dp K (upd H4 t1 (.tup [])) (.ref t1) (.tuple []) := .tup (SqT.of upd_same) .nil
    generalize upd H4 t1 (.tup []) = H5 at j1 d1 ⊢
    refine ⟨(by show 2 ≤ sizeLine; decide), fun t2 nt2 => ?_⟩
    have j2 := new_same (o := .tup [.str "number", .int 1]) nt2
    have d2 : Dp K (upd H5 t2 (.tup [.str "number", .int 1])) (.ref t2) (.tuple [.str "number", .int 1]) := .tup (SqT.of upd_same) (.cons (.str _) (.cons (.int _) .nil))
    generalize upd H5 t2 (.tup [.str "number", .int 1]) = H6 at j2 d2 ⊢
    refine ⟨(by show 1 ≤ sizeLine; decide), fun t3 nt3 => ?_⟩
    have j3 := new_same (o := .tup [.ref t2]) nt3
    have d3 : Dp K (upd H6 t3 (.tup [.ref t2])) (.ref t3) (.tuple [.tuple [.str "number", .int 1]]) := .tup (SqT.of upd_same) (.cons (Dp.tups (Tups.of_same j3) _ rfl d2) .nil)
    generalize upd H6 t3 (.tup [.ref t2]) = H7 at j3 d3 ⊢
    refine ⟨(by show 2 ≤ sizeLine; decide), fun t4 nt4 => ?_⟩
    have j4 := new_same (o := .tup [.str "rows", .ref t3]) nt4
    have d4 : Dp K (upd H7 t4 (.tup [.str "rows", .ref t3])) (.ref t4) (.tuple [.str "rows", .tuple [.tuple [.str "number", .int 1]]]) := .tup (SqT.of upd_same) (.cons (.str _) (.cons (Dp.tups (Tups.of_same j4) _ rfl d3) .nil))
    generalize upd H7 t4 (.tup [.str "rows", .ref t3]) = H8 at j4 d4 ⊢
    refine ⟨Nat.zero_le _, fun t5 nt5 => ?_⟩
    have j5 := new_same (o := .tup []) nt5
    have d5 : Dp K (upd H8 t5 (.tup [])) (.ref t5) (.tuple []) := .tup (SqT.of upd_same) .nil
    generalize upd H8 t5 (.tup []) = H9 at j5 d5 ⊢
    have s49 := (((j1.trans j2).trans j3).trans j4).trans j5
    have p9 := p4.same s49
    refine ⟨_, rfl, l, c, 2, _, rfl, p9, by decide, by decide, by omega, fun r H10 r0 r1 p10 x10 => ?_⟩
    refine ⟨rfl, (by show 6 ≤ sizeLine; decide), fun A nA => ?_⟩
    obtain ⟨_, _, _, el9, _⟩ := id p9
    have u10 := Ex1.tups (K := K) x10 el9
    obtain ⟨bb, hbb⟩ : ∃ bb, bb = decide (V.int r = V.int 0) := ⟨_, rfl⟩
    rw [← hbb]
    have j11 := new_same (o := .tup [.ref T, .ref t1, .ref t4, .ref t5, .non, .bl bb]) nA
    have u411 := ((Tups.of_same (K := K) s49).trans u10).trans (Tups.of_same j11)
    have t11 : SqT K (upd H10 A (.tup [.ref T, .ref t1, .ref t4, .ref t5, .non, .bl bb])) A [.ref T, .ref t1, .ref t4, .ref t5, .non, .bl bb] := SqT.of upd_same
    have u11 := u10.trans (Tups.of_same (K := K) j11)
    have T11 := u411 _ _ hT
    have us11 := DpAll.tups u411 _ only hus
    have k1 := Dp.tups ((((Tups.of_same (K := K) j2).trans (Tups.of_same j3)).trans (Tups.of_same j4)).trans ((Tups.of_same j5).trans u11)) _ rfl d1
    have k4 := Dp.tups ((Tups.of_same (K := K) j5).trans u11) _ rfl d4
    have k5 := Dp.tups u11 _ rfl d5
    have p11 := p10.same j11
    generalize upd H10 A (.tup [.ref T, .ref t1, .ref t4, .ref t5, .non, .bl bb]) = H11 at t11 T11 us11 k1 k4 k5 p11 ⊢
    have dA : ∀ H', Tups K H11 H' → Dp K H' (.ref A) (askD ss bb) := fun H' u => .tup (u _ _ t11) (.cons (.tup (u _ _ T11) (DpAll.tups u _ only us11)) (.cons (Dp.tups u _ rfl k1) (.cons (Dp.tups u _ rfl k4) (.cons (Dp.tups u _ rfl k5) (.cons .non (.cons (.bl _) .nil))))))
    obtain ⟨a1, a2, a3⟩ := (ask_sm dr bb).shown (by decide) (by decide)
    obtain ⟨b1, b2, b3⟩ := (plans_sm (anyP ss) dr.m1 dr.m3).shown (by decide) (by decide)
    have asks : ∀ H', Tups K H11 H' → AskAt K H' A ss := fun H' u => ⟨_, us, T, u _ _ t11, rfl, u _ _ T11, DpAll.tups u _ only us11⟩
    have small : Small ss := ⟨Nat.le_trans dr.five (by decide), fun s hs => Nat.le_trans (dr.small s hs).1 (by decide)⟩
    have no : ∀ x : Str, ¬ ((!decide (V.str x = V.str x)) = true) := fun x => by simp
    obtain ⟨ka, hka⟩ : ∃ t : Str, t = (askD ss bb).shown := ⟨_, rfl⟩
    obtain ⟨kp, hkp⟩ : ∃ t : Str, t = (PyData.list (plansL m (anyP ss))).shown := ⟨_, rfl⟩
    refine ⟨_, rfl, .ref A, askD ss bb, rfl, dA _ Tups.refl, a1, a2, a3, ?_⟩
    rw [← hka]
    refine ⟨_, rfl, T, us, ss, m, rfl, T11, us11, dr, fun du dl H12 s12 ndl edl hdu => ?_⟩
    refine ⟨.ref dl, .list (plansL m (anyP ss)), rfl, .lst (SqL.of edl) hdu, b1, b2, b3, ?_⟩
    rw [← hkp]
    have u12 := Tups.of_same (K := K) s12
    refine ⟨_, rfl, A, ss, m, rfl, asks _ u12, small, dr.well, dr.withs, dr.m1, dr.m3, fun fu fl H13 s13 nfl efl hfu => ?_⟩
    have u13 := u12.trans (Tups.of_same s13)
    have p13 := (p11.same s12).same s13
    have nfl12 := (p11.same s12).not nfl
    refine ⟨_, rfl, _, _, _, _, true, rfl, .ty _, .base (.lst efl), kit_ty (show kitB "list" "list" = some true by decide +kernel), _, rfl, ?_⟩
    refine iteF ?_
    refine ⟨_, rfl, .ref fl, .list (plansL m (anyP ss)), rfl, .lst (SqL.of efl) hfu, b1, b2, b3, ?_⟩
    rw [← hkp]
    refine ⟨_, rfl, rfl, _, rfl, ite2 (fun e => absurd e (no _)) (fun _ => ?_)⟩
    refine ⟨_, rfl, .inl ⟨rfl, _, SqL.of efl⟩, fl, fu, rfl, rfl, efl, ?_⟩
    have u14 := u13.trans (Tups.upd_lst (K := K) (ys := fu.reverse) efl)
    have p14 := p13.off (o := .lst fu.reverse) nfl12.1 nfl12.2
    have e14 : upd H13 fl (.lst fu.reverse) fl = some (.lst fu.reverse) := upd_same
    generalize upd H13 fl (.lst fu.reverse) = H14 at u14 p14 e14 ⊢
    have lfu : fu.length ≤ 1000 := by
      rw [DpAll.len hfu]
      exact plans_len dr.m1 dr.m3
    refine ⟨_, rfl, .inl ⟨rfl, _, SqL.of e14⟩, fl, fu.reverse, _, rfl, rfl, e14, by rw [List.length_reverse]; omega, ?_⟩
    have u15 := u14.trans (Tups.upd_lst (K := K) (ys := fu.reverse ++ [.non]) e14)
    have p15 := p14.off (o := .lst (fu.reverse ++ [.non])) nfl12.1 nfl12.2
    generalize upd H14 fl (.lst (fu.reverse ++ [.non])) = H15 at u15 p15 ⊢
    refine ⟨_, rfl, A, ss, m, rfl, asks _ u15, small, dr.well, dr.withs, dr.m1, dr.m3, fun gu gl H16 s16 ngl egl hgu => ?_⟩
    have u16 := u15.trans (Tups.of_same s16)
    refine ⟨.ref gl, .list (plansL m (anyP ss)), rfl, .lst (SqL.of egl) hgu, b1, b2, b3, ?_⟩
    rw [← hkp]
    refine ⟨_, rfl, rfl, _, rfl, ite2 (fun e => absurd e (no _)) (fun _ => ?_)⟩
    refine ⟨_, rfl, .ref A, askD ss bb, rfl, dA _ u16, a1, a2, a3, ?_⟩
    rw [← hka]
    refine ⟨_, rfl, rfl, _, rfl, ite2 (fun e => absurd e (no _)) (fun _ => ?_)⟩
    exact ⟨(p15.same s16).le (by omega), _, _, _, _, _, _, rfl⟩
  · rintro σ H1 ⟨p1, y2, y3, y4, y5, y6, y7, rfl⟩
    exact q H1
end
end K18
end

section
set_option Elab.async false
set_option linter.all false
set_option maxRecDepth 100000
set_option maxHeartbeats 8000000
namespace K18
open PySem PySem.Spec PyProof.Rows L2 Gd
theorem all_mk {l : PySem.W.OpenLaw} {w : World} {K : PySem.W.Frag} {h : Heap} {mg : Str → Option Value} {fa : Addr} {f0 f1 f2 f3 f4 f5 f6 f7 f8 f9 : Addr}  (X : K.In h) (G : h.Ns mainGlobals mg) (hfa : mg "law" = some (.ref fa))
    {od0 an0 od1 an1 od2 an2 od3 an3 od4 an4 od5 an5 od6 an6 od7 an7 od8 an8 od9 an9 : Option Addr} {sl0 sl1 sl2 sl3 sl4 sl5 sl6 sl7 sl8 sl9 : Array (Option Value)} {oc0 kV0 dc0 pm0 cd0 ct0 oc1 kV1 dc1 pm1 cd1 ct1 oc2 kV2 dc2 pm2 cd2 ct2 oc3 kV3 dc3 pm3 cd3 ct3 oc4 kV4 dc4 pm4 cd4 ct4 oc5 kV5 dc5 pm5 cd5 ct5 oc6 kV6 dc6 pm6 cd6 ct6 oc7 kV7 dc7 pm7 cd7 ct7 oc8 kV8 dc8 pm8 cd8 ct8 oc9 kV9 dc9 pm9 cd9 ct9 : Value}
    (aF0 : PySem.W.nsIn K mainGlobals "plans_of" = some (some (.ref f0)))
    (lF0 : K.lookup f0 = some ⟨oc0, od0, .func (PySem.W.fnOf "plans_of" "plans_of" (defArgs sPl) (defBody sPl) (defScope sPl) .none kV0 dc0 pm0 an0 cd0 ct0), sl0⟩)
    (cF0 : PySem.W.codeIn K cd0 "plans_of" = true)
    (kF0 : PySem.W.keepIn K (.ref f0) = true)
    (aF1 : PySem.W.nsIn K mainGlobals "links_of" = some (some (.ref f1)))
    (lF1 : K.lookup f1 = some ⟨oc1, od1, .func (PySem.W.fnOf "links_of" "links_of" (defArgs sLk) (defBody sLk) (defScope sLk) .none kV1 dc1 pm1 an1 cd1 ct1), sl1⟩)
    (cF1 : PySem.W.codeIn K cd1 "links_of" = true)
    (kF1 : PySem.W.keepIn K (.ref f1) = true)
    (aF2 : PySem.W.nsIn K mainGlobals "pairs_between" = some (some (.ref f2)))
    (lF2 : K.lookup f2 = some ⟨oc2, od2, .func (PySem.W.fnOf "pairs_between" "pairs_between" (defArgs sPB) (defBody sPB) (defScope sPB) .none kV2 dc2 pm2 an2 cd2 ct2), sl2⟩)
    (cF2 : PySem.W.codeIn K cd2 "pairs_between" = true)
    (kF2 : PySem.W.keepIn K (.ref f2) = true)
    (aF3 : PySem.W.nsIn K mainGlobals "_law_pen" = some (some (.ref f3)))
    (lF3 : K.lookup f3 = some ⟨oc3, od3, .func (PySem.W.fnOf "_law_pen" "_law_pen" (defArgs sPen) (defBody sPen) (defScope sPen) .none kV3 dc3 pm3 an3 cd3 ct3), sl3⟩)
    (cF3 : PySem.W.codeIn K cd3 "_law_pen" = true)
    (kF3 : PySem.W.keepIn K (.ref f3) = true)
    (aF4 : PySem.W.nsIn K mainGlobals "_law_take" = some (some (.ref f4)))
    (lF4 : K.lookup f4 = some ⟨oc4, od4, .func (PySem.W.fnOf "_law_take" "_law_take" (defArgs sDraw) (defBody sDraw) (defScope sDraw) .none kV4 dc4 pm4 an4 cd4 ct4), sl4⟩)
    (cF4 : PySem.W.codeIn K cd4 "_law_take" = true)
    (kF4 : PySem.W.keepIn K (.ref f4) = true)
    (aF5 : PySem.W.nsIn K mainGlobals "_law_names" = some (some (.ref f5)))
    (lF5 : K.lookup f5 = some ⟨oc5, od5, .func (PySem.W.fnOf "_law_names" "_law_names" (defArgs sNm) (defBody sNm) (defScope sNm) .none kV5 dc5 pm5 an5 cd5 ct5), sl5⟩)
    (cF5 : PySem.W.codeIn K cd5 "_law_names" = true)
    (kF5 : PySem.W.keepIn K (.ref f5) = true)
    (aF6 : PySem.W.nsIn K mainGlobals "_law_sources" = some (some (.ref f6)))
    (lF6 : K.lookup f6 = some ⟨oc6, od6, .func (PySem.W.fnOf "_law_sources" "_law_sources" (defArgs sSc) (defBody sSc) (defScope sSc) .none kV6 dc6 pm6 an6 cd6 ct6), sl6⟩)
    (cF6 : PySem.W.codeIn K cd6 "_law_sources" = true)
    (kF6 : PySem.W.keepIn K (.ref f6) = true)
    (aF7 : PySem.W.nsIn K mainGlobals "_law_orders" = some (some (.ref f7)))
    (lF7 : K.lookup f7 = some ⟨oc7, od7, .func (PySem.W.fnOf "_law_orders" "_law_orders" (defArgs sOr) (defBody sOr) (defScope sOr) .none kV7 dc7 pm7 an7 cd7 ct7), sl7⟩)
    (cF7 : PySem.W.codeIn K cd7 "_law_orders" = true)
    (kF7 : PySem.W.keepIn K (.ref f7) = true)
    (aF8 : PySem.W.nsIn K mainGlobals "_law_due" = some (some (.ref f8)))
    (lF8 : K.lookup f8 = some ⟨oc8, od8, .func (PySem.W.fnOf "_law_due" "_law_due" (defArgs sDu) (defBody sDu) (defScope sDu) .none kV8 dc8 pm8 an8 cd8 ct8), sl8⟩)
    (cF8 : PySem.W.codeIn K cd8 "_law_due" = true)
    (kF8 : PySem.W.keepIn K (.ref f8) = true)
    (aF9 : PySem.W.nsIn K mainGlobals "law" = some (some (.ref f9)))
    (lF9 : K.lookup f9 = some ⟨oc9, od9, .func (PySem.W.fnOf "law" "law" (defArgs sLaw) (defBody sLaw) (defScope sLaw) .none kV9 dc9 pm9 an9 cd9 ct9), sl9⟩)
    (cF9 : PySem.W.codeIn K cd9 "law" = true)
    (kF9 : PySem.W.keepIn K (.ref f9) = true)
    (aPM : PySem.W.nsIn K mainGlobals "permutations" = some (some (.type "itertools.permutations")))
    (z_enumerate : PySem.W.nsIn K mainGlobals "enumerate" = some none)
    (z_tuple : PySem.W.nsIn K mainGlobals "tuple" = some none)
    (z_list : PySem.W.nsIn K mainGlobals "list" = some none)
    (z_len : PySem.W.nsIn K mainGlobals "len" = some none)
    (z_isinstance : PySem.W.nsIn K mainGlobals "isinstance" = some none)
    (z_int : PySem.W.nsIn K mainGlobals "int" = some none)
    (z_range : PySem.W.nsIn K mainGlobals "range" = some none)
    (z_repr : PySem.W.nsIn K mainGlobals "repr" = some none)
    (z_min : PySem.W.nsIn K mainGlobals "min" = some none)
    (z_abs : PySem.W.nsIn K mainGlobals "abs" = some none)
    (z_sorted : PySem.W.nsIn K mainGlobals "sorted" = some none) :
    ∃ fd : FuncData, (∀ (s : Shared) (v : Value), BindsTo s fd ⟨[v], []⟩ [("_law_script", v)]) ∧ ∀ base : Heap, K.In base → base.Ns mainGlobals mg → FnG l.prog w K mg base CX0 4 fa fd ["_law_script"] (spLaw K) := by
  have e := hfa.symm.trans (PySem.W.mg_of X G aF9)
  cases e
  have F0 := fun_mk (st := sPl) lF0 cF0 kF0
  have b0 := F0.binds (ps := ["ask"]) fun _ _ _ _ _ _ us hl => match us, hl with | [_], _ => rfl
  have m0 := PySem.W.mg_of X G aF0
  have F1 := fun_mk (st := sLk) lF1 cF1 kF1
  have b1 := F1.binds (ps := ["ask", "plan"]) fun _ _ _ _ _ _ us hl => match us, hl with | [_, _], _ => rfl
  have m1 := PySem.W.mg_of X G aF1
  have F2 := fun_mk (st := sPB) lF2 cF2 kF2
  have b2 := F2.binds (ps := ["sources", "number", "ahead"]) fun _ _ _ _ _ _ us hl => match us, hl with | [_, _, _], _ => rfl
  have m2 := PySem.W.mg_of X G aF2
  have F3 := fun_mk (st := sPen) lF3 cF3 kF3
  have b3 := F3.binds (ps := ["_law_script"]) fun _ _ _ _ _ _ us hl => match us, hl with | [_], _ => rfl
  have m3 := PySem.W.mg_of X G aF3
  have F4 := fun_mk (st := sDraw) lF4 cF4 kF4
  have b4 := F4.binds (ps := ["_law_pen_here", "_law_many"]) fun _ _ _ _ _ _ us hl => match us, hl with | [_, _], _ => rfl
  have m4 := PySem.W.mg_of X G aF4
  have F5 := fun_mk (st := sNm) lF5 cF5 kF5
  have b5 := F5.binds (ps := ["_law_pen_here", "_law_many"]) fun _ _ _ _ _ _ us hl => match us, hl with | [_, _], _ => rfl
  have m5 := PySem.W.mg_of X G aF5
  have F6 := fun_mk (st := sSc) lF6 cF6 kF6
  have b6 := F6.binds (ps := ["_law_pen_here", "_law_names_here"]) fun _ _ _ _ _ _ us hl => match us, hl with | [_, _], _ => rfl
  have m6 := PySem.W.mg_of X G aF6
  have F7 := fun_mk (st := sOr) lF7 cF7 kF7
  have b7 := F7.binds (ps := ["_law_many"]) fun _ _ _ _ _ _ us hl => match us, hl with | [_], _ => rfl
  have m7 := PySem.W.mg_of X G aF7
  have F8 := fun_mk (st := sDu) lF8 cF8 kF8
  have b8 := F8.binds (ps := ["_law_sources_here"]) fun _ _ _ _ _ _ us hl => match us, hl with | [_], _ => rfl
  have m8 := PySem.W.mg_of X G aF8
  have F9 := fun_mk (st := sLaw) lF9 cF9 kF9
  have m9 := PySem.W.mg_of X G aF9
  have y_enumerate := PySem.W.mg_none_of X G z_enumerate
  have y_tuple := PySem.W.mg_none_of X G z_tuple
  have y_list := PySem.W.mg_none_of X G z_list
  have y_len := PySem.W.mg_none_of X G z_len
  have y_isinstance := PySem.W.mg_none_of X G z_isinstance
  have y_int := PySem.W.mg_none_of X G z_int
  have y_range := PySem.W.mg_none_of X G z_range
  have y_repr := PySem.W.mg_none_of X G z_repr
  have y_min := PySem.W.mg_none_of X G z_min
  have y_abs := PySem.W.mg_none_of X G z_abs
  have y_sorted := PySem.W.mg_none_of X G z_sorted
  refine ⟨PySem.W.fnOf "law" "law" (defArgs sLaw) (defBody sLaw) (defScope sLaw) .none kV9 dc9 pm9 an9 cd9 ct9, fun s v => .of_eq rfl, fun base _ _ => ?_⟩
  have k_plans_of := only1_of (k := "ask") F0 fun _ _ _ _ _ _ _ => rfl
  have mPM := PySem.W.mg_of X G aPM
  have gPB := ok_pb (K := K) (mg := mg) (P := l.prog) (w := w) (base := base) F2
  have gLk := ok_lk (K := K) (P := l.prog) (w := w) (base := base) F1 y_enumerate y_range y_len F2 gPB b2 m2
  have gPl := ok_pl (K := K) (P := l.prog) (w := w) (base := base) F0 mPM y_list y_range y_len y_sorted F1 gLk b1 m1
  have gPen := ok_pen (K := K) (mg := mg) (P := l.prog) (w := w) (base := base) F3
  have gT := ok_draw (K := K) (P := l.prog) (w := w) (base := base) F4 y_len y_abs y_int
  have gNm := ok_nm (K := K) (P := l.prog) (w := w) (base := base) F5 y_range F4 gT b4 m4
  have gSc := ok_sc (K := K) (P := l.prog) (w := w) (base := base) F6 y_range y_len y_min y_int y_tuple F4 gT b4 m4
  have gOr := ok_or (K := K) (P := l.prog) (w := w) (base := base) F7 y_range y_sorted
  have gDu := ok_du (K := K) (P := l.prog) (w := w) (base := base) F8 y_len y_int F7 gOr b7 m7
  exact ok_law F9 y_range y_repr y_isinstance y_list F3 gPen b3 m3 F4 gT b4 m4 F5 gNm b5 m5 F6 gSc b6 m6 F8 gDu b8 m8 F0 gPl b0 k_plans_of m0

end K18
open PySem PySem.W PyProof.Rows
set_option maxRecDepth 100000 in
set_option maxHeartbeats 0 in
theorem PySem.Challenge.cw_plansamid_k18_plans_told_holds : PySem.Challenge.rw_plansamid_k18_plans_told.Holds := by
  w_on; o_law; k_head; (case hw => w_witness2)
  k_fill
  refine Gd.walkG (l := PySem.Challenge.rw_plansamid_k18_plans_told) (m := 63) (n := 4) (x := "_law_script") (sp := K18.spLaw) rfl (by decide) rfl ⟨rfl, by decide, by decide⟩ (fun w h Y => PySem.W.kIn_of Y) ?F ?S
  case S =>
    intro K H a ns h1 _ _ h4; exact ⟨a, ns, rfl, h4, h1, fun _ => rfl⟩
  case F =>
    intro w mg fa h KX G hmg
    refine' K18.all_mk KX G hmg ?aF0 ?lF0 ?cF0 ?kF0 ?aF1 ?lF1 ?cF1 ?kF1 ?aF2 ?lF2 ?cF2 ?kF2 ?aF3 ?lF3 ?cF3 ?kF3 ?aF4 ?lF4 ?cF4 ?kF4 ?aF5 ?lF5 ?cF5 ?kF5 ?aF6 ?lF6 ?cF6 ?kF6 ?aF7 ?lF7 ?cF7 ?kF7 ?aF8 ?lF8 ?cF8 ?kF8 ?aF9 ?lF9 ?cF9 ?kF9 ?aPM ?z_enumerate ?z_tuple ?z_list ?z_len ?z_isinstance ?z_int ?z_range ?z_repr ?z_min ?z_abs ?z_sorted
    (case aF0 => k_is)
    (case lF0 => k_is)
    (case cF0 => k_is)
    (case kF0 => k_is)
    (case aF1 => k_is)
    (case lF1 => k_is)
    (case cF1 => k_is)
    (case kF1 => k_is)
    (case aF2 => k_is)
    (case lF2 => k_is)
    (case cF2 => k_is)
    (case kF2 => k_is)
    (case aF3 => k_is)
    (case lF3 => k_is)
    (case cF3 => k_is)
    (case kF3 => k_is)
    (case aF4 => k_is)
    (case lF4 => k_is)
    (case cF4 => k_is)
    (case kF4 => k_is)
    (case aF5 => k_is)
    (case lF5 => k_is)
    (case cF5 => k_is)
    (case kF5 => k_is)
    (case aF6 => k_is)
    (case lF6 => k_is)
    (case cF6 => k_is)
    (case kF6 => k_is)
    (case aF7 => k_is)
    (case lF7 => k_is)
    (case cF7 => k_is)
    (case kF7 => k_is)
    (case aF8 => k_is)
    (case lF8 => k_is)
    (case cF8 => k_is)
    (case kF8 => k_is)
    (case aF9 => k_is)
    (case lF9 => k_is)
    (case cF9 => k_is)
    (case kF9 => k_is)
    (case aPM => k_is)
    (case z_enumerate => k_is)
    (case z_tuple => k_is)
    (case z_list => k_is)
    (case z_len => k_is)
    (case z_isinstance => k_is)
    (case z_int => k_is)
    (case z_range => k_is)
    (case z_repr => k_is)
    (case z_min => k_is)
    (case z_abs => k_is)
    (case z_sorted => k_is)
end
