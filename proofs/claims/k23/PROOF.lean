import PyProof.Rows.All
import Wide.All
import OpenK.AllK
import Wide.FinOn
import HandS.ForMost
import HandS.ForExc
import HandS.EndBits
import HandS.IsInst
import PyProof.ReprRoads
import PyProof.ReprLen
import HandS.TupAny
import PyProof.Rows.IntBool
import KE.KRevSl
import PyProof.FitsInt
import PyProof.NeKinds
import HandS.Zip
import KE.GoesZip
import KE.GoesMore
import HandS.Conv
import HandS.Base
import HandS.Codes
import HandS.Walk
import HandS.Text
import HandS.DeepEq
import HandS.Iter
import PySem.Challenge.RW_plansamid_k23_slabs_looked_at

section
set_option Elab.async false
set_option linter.all false
set_option maxRecDepth 100000
set_option maxHeartbeats 4000000
/-! A def's promise where no text of a container is being put together around it (so that repr is served). -/
namespace Gd
open PySem PySem.Spec PyProof.Rows L2

/-- no container is amid its own text -/
def Free (A : Around) : Prop := A.guards = some []

structure FnG (P : Program) (w : World) (K : PySem.W.Frag) (mg : Str → Option Value)
    (base : Heap) (cx : CXT) (n : Nat) (f : Addr) (fd : FuncData) (ps : List Str) (sp : Sp) : Prop where
  len : ∀ vs H Q E, sp vs H Q E → vs.length = ps.length
  run : ∀ (A : Around) (out : List Env) (s : Shared) (H : Hp) (args : Args) (us : List Value)
      (vs : List V) (Q : VK) (E : XK), Free A → Room n A → Env0 P w K mg base A out s H →
      BindsTo s fd args (ps.zip us) → Vals vs us → sp vs H Q E →
      codeAny (model P w) A (.call (.ref f) args) (CR cx out P w H s Q E) s

section
variable {P : Program} {w : World} {K : PySem.W.Frag} {mg : Str → Option Value} {base : Heap} {cx : CXT}
theorem FnG.ofOk {n : Nat} {f : Addr} {fd : FuncData} {ps : List Str} {sp : Sp}
    (F : FnOk P w K mg base cx n f fd ps sp) : FnG P w K mg base cx n f fd ps sp :=
  ⟨F.len, fun A out s H args us vs Q E _ => F.run A out s H args us vs Q E⟩
theorem FnG.mono {m n : Nat} {f : Addr} {fd : FuncData} {ps : List Str} {sp : Sp}
    (F : FnG P w K mg base cx m f fd ps sp) (h : m ≤ n) : FnG P w K mg base cx n f fd ps sp :=
  ⟨F.len, fun A out s H args us vs Q E g r => F.run A out s H args us vs Q E g (r.mono h)⟩
end

section
variable {X : Cx} {cx : CXT} {n : Nat} {f : Addr} {fd : FuncData} {ps : List Str} {sp : Sp}
  {dvs : List V} {ds : List Value} {E : XK} {x : Str} {p pos : Pos} {e : Expr} {es : List Expr} {t : TA}

theorem run_g {pins : List (Addr × Obj)} {σ : L2.St} {H : Hp} {s : Shared} {Q : VK} {us : List Value} {vs : List V}
    (F : FnG X.prog X.w X.K X.mg X.base cx n f fd ps sp) (g : Free X.A) (hr : Room n X.A)
    (hb : Binds X.K fd ps ds) (hd : Vals dvs ds) (hx : Passes cx X E)
    (I : Inv X pins σ H s) (r : Vals vs us) (h : sp (vs ++ dvs) H Q E) :
    wpAny (model X.prog X.w) X.A (call (.ref f) us) (EP X pins σ Q) X.xe s := by
  have rr : Vals (vs ++ dvs) (us ++ ds) := r.append hd
  have hl : (us ++ ds).length = ps.length := (Paired.length rr).symm.trans (F.len _ _ _ _ h)
  have all := F.run X.A X.stack s H ⟨us, []⟩ (us ++ ds) (vs ++ dvs) Q E g hr I.env0 (hb s us I.kIn hl) rr h
  refine wpAny_call (codeAny_mono all ?_)
  intro o s' z
  cases o with
  | error er => exact hx pins σ H s er s' I z
  | ok fl =>
    cases fl with
    | ret u => exact I.after z
    | _ => exact False.elim z

theorem pe_callG (F : FnG X.prog X.w X.K X.mg X.base cx n f fd ps sp) (g : Free X.A) (hr : Room n X.A)
    (hg : Gl X x) (hm : X.mg x = some (.ref f)) (hk : PySem.W.keepIn X.K (.ref f) = true)
    (hb : Binds X.K fd ps ds) (hd : Vals dvs ds) (hx : Passes cx X E) (ha : PA X (e :: es) t)
    (hdb : (x == ("__debug__" : Str)) = false := by decide)
    (he : starEach (e :: es) X.env = (false, eval e X.env) :: starEach es X.env := by rfl)
    (hpl : (backTo pos (starEach es X.env)).any (·.1) = false := by rfl) :
    PE X (.Call (.Name x p) (e :: es) [] pos) (tCall sp dvs E t) := by
  constructor
  intro pins s σ H Q I h
  refine wpAny_Call_Name_kw (ld_glob I hg hm ?_ hdb)
  have args := ha.run pos pins s σ H _ I h
  refine PySem.W.callWith_K (h₀ := X.base) I.ok.mod.kin hk (thn args ?_) he hpl
  rintro us s1 ⟨vs, H1, J, r, q⟩
  exact ⟨J.kIn, run_g F g hr hb hd hx J r q⟩
end

/-! ### by the body -/
section
variable {P : Program} {w : World} {K : PySem.W.Frag} {mg : Str → Option Value} {base : Heap}
theorem FnG.body {cx : CXT} {n : Nat} {f : Addr} {nm ql : Str} {pr : Arguments} {bd : List Stmt} {sc : Scope}
    {dV kV dc pm cv ct oc : Value} {an od : Option Addr} {sl : Array (Option Value)} {N ps : List Str} {sp : Sp}
    (lk : K.lookup f = some ⟨oc, od, .func (PySem.W.fnOf nm ql pr bd sc dV kV dc pm an cv ct), sl⟩)
    (hc : PySem.W.codeIn K cv ql = true) (S : FnScope N ps sc) (len : ∀ vs H Q E, sp vs H Q E → vs.length = ps.length)
    (hb : ∀ (A : Around) (out : List Env) (s : Shared) (H : Hp) (vs : List V) (Q : VK) (E : XK),
      Free (A.deeper (envOfC ql sc s.heap.objs.size f cv)) → Room n (A.deeper (envOfC ql sc s.heap.objs.size f cv)) →
      sp vs H Q E → ∃ t, PSs (cxOf cx P w K mg base N ql sc f cv A out s H E) bd t ∧
        t { nx := fun _ H' => Q .non H', rt := Q } (start N vs) H) :
    FnG P w K mg base cx (n + 1) f (PySem.W.fnOf nm ql pr bd sc dV kV dc pm an cv ct) ps sp := by
  refine ⟨len, ?_⟩
  intro A out s H args us vs Q E g hr e0 hbd r hsp
  have hl := len _ _ _ _ hsp
  have KX : K.In s.heap := e0.mod.kin.keeps fun b o e => (e0.bs b o e).1
  have lim : s.heap.NoLimit := e0.mod.nolimit.keeps fun b o e => (e0.bs b o e).1
  have kinds : ∀ y ∈ ps.zip us, sc.names.lookup y.1 = some .local ∨
      (sc.names.lookup y.1 = some .cell ∧
        ((cellsFrom (s.heap.objs.size + 1) sc.names []).lookup y.1).isSome = true) := by
    rintro ⟨y, v⟩ hy
    rcases S.par y (List.of_mem_zip hy).1 with q | q
    · left; exact q
    · right; exact ⟨q, PySem.W.cellsFrom_some _ _ _ (.inl q)⟩
  have code := PySem.W.codeRec_of KX hc
  refine codeAny_call_function hr.depth (KX _ _ lk) rfl S.co S.gen rfl code (hbd _ _ _ _ ?_)
  refine wpAny_newFunctionEnv_cells S.kind kinds ?_
  intro env he s1 x
  subst he
  refine ⟨lim.keeps x.toInCall.keep, codeAny_func ?_⟩
  obtain ⟨t, ht, hq⟩ := hb A out s H vs Q E g (hr.deeper _) hsp
  have I := inv_start (CX := cx) (P := P) (w := w) (E := E) S hr.hd e0 hl r x
  refine wpAny_mono (ht.run [] s1 (start N vs) H _ I hq) ?_ fun er s' z => z
  intro fl s' z
  cases fl with
  | ret u =>
    obtain ⟨v, σ', H', J, rv, q⟩ := z
    exact ⟨v, H', J.os, J.bare, J.base, J.hok, rv, q⟩
  | next =>
    obtain ⟨σ', H', J, q⟩ := z
    exact ⟨V.non, H', J.os, J.bare, J.base, J.hok, rfl, q⟩
  | brk =>
    obtain ⟨_, _, _, q⟩ := z
    exact q.elim
  | cont =>
    obtain ⟨_, _, _, q⟩ := z
    exact q.elim

theorem okG {x ql : Str} {st : Stmt} {f : Addr} {fd : FuncData} {N ps : List Str} {n : Nat} {sp : Sp}
    (F : Fun K x ql st f fd) (S : FnScope N ps (defScope st)) (len : ∀ vs H Q E, sp vs H Q E → vs.length = ps.length)
    (hb : ∀ (cv : Value) (A : Around) (out : List Env) (s : Shared) (H : Hp) (vs : List V) (Q : VK) (E : XK),
      Free (A.deeper (envOfC ql (defScope st) s.heap.objs.size f cv)) →
      Room n (A.deeper (envOfC ql (defScope st) s.heap.objs.size f cv)) → sp vs H Q E →
      ∃ t, PSs (cxOf CX0 P w K mg base N ql (defScope st) f cv A out s H E).nox (defBody st) t ∧
        t { nx := fun _ H' => Q .non H', rt := Q } (start N vs) H) :
    FnG P w K mg base CX0 (n + 1) f fd ps sp := by
  obtain ⟨oc, od, kV, dc, pm, an, cv, ct, sl, rfl, lk, hc⟩ := F.ex
  refine FnG.body lk hc S len ?_
  intro A out s H vs Q E g hr hsp
  obtain ⟨t, h, q⟩ := hb cv A out s H vs Q E g hr hsp
  exact ⟨t, h.nox, q⟩
end
end Gd
end

section
set_option Elab.async false
set_option linter.all false
set_option maxRecDepth 100000
set_option maxHeartbeats 4000000
/-! The end of a law's row from a promise of Gd.FnG. -/
namespace Gd
open PySem PySem.Spec PyProof.Rows L2

/-- what is wanted of the law's own call -/
def Yes (s1 : Shared) (r : Result) (s' : Shared) : Prop :=
  r = .ok (.ret (.bool true)) ∧ OldK s1.heap s'.heap ∧ s'.os = s1.os ∧ AllBare s'.gens

section
variable {P : Program} {w : World} {K : PySem.W.Frag} {mg mb : Str → Option Value} {cx : CXT} {n : Nat}
  {fa a : Addr} {fd : FuncData} {x : Str} {sp : Sp} {s1 : Shared} {vs : List Value} {ns : List Int}

theorem begun (H : Hp) (only : Only H) (hS : SqL K H a (ns.map V.int)) (hok : HOk P w H s1.heap)
    (at_a : ∀ b, H b ≠ none → b = a) (noK : H a ≠ none → K.lookup a = none)
    (KX : K.In s1.heap) (hns : s1.heap.Ns mainGlobals mg) (hb : s1.heap.Ns builtinsNs mb)
    (hbb : ∀ y : Str, y ≠ "__name__" → mb y = bootBuiltins y) (hlim : s1.heap.NoLimit) (hg : s1.gens = #[])
    (ha : s1.heap.get? a = some { cls := .type "list", data := .seq vs.toArray }) (hr : Room n callerA)
    (F : ∀ base : Heap, K.In base → base.Ns mainGlobals mg → FnG P w K mg base cx n fa fd [x] sp)
    (hbind : ∀ (s : Shared) (u : Value), BindsTo s fd ⟨[u], []⟩ [(x, u)])
    (hsp : sp [.ref a] H (fun v _ => v = .bl true) fun _ _ _ => False)
    (hCX : ∀ e s', cx [] H s1 (fun _ _ _ => False) e s' → False) :
    codeAny (model P w) callerA (.call (.ref fa) ⟨[.ref a], []⟩) (Yes s1) s1 := by
  -- the base: what isn't tracked
  let B := hidT s1.heap H
  have toB : ∀ {b : Addr} {o : Obj}, s1.heap.get? b = some o → H b = none → B.get? b = some o :=
    fun e z => hidT_get e z
  have notDict : ∀ {b : Addr} {o : Obj} {es : Array DictEntry} {m : Nat},
      s1.heap.get? b = some o → o.data = .dict es m → H b = none := by
    intro b o es m e d
    cases q : H b with
    | none => rfl
    | some u =>
      exfalso
      have eb : b = a := at_a b (by simp [q])
      rw [eb, ha] at e
      cases Option.some.inj e
      cases d
  have nsB : ∀ {b : Addr} {m : Str → Option Value}, s1.heap.Ns b m → B.Ns b m := by
    rintro b m ⟨o, es, ep, e, d, r⟩
    exact ⟨o, es, ep, toB e (notDict e d), d, r⟩
  have inB : K.In B := by
    intro b o e
    refine toB (KX b o e) ?_
    cases q : H b with
    | none => rfl
    | some u =>
      have eb : b = a := at_a b (by simp [q])
      have z := noK (by rw [← eb, q]; simp)
      rw [eb, z] at e
      cases e
  have modB : Mod K mg B := by
    obtain ⟨mc, l1, l2⟩ := hlim
    exact ⟨inB, nsB hns, ⟨mb, nsB hb, hbb⟩, ⟨mc, nsB l1, l2⟩⟩
  have nil : ∀ {b : Addr}, b ∉ ([] : List Addr) := fun z => nomatch z
  have e0 : Env0 P w K mg B callerA [] s1 H :=
    ⟨rfl, modB, fun b o e => of_hidT e, Nat.le_of_eq (hidT_size _ _), trivial, fun b z => (nil z).elim, hok, .of_eq hg⟩
  have got := (F B inB (nsB hns)).run callerA [] s1 H ⟨[.ref a], []⟩ [.ref a] [.ref a] _ _ rfl hr e0
    (hbind s1 (.ref a)) (.cons rfl .nil) hsp
  refine codeAny_mono got ?_
  intro r s' z
  cases r with
  | error er => exact (hCX er s' z).elim
  | ok fl =>
    cases fl with
    | ret u =>
      obtain ⟨v, H', os, bare, un, hok', rv, q⟩ := z
      obtain rfl : v = .bl true := q
      obtain rfl : u = Value.bool true := rv
      refine ⟨rfl, OldK.of_keep ?_, os, bare⟩
      intro b o e
      cases q : H b with
      | none => exact un.keep b o e q (fun z => (nil z).elim) (fun z => (nil z).elim)
      | some u =>
        rcases only b with z | ⟨ob, xs, z⟩
        · exact nomatch q.symm.trans z
        · obtain ⟨g1, _⟩ := hok b _ z
          obtain ⟨g2, _⟩ := hok' b _ (un.frzs b ob _ z)
          exact g2.trans (g1.symm.trans e)
    | _ => exact False.elim z

theorem law_callG (KX : K.In s1.heap) (hns : s1.heap.Ns mainGlobals mg) (hb : s1.heap.Ns builtinsNs mb)
    (hbb : ∀ y : Str, y ≠ "__name__" → mb y = bootBuiltins y) (hlim : s1.heap.NoLimit) (hg : s1.gens = #[])
    (ha : s1.heap.get? a = some { cls := .type "list", data := .seq vs.toArray }) (hi : IntsAre vs ns)
    (hl : ns.length ≤ sizeLine) (hr : Room n callerA)
    (F : ∀ base : Heap, K.In base → base.Ns mainGlobals mg → FnG P w K mg base cx n fa fd [x] sp)
    (hbind : ∀ (s : Shared) (u : Value), BindsTo s fd ⟨[u], []⟩ [(x, u)])
    (hsp : ∀ H : Hp, Only H → SqL K H a (ns.map V.int) → sp [.ref a] H (fun v _ => v = .bl true) fun _ _ _ => False)
    (hCX : ∀ H e s', cx [] H s1 (fun _ _ _ => False) e s' → False) :
    codeAny (model P w) callerA (.call (.ref fa) ⟨[.ref a], []⟩) (Yes s1) s1 := by
  have rv := vals_ints hi
  have hz : vs.toArray.size ≤ sizeLine := by
    rw [List.size_toArray, hi.length]
    exact hl
  cases hk : K.lookup a with
  | some o =>
    have e : some o = some _ := (KX a o hk).symm.trans ha
    cases e
    have here : SqL K (fun _ => none) a (ns.map V.int) := .inr ⟨_, vs.toArray, _, hk, rfl, rfl, rfl, hz, by simpa using rv⟩
    have only : Only (fun _ => none) := fun _ => .inl rfl
    exact begun (fun _ => none) only here (fun b u z => nomatch z) (fun b z => absurd rfl z) (fun z => absurd rfl z)
      KX hns hb hbb hlim hg ha hr F hbind (hsp _ only here) (hCX _)
  | none =>
    let H : Hp := fun b => if b = a then some (.frz { cls := .type "list", data := .seq vs.toArray } (.lst (ns.map V.int))) else none
    have Ha : H a = some (.frz { cls := .type "list", data := .seq vs.toArray } (.lst (ns.map V.int))) := if_pos rfl
    have Hn : ∀ {b : Addr}, b ≠ a → H b = none := fun z => if_neg z
    have only : Only H := by
      intro b
      by_cases eb : b = a
      · right
        subst eb
        exact ⟨_, _, Ha⟩
      · left
        exact Hn eb
    have here : SqL K H a (ns.map V.int) := .inl (.inr ⟨_, Ha⟩)
    refine begun H only here ?_ ?_ (fun _ => hk) KX hns hb hbb hlim hg ha hr F hbind (hsp _ only here) (hCX _)
    · intro b u z
      by_cases eb : b = a
      · subst eb
        rw [Ha] at z
        cases z
        exact ⟨ha, by rw [List.length_map]; exact hl, vs, _, rv, ha⟩
      · rw [Hn eb] at z
        cases z
    · intro b z
      by_cases eb : b = a
      · exact eb
      · exact absurd (Hn eb) z
end

theorem walkG {l : PySem.W.OpenLaw} {m n : Nat} {q : Program} {loose : List Str} {XP : (Str → Option Value) → Heap → Prop}
    {YP : World → Heap → Prop} {d : DefRec} {K : Params → PySem.W.Frag} {sp : PySem.W.Frag → Sp} {x : Str}
    (hn : l.most = some m) (hm : m ≤ sizeLine) (hdf : d.params.defaults = []) (hr : Room n callerA)
    (hY : ∀ (w : World) (h : Heap), YP w h → (K w.params).In h)
    (F : ∀ (w : World) (mg : Str → Option Value) (fa : Addr) (h : Heap), (K w.params).In h → h.Ns mainGlobals mg →
      mg d.name = some (.ref fa) → ∃ fd : FuncData, (∀ (s : Shared) (u : Value), BindsTo s fd ⟨[u], []⟩ [(x, u)]) ∧
        ∀ base : Heap, (K w.params).In base → base.Ns mainGlobals mg →
          FnG l.prog w (K w.params) mg base CX0 n fa fd [x] (sp (K w.params)))
    (hsp : ∀ (K : PySem.W.Frag) (H : Hp) (a : Addr) (ns : List Int), ns.length ≤ m →
      (∀ z ∈ ns, Builtin.Int.intBits z ≤ 1048576) → Only H → SqL K H a (ns.map V.int) →
      sp K [.ref a] H (fun v _ => v = .bl true) fun _ _ _ => False) :
    PySem.W.WalkO q loose XP YP l.row.toRowW d [] (fun f vs => PySem.call f vs) := by
  refine Att.attach_callB hn hdf ?_
  intro w s0 s1 mg mb fa o pm cd dc a vs ns G Y ho hd hcd hmg hobj hints hlen hbits hg
  have KX := hY w _ Y
  obtain ⟨fd, hb, hF⟩ := F w mg fa _ KX G.T.g hmg
  exact law_callG KX G.T.g G.T.b G.T.builtins G.T.nolimit hg hobj hints (Nat.le_trans hlen hm) hr hF hb
    (fun H only hS => hsp _ H a ns hlen hbits only hS) fun H e s' z => z.elim
end Gd
end

section
set_option Elab.async false
set_option linter.all false
set_option maxRecDepth 100000
set_option maxHeartbeats 4000000
/-! What the laws draw from: a list of three numbers, of which each draw takes one more. -/
namespace Gd
open PySem PySem.Spec PyProof.Rows L2

/-- at p: what is left of a great number, the seed, how many were drawn, at most S -/
def Feed (H : Hp) (p : Addr) (S : Int) : Prop := ∃ g x s : Int, H p = some (.lst [.int g, .int x, .int s]) ∧ 0 ≤ s ∧ s ≤ S
theorem Feed.le {H : Hp} {p : Addr} {S T : Int} (h : Feed H p S) (l : S ≤ T) : Feed H p T := by
  obtain ⟨g, x, s, e, a, b⟩ := h
  exact ⟨g, x, s, e, a, by omega⟩
theorem Feed.here {H : Hp} {p : Addr} {S g x s : Int} (h0 : 0 ≤ s) (h : s ≤ S) : Feed (upd H p (.lst [.int g, .int x, .int s])) p S :=
  ⟨g, x, s, upd_same, h0, h⟩
theorem Feed.stays {H : Hp} {p q : Addr} {S : Int} {o : HO} (h : Feed H p S) (n : H q = none) : Feed (upd H q o) p S := by
  obtain ⟨g, x, s, e, a, b⟩ := h
  refine ⟨g, x, s, ?_, a, b⟩
  rw [upd_ne (ne_of_none e n)]
  exact e
/-- all is as it was, but at p -/
def Ex1 (p : Addr) (H H' : Hp) : Prop := ∀ a o, a ≠ p → H a = some o → H' a = some o
theorem Ex1.refl (p : Addr) (H : Hp) : Ex1 p H H := fun _ _ _ h => h
theorem Ex1.trans {p : Addr} {H H1 H2 : Hp} (a : Ex1 p H H1) (b : Ex1 p H1 H2) : Ex1 p H H2 := fun x o n h => b x o n (a x o n h)
theorem Ex1.at {p : Addr} {H : Hp} {o : HO} : Ex1 p H (upd H p o) := fun a u n e => by
  rw [upd_ne n]
  exact e
theorem Ex1.new {p q : Addr} {H : Hp} {o : HO} (n : H q = none) : Ex1 p H (upd H q o) := fun a u _ e => by
  rw [upd_ne (ne_of_none e n)]
  exact e

theorem Feed.lst {H : Hp} {p : Addr} {S : Int} (h : Feed H p S) : ∃ xs, H p = some (.lst xs) := by
  obtain ⟨g, x, s, e, _⟩ := h
  exact ⟨_, e⟩
theorem Feed.ne {H : Hp} {p q : Addr} {S : Int} (h : Feed H p S) (n : H q = none) : q ≠ p := fun z => by
  obtain ⟨xs, e⟩ := h.lst
  rw [z, e] at n
  cases n
def spTake : Sp := fun vs H Q _ => ∃ (p : Addr) (m S : Int), vs = [.ref p, .int m] ∧ Feed H p S ∧ 0 < m ∧ m < 1073741824 ∧
  S ≤ 1000000000 ∧ ∀ (r : Int) (H' : Hp), 0 ≤ r → r < m → Feed H' p (S + 1) → Ex1 p H H' → Q (.int r) H'

theorem fmod_in (a : Int) {b : Int} (h : 0 < b) : 0 ≤ a.fmod b ∧ a.fmod b < b :=
  ⟨Int.fmod_nonneg_of_pos a h, Int.fmod_lt_of_pos a h⟩
end Gd
end

section
set_option Elab.async false
set_option linter.all false
set_option maxRecDepth 100000
set_option maxHeartbeats 4000000
/-! Data: numbers, texts, truths, None, tuples of such. -/
namespace Gd
open PySem PySem.Spec PyProof.Rows L2

mutual
def tupOnly : PyData → Bool
  | .none => true
  | .bool _ => true
  | .int _ => true
  | .str _ => true
  | .tuple ds => decide (ds.length ≤ 1000) && tupOnlyAll ds
  | .list _ => false
  | .dict _ => false
def tupOnlyAll : List PyData → Bool
  | [] => true
  | d :: ds => tupOnly d && tupOnlyAll ds
end

/-- tuples stay -/
def Tups (K : PySem.W.Frag) (H H' : Hp) : Prop := ∀ a xs, SqT K H a xs → SqT K H' a xs
theorem Tups.refl {K : PySem.W.Frag} {H : Hp} : Tups K H H := fun _ _ h => h
theorem Tups.trans {K : PySem.W.Frag} {H H1 H2 : Hp} (a : Tups K H H1) (b : Tups K H1 H2) : Tups K H H2 := fun x y h => b x y (a x y h)
theorem Tups.upd_lst {K : PySem.W.Frag} {H : Hp} {D : Addr} {xs ys : List V} (e : H D = some (.lst xs)) : Tups K H (upd H D (.lst ys)) := by
  intro a zs h
  rcases h with (h | ⟨o, h⟩) | h
  · refine .inl (.inl ?_)
    rw [upd_ne (fun z => by rw [z, e] at h; cases h)]
    exact h
  · refine .inl (.inr ⟨o, ?_⟩)
    rw [upd_ne (fun z => by rw [z, e] at h; cases h)]
    exact h
  · exact .inr h
theorem Tups.of_same {K : PySem.W.Frag} {H H' : Hp} (s : Same H H') : Tups K H H' := by
  intro a zs h
  rcases h with (h | ⟨o, h⟩) | h
  · exact .inl (.inl (s _ _ h))
  · exact .inl (.inr ⟨o, s _ _ h⟩)
  · exact .inr h

theorem Tups.new {K : PySem.W.Frag} {H : Hp} {q : Addr} {o : HO} (n : H q = none) : Tups K H (upd H q o) :=
  .of_same fun b u e => by
    rw [upd_ne (ne_of_none e n)]
    exact e
theorem Ex1.tups {K : PySem.W.Frag} {H H' : Hp} {p : Addr} {xs : List V} (x : Ex1 p H H') (e : H p = some (.lst xs)) : Tups K H H' := by
  intro a zs h
  rcases h with (h | ⟨o, h⟩) | h
  · exact .inl (.inl (x _ _ (fun z => by rw [z, e] at h; cases h) h))
  · exact .inl (.inr ⟨o, x _ _ (fun z => by rw [z, e] at h; cases h) h⟩)
  · exact .inr h
section
variable {K : PySem.W.Frag} {H H' : Hp}
mutual
theorem Dp.tups (t : Tups K H H') : ∀ (d : PyData) {v : V}, tupOnly d = true → Dp K H v d → Dp K H' v d
  | .none, _, _, h => by cases h; exact .non
  | .bool _, _, _, h => by cases h; exact .bl _
  | .int _, _, _, h => by cases h; exact .int _
  | .str _, _, _, h => by cases h; exact .str _
  | .tuple ds, _, o, h => by
    cases h with
    | tup a b =>
      simp only [tupOnly, Bool.and_eq_true] at o
      exact .tup (t _ _ a) (DpAll.tups t ds o.2 b)
  | .list _, _, o, _ => by simp [tupOnly] at o
  | .dict _, _, _, h => by cases h
theorem DpAll.tups (t : Tups K H H') : ∀ (ds : List PyData) {vs : List V}, tupOnlyAll ds = true → DpAll K H vs ds → DpAll K H' vs ds
  | [], _, _, h => by cases h; exact .nil
  | d :: ds, _, o, h => by
    simp only [tupOnlyAll, Bool.and_eq_true] at o
    cases h with
    | cons a b => exact .cons (Dp.tups t d o.1 a) (DpAll.tups t ds o.2 b)
end
mutual
theorem Dp.same (s : Same H H') : ∀ (d : PyData) {v : V}, Dp K H v d → Dp K H' v d
  | .none, _, h => by cases h; exact .non
  | .bool _, _, h => by cases h; exact .bl _
  | .int _, _, h => by cases h; exact .int _
  | .str _, _, h => by cases h; exact .str _
  | .tuple ds, _, h => by
    cases h with
    | tup a b => exact .tup (Tups.of_same s _ _ a) (DpAll.same s ds b)
  | .list ds, _, h => by
    cases h with
    | lst a b => exact .lst (s.seq a) (DpAll.same s ds b)
  | .dict _, _, h => by cases h
theorem DpAll.same (s : Same H H') : ∀ (ds : List PyData) {vs : List V}, DpAll K H vs ds → DpAll K H' vs ds
  | [], _, h => by cases h; exact .nil
  | d :: ds, _, h => by
    cases h with
    | cons a b => exact .cons (Dp.same s d a) (DpAll.same s ds b)
end
theorem DpAll.len : ∀ {vs : List V} {ds : List PyData}, DpAll K H vs ds → vs.length = ds.length
  | _, _, .nil => rfl
  | _, _, .cons _ b => congrArg (· + 1) (DpAll.len b)
theorem DpAll.at_ : ∀ {vs : List V} {ds : List PyData} {i : Nat} {v : V}, DpAll K H vs ds → vs[i]? = some v → ∃ d, ds[i]? = some d ∧ Dp K H v d
  | _, _, _, _, .nil, e => by simp at e
  | _, _, 0, _, .cons a _, e => by
    cases Option.some.inj e
    exact ⟨_, rfl, a⟩
  | _, _, i + 1, _, .cons _ b, e => DpAll.at_ (i := i) b e
theorem DpAll.snoc : ∀ {vs : List V} {ds : List PyData} {v : V} {d : PyData}, DpAll K H vs ds → Dp K H v d → DpAll K H (vs ++ [v]) (ds ++ [d])
  | _, _, _, _, .nil, h => .cons h .nil
  | _, _, _, _, .cons a b, h => .cons a (DpAll.snoc b h)
theorem tupOnlyAll_at : ∀ {ds : List PyData} {i : Nat} {d : PyData}, tupOnlyAll ds = true → ds[i]? = some d → tupOnly d = true
  | [], _, _, _, e => by simp at e
  | x :: r, 0, d, o, e => by
    simp only [tupOnlyAll, Bool.and_eq_true] at o
    cases Option.some.inj e
    exact o.1
  | x :: r, i + 1, d, o, e => by
    simp only [tupOnlyAll, Bool.and_eq_true] at o
    exact tupOnlyAll_at (i := i) o.2 e
theorem tupOnlyAll_take : ∀ {ds : List PyData}, tupOnlyAll ds = true → ∀ i : Nat, tupOnlyAll (ds.take i) = true
  | [], _, i => by rw [List.take_nil] <;> rfl
  | x :: r, o, 0 => rfl
  | x :: r, o, i + 1 => by
    simp only [tupOnlyAll, Bool.and_eq_true] at o
    simp only [List.take_succ_cons, tupOnlyAll, Bool.and_eq_true]
    exact ⟨o.1, tupOnlyAll_take o.2 i⟩
theorem depth_at : ∀ {ds : List PyData} {i : Nat} {d : PyData}, ds[i]? = some d → d.depth ≤ PyData.depthAll ds
  | [], _, _, e => by simp at e
  | x :: r, 0, d, e => by
    cases Option.some.inj e
    simp only [PyData.depthAll]
    omega
  | x :: r, i + 1, d, e => by
    have h := depth_at (ds := r) (i := i) e
    simp only [PyData.depthAll]
    omega
end

/-- the built-in class of data -/
def kindN : PyData → String
  | .none => "NoneType"
  | .bool _ => "bool"
  | .int _ => "int"
  | .str _ => "str"
  | .list _ => "list"
  | .tuple _ => "tuple"
  | .dict _ => "dict"
theorem Dp.kind {K : PySem.W.Frag} {H : Hp} {v : V} {d : PyData} (h : Dp K H v d) (o : tupOnly d = true) : TyX K H v (.type (kindN d)) := by
  cases h with
  | non => exact .base .non
  | bl b => exact .base (.bl b)
  | int i => exact .base (.int i)
  | str x => exact .base (.str x)
  | lst _ _ => simp [tupOnly] at o
  | tup a _ =>
    rcases a with (a | ⟨z, a⟩) | ⟨z, its, n, a, c, _⟩
    · exact .base (.tup a)
    · exact .fTuple a
    · exact .kTuple a c
section
theorem kb0 : kitB "NoneType" "list" = some false ∧ kitB "NoneType" "tuple" = some false ∧ kitB "NoneType" "dict" = some false := by decide +kernel
theorem kb1 : kitB "bool" "list" = some false ∧ kitB "bool" "tuple" = some false ∧ kitB "bool" "dict" = some false := by decide +kernel
theorem kb2 : kitB "int" "list" = some false ∧ kitB "int" "tuple" = some false ∧ kitB "int" "dict" = some false := by decide +kernel
theorem kb3 : kitB "str" "list" = some false ∧ kitB "str" "tuple" = some false ∧ kitB "str" "dict" = some false := by decide +kernel
theorem kb4 : kitB "tuple" "list" = some false ∧ kitB "tuple" "tuple" = some true ∧ kitB "tuple" "dict" = some false := by decide +kernel
theorem kind_list {d : PyData} (o : tupOnly d = true) : kitB (kindN d) "list" = some false := by
  cases d with
  | none => exact kb0.1
  | bool b => exact kb1.1
  | int i => exact kb2.1
  | str x => exact kb3.1
  | tuple ds => exact kb4.1
  | list ds => simp [tupOnly] at o
  | dict ds => simp [tupOnly] at o
theorem kind_dict {d : PyData} (o : tupOnly d = true) : kitB (kindN d) "dict" = some false := by
  cases d with
  | none => exact kb0.2.2
  | bool b => exact kb1.2.2
  | int i => exact kb2.2.2
  | str x => exact kb3.2.2
  | tuple ds => exact kb4.2.2
  | list ds => simp [tupOnly] at o
  | dict ds => simp [tupOnly] at o
theorem kind_tuple {d : PyData} (o : tupOnly d = true) (n : ¬ ∃ ds, d = .tuple ds) : kitB (kindN d) "tuple" = some false := by
  cases d with
  | none => exact kb0.2.1
  | bool b => exact kb1.2.1
  | int i => exact kb2.2.1
  | str x => exact kb3.2.1
  | tuple ds => exact absurd ⟨ds, rfl⟩ n
  | list ds => simp [tupOnly] at o
  | dict ds => simp [tupOnly] at o
end
end Gd
end

section
set_option Elab.async false
set_option linter.all false
set_option maxRecDepth 100000
set_option maxHeartbeats 4000000
/-! repr of data, the reading of a promise that is free of texts under way. -/
namespace Gd
open PySem PySem.Spec PyProof.Rows L2

section
variable {K : PySem.W.Frag} {H : Hp}
mutual
theorem Dp.plain : ∀ (d : PyData) {v : V}, Dp K H v d → d.hasDict = false
  | .none, _, _ => by simp only [PyData.hasDict]
  | .bool _, _, _ => by simp only [PyData.hasDict]
  | .int _, _, _ => by simp only [PyData.hasDict]
  | .str _, _, _ => by simp only [PyData.hasDict]
  | .list ds, _, h => by
    cases h with
    | lst _ k =>
      simp only [PyData.hasDict]
      exact DpAll.plain ds k
  | .tuple ds, _, h => by
    cases h with
    | tup _ k =>
      simp only [PyData.hasDict]
      exact DpAll.plain ds k
  | .dict _, _, h => by cases h
theorem DpAll.plain : ∀ (ds : List PyData) {vs : List V}, DpAll K H vs ds → PyData.hasDictAll ds = false
  | [], _, _ => by simp only [PyData.hasDictAll]
  | d :: ds, _, h => by
    cases h with
    | cons a b =>
      simp only [PyData.hasDictAll, Dp.plain d a, DpAll.plain ds b, Bool.or_self]
end
end

/-- repr(x), x data -/
def rRepr (K : PySem.W.Frag) : List V → Hp → VK → Prop := fun xs H Q =>
  ∃ (x : V) (d : PyData), xs = [x] ∧ Dp K H x d ∧ d.showable = true ∧ d.shown.length ≤ sizeLine ∧ d.depth ≤ 60 ∧ Q (.str d.shown) H

section
variable {X : Cx}
theorem call_repr (g : Free X.A) (hu : X.A.units + 64 < cLine) : CallR X (.builtin "repr") (rRepr X.K) := by
  intro pins s σ H xs us Q I r h
  obtain ⟨x, d, rfl, hd, hs, hz, hdp, q⟩ := h
  obtain ⟨u, rfl, ru⟩ := r.one
  have pl := Dp.plain d hd
  obtain ⟨as, rd⟩ := Dp.reads I d x u hd ru
  have fin : ∀ (h' : Heap) (tk tk' : Nat), (∀ b o, s.heap.get? b = some o → h'.get? b = some o) →
      EP X pins σ Q (.str d.shown tk) { s with heap := h', toks := tk' } :=
    fun h' tk tk' k => ⟨.str d.shown, H, I.kept k, ⟨tk, rfl⟩, q⟩
  have fin0 : ∀ (tk tk' : Nat), EP X pins σ Q (.str d.shown tk) { s with toks := tk' } :=
    fun tk tk' => ⟨.str d.shown, H, I.tok tk', ⟨tk, rfl⟩, q⟩
  cases rd with
  | none => exact P.repr_of_none (fin0 _ _)
  | bool b => exact P.repr_of_bool (fin0 _ _)
  | int i t => exact P.repr_of_int (by simpa [PyData.showable] using hs) (fin0 _ _)
  | str z t => exact P.repr_of_str (fin0 _ _) hz
  | list h1 h2 h3 h4 =>
    exact repr_of_reads' (.list h1 h2 h3 h4) hs (PyData.noDict_hsm pl) g (by omega) (fun _ _ e => e) (fun h' u tk k => fin h' u tk k) hz
  | tuple h1 h2 h3 h4 =>
    exact repr_of_reads' (.tuple h1 h2 h3 h4) hs (PyData.noDict_hsm pl) g (by omega) (fun _ _ e => e) (fun h' u tk k => fin h' u tk k) hz
  | dict h1 h2 h3 h4 h5 => simp [PyData.hasDict] at pl
end
end Gd
end

section
set_option Elab.async false
set_option linter.all false
set_option maxRecDepth 100000
set_option maxHeartbeats 4000000
/-! Data with lists, and with two small dicts; what is not in it: the addresses of N. -/
namespace Gd
open PySem PySem.Spec PyProof.Rows L2

mutual
inductive Dd (K : PySem.W.Frag) (H : Hp) (N : Addr → Prop) : V → PyData → Prop
  | non : Dd K H N .non .none
  | bl (b : Bool) : Dd K H N (.bl b) (.bool b)
  | int (i : Int) : Dd K H N (.int i) (.int i)
  | str (x : Str) : Dd K H N (.str x) (.str x)
  | lst {a : Addr} {xs : List V} {ds : List PyData} : H a = some (.lst xs) → ¬ N a → a ≠ sysModules → DdAll K H N xs ds → Dd K H N (.ref a) (.list ds)
  | tup {a : Addr} {xs : List V} {ds : List PyData} : SqT K H a xs → DdAll K H N xs ds → Dd K H N (.ref a) (.tuple ds)
  | dct0 {a : Addr} : H a = some (.dK []) → ¬ N a → Dd K H N (.ref a) (.dict [])
  | dct1 {a : Addr} {x : Str} {i : Int} : H a = some (.dK [(Sum.inr x, .int i)]) → ¬ N a → Dd K H N (.ref a) (.dict [(.str x, .int i)])
inductive DdAll (K : PySem.W.Frag) (H : Hp) (N : Addr → Prop) : List V → List PyData → Prop
  | nil : DdAll K H N [] []
  | cons {v : V} {vs : List V} {d : PyData} {ds : List PyData} : Dd K H N v d → DdAll K H N vs ds → DdAll K H N (v :: vs) (d :: ds)
end

section
variable {K : PySem.W.Frag} {H H' : Hp} {N N' : Addr → Prop}
mutual
theorem Dd.stay (t : Tups K H H') (x : ∀ a o, ¬ N a → H a = some o → H' a = some o) (m : ∀ a, N' a → N a) : ∀ (d : PyData) {v : V}, Dd K H N v d → Dd K H' N' v d
  | .none, _, h => by cases h; exact .non
  | .bool _, _, h => by cases h; exact .bl _
  | .int _, _, h => by cases h; exact .int _
  | .str _, _, h => by cases h; exact .str _
  | .tuple ds, _, h => by
    cases h with
    | tup a b => exact .tup (t _ _ a) (DdAll.stay t x m ds b)
  | .list ds, _, h => by
    cases h with
    | lst a n g b => exact .lst (x _ _ n a) (fun z => n (m _ z)) g (DdAll.stay t x m ds b)
  | .dict ds, _, h => by
    cases h with
    | dct0 a n => exact .dct0 (x _ _ n a) (fun z => n (m _ z))
    | dct1 a n => exact .dct1 (x _ _ n a) (fun z => n (m _ z))
theorem DdAll.stay (t : Tups K H H') (x : ∀ a o, ¬ N a → H a = some o → H' a = some o) (m : ∀ a, N' a → N a) : ∀ (ds : List PyData) {vs : List V}, DdAll K H N vs ds → DdAll K H' N' vs ds
  | [], _, h => by cases h; exact .nil
  | d :: ds, _, h => by
    cases h with
    | cons a b => exact .cons (Dd.stay t x m d a) (DdAll.stay t x m ds b)
end
theorem Dd.same {v : V} {d : PyData} (s : Same H H') (h : Dd K H N v d) : Dd K H' N v d := Dd.stay (Tups.of_same s) (fun a o _ e => s a o e) (fun _ z => z) d h
theorem DdAll.same {vs : List V} {ds : List PyData} (s : Same H H') (h : DdAll K H N vs ds) : DdAll K H' N vs ds := DdAll.stay (Tups.of_same s) (fun a o _ e => s a o e) (fun _ z => z) ds h
theorem Dd.free {v : V} {d : PyData} (h : Dd K H N v d) : Dd K H (fun _ => False) v d := Dd.stay .refl (fun a o _ e => e) (fun _ z => z.elim) d h
theorem DdAll.free {vs : List V} {ds : List PyData} (h : DdAll K H N vs ds) : DdAll K H (fun _ => False) vs ds := DdAll.stay .refl (fun a o _ e => e) (fun _ z => z.elim) ds h
/-- behind a draw -/
theorem Dd.drawn {p : Addr} {ys : List V} {v : V} {d : PyData} (e : H p = some (.lst ys)) (x : Ex1 p H H') (h : Dd K H (· = p) v d) : Dd K H' (· = p) v d :=
  Dd.stay (x.tups e) (fun a o n q => x a o n q) (fun _ z => z) d h
theorem DdAll.drawn {p : Addr} {ys : List V} {vs : List V} {ds : List PyData} (e : H p = some (.lst ys)) (x : Ex1 p H H') (h : DdAll K H (· = p) vs ds) : DdAll K H' (· = p) vs ds :=
  DdAll.stay (x.tups e) (fun a o n q => x a o n q) (fun _ z => z) ds h
mutual
/-- what is new is not in it -/
theorem Dd.shun {q : Addr} (n : H q = none) : ∀ (d : PyData) {v : V}, Dd K H N v d → Dd K H (fun a => N a ∨ a = q) v d
  | .none, _, h => by cases h; exact .non
  | .bool _, _, h => by cases h; exact .bl _
  | .int _, _, h => by cases h; exact .int _
  | .str _, _, h => by cases h; exact .str _
  | .tuple ds, _, h => by
    cases h with
    | tup a b => exact .tup a (DdAll.shun n ds b)
  | .list ds, _, h => by
    cases h with
    | lst a m g b => exact .lst a (fun z => z.elim m (fun z => by rw [z, n] at a; cases a)) g (DdAll.shun n ds b)
  | .dict ds, _, h => by
    cases h with
    | dct0 a m => exact .dct0 a (fun z => z.elim m (fun z => by rw [z, n] at a; cases a))
    | dct1 a m => exact .dct1 a (fun z => z.elim m (fun z => by rw [z, n] at a; cases a))
theorem DdAll.shun {q : Addr} (n : H q = none) : ∀ (ds : List PyData) {vs : List V}, DdAll K H N vs ds → DdAll K H (fun a => N a ∨ a = q) vs ds
  | [], _, h => by cases h; exact .nil
  | d :: ds, _, h => by
    cases h with
    | cons a b => exact .cons (Dd.shun n d a) (DdAll.shun n ds b)
end
theorem DdAll.len : ∀ {vs : List V} {ds : List PyData}, DdAll K H N vs ds → vs.length = ds.length
  | _, _, .nil => rfl
  | _, _, .cons _ b => congrArg (· + 1) (DdAll.len b)
theorem DdAll.at_ : ∀ {vs : List V} {ds : List PyData} {i : Nat} {v : V}, DdAll K H N vs ds → vs[i]? = some v → ∃ d, ds[i]? = some d ∧ Dd K H N v d
  | _, _, _, _, .nil, e => by simp at e
  | _, _, 0, _, .cons a _, e => by
    cases Option.some.inj e
    exact ⟨_, rfl, a⟩
  | _, _, i + 1, _, .cons _ b, e => DdAll.at_ (i := i) b e
theorem DdAll.app : ∀ {vs us : List V} {ds es : List PyData}, DdAll K H N vs ds → DdAll K H N us es → DdAll K H N (vs ++ us) (ds ++ es)
  | _, _, _, _, .nil, h => h
  | _, _, _, _, .cons a b, h => .cons a (DdAll.app b h)
theorem DdAll.take : ∀ {vs : List V} {ds : List PyData}, DdAll K H N vs ds → ∀ i : Nat, DdAll K H N (vs.take i) (ds.take i)
  | _, _, .nil, i => by rw [List.take_nil, List.take_nil]; exact .nil
  | _, _, .cons _ _, 0 => .nil
  | _, _, .cons a b, i + 1 => .cons a (DdAll.take b i)
theorem DdAll.drop : ∀ {vs : List V} {ds : List PyData}, DdAll K H N vs ds → ∀ i : Nat, DdAll K H N (vs.drop i) (ds.drop i)
  | _, _, .nil, i => by rw [List.drop_nil, List.drop_nil]; exact .nil
  | _, _, .cons a b, 0 => .cons a b
  | _, _, .cons a b, i + 1 => DdAll.drop b i
theorem DdAll.rev : ∀ {vs : List V} {ds : List PyData}, DdAll K H N vs ds → DdAll K H N vs.reverse ds.reverse
  | _, _, .nil => .nil
  | _, _, .cons a b => by
    rw [List.reverse_cons, List.reverse_cons]
    exact DdAll.app (DdAll.rev b) (.cons a .nil)
mutual
theorem Dd.ofDp : ∀ (d : PyData) {v : V}, tupOnly d = true → Dp K H v d → Dd K H N v d
  | .none, _, _, h => by cases h; exact .non
  | .bool _, _, _, h => by cases h; exact .bl _
  | .int _, _, _, h => by cases h; exact .int _
  | .str _, _, _, h => by cases h; exact .str _
  | .tuple ds, _, o, h => by
    cases h with
    | tup a b =>
      simp only [tupOnly, Bool.and_eq_true] at o
      exact .tup a (DdAll.ofDp ds o.2 b)
  | .list _, _, o, _ => by simp [tupOnly] at o
  | .dict _, _, o, _ => by simp [tupOnly] at o
theorem DdAll.ofDp : ∀ (ds : List PyData) {vs : List V}, tupOnlyAll ds = true → DpAll K H vs ds → DdAll K H N vs ds
  | [], _, _, h => by cases h; exact .nil
  | d :: ds, _, o, h => by
    simp only [tupOnlyAll, Bool.and_eq_true] at o
    cases h with
    | cons a b => exact .cons (Dd.ofDp d o.1 a) (DdAll.ofDp ds o.2 b)
end
theorem Dd.kind {v : V} {d : PyData} (h : Dd K H N v d) : TyX K H v (.type (kindN d)) := by
  cases h with
  | non => exact .base .non
  | bl b => exact .base (.bl b)
  | int i => exact .base (.int i)
  | str x => exact .base (.str x)
  | lst e _ _ _ => exact .base (.lst e)
  | dct0 e _ => exact .base (.dK e)
  | dct1 e _ => exact .base (.dK e)
  | tup a _ =>
    rcases a with (a | ⟨z, a⟩) | ⟨z, its, n, a, c, _⟩
    · exact .base (.tup a)
    · exact .fTuple a
    · exact .kTuple a c
end
section
variable {X : Cx} {pins : List (Addr × Obj)} {σ : L2.St} {H : Hp} {s : Shared} {N : Addr → Prop}
theorem dk_reads (I : Inv X pins σ H s) {a : Addr} {kvs : List (Key × V)} (e : H a = some (.dK kvs)) :
    (a == sysModules) = false ∧ ∃ vs, KV kvs vs ∧ s.heap.DictOf (mixKind X.prog X.w) a vs := (I.hok a _ e).2
mutual
theorem Dd.reads (I : Inv X pins σ H s) : ∀ (d : PyData) (v : V) (u : Value), Dd X.K H N v d → RelV v u → ∃ as, Reads s.heap u d as ∧ sysModules ∉ as
  | .none, _, _, h, r => by
    cases h
    cases r
    exact ⟨[], .none, nofun⟩
  | .bool b, _, _, h, r => by
    cases h
    cases r
    exact ⟨[], .bool b, nofun⟩
  | .int i, _, _, h, r => by
    cases h
    obtain ⟨t, rfl⟩ := r
    exact ⟨[], .int i t, nofun⟩
  | .str x, _, _, h, r => by
    cases h
    obtain ⟨t, rfl⟩ := r
    exact ⟨[], .str x t, nofun⟩
  | .list ds, _, _, h, r => by
    cases h with
    | lst hs _ g ha =>
      cases r
      obtain ⟨its, rv, pl, _⟩ := I.list (SqL.of hs)
      obtain ⟨o, n, ho, hc, _, hd⟩ := pl
      obtain ⟨as, hr, hn⟩ := Dd.readsAll I ds _ its ha rv
      refine ⟨_, .list ho hc hd hr, fun m => ?_⟩
      rcases List.mem_cons.mp m with m | m
      · exact g m.symm
      · exact hn m
  | .tuple ds, _, _, h, r => by
    cases h with
    | tup hs ha =>
      cases r
      obtain ⟨its, rv, pl, _⟩ := I.tuple hs
      obtain ⟨o, ho, hc, n, hd⟩ := pl
      obtain ⟨as, hr, hn⟩ := Dd.readsAll I ds _ its ha rv
      exact ⟨as, .tuple ho hc hd hr, hn⟩
  | .dict ds, _, _, h, r => by
    cases h with
    | dct0 e _ =>
      cases r
      obtain ⟨g, vs, kv, o, es, ep, ho, ex, hd, ks, ps, _⟩ := dk_reads I e
      cases kv
      cases hes : es.toList with
      | nil =>
        refine ⟨_, .dict (as := []) (bs := []) ho ex.1 hd ?_ ?_, fun m => ?_⟩
        · rw [hes]; exact .nil
        · rw [hes]; exact .nil
        · rcases List.mem_cons.mp m with m | m
          · rw [← m] at g
            simp at g
          · cases m
      | cons z zs =>
        rw [hes] at ps
        cases ps
    | @dct1 a x i e _ =>
      cases r
      obtain ⟨g, vs, kv, o, es, ep, ho, ex, hd, ks, ps, _⟩ := dk_reads I e
      cases kv with
      | @cons _ q _ _ r0 rest =>
      cases rest
      obtain ⟨qk, qv⟩ := q
      obtain ⟨rk, t, rv⟩ := r0
      dsimp only at rk rv
      subst rk rv
      cases hes : es.toList with
      | nil =>
        rw [hes] at ps
        cases ps
      | cons z zs =>
        rw [hes] at ps
        cases ps with
        | cons p1 p2 p3 =>
        cases p3
        obtain ⟨tk, ek⟩ : ∃ tk, z.key = .str x tk := by
          have p1 : keyIs (Sum.inr x) z.key = true := p1
          rcases keyIs_shape p1 with ⟨i, t, h1, h2⟩ | ⟨y, t, h1, h2⟩
          · cases h1
          · cases h1
            exact ⟨t, h2⟩
        refine ⟨_, .dict (as := [] ++ []) (bs := [] ++ []) ho ex.1 hd ?_ ?_, fun m => ?_⟩
        · rw [hes]
          show ReadsAll s.heap [z.key] [.str x] _
          rw [ek]
          exact .cons (.str x tk) .nil
        · rw [hes]
          show ReadsAll s.heap [z.val] [.int i] _
          rw [p2]
          exact .cons (.int i t) .nil
        · rcases List.mem_cons.mp m with m | m
          · rw [← m] at g
            simp at g
          · cases m
theorem Dd.readsAll (I : Inv X pins σ H s) : ∀ (ds : List PyData) (vs : List V) (us : List Value), DdAll X.K H N vs ds → Vals vs us → ∃ as, ReadsAll s.heap us ds as ∧ sysModules ∉ as
  | [], _, _, h, r => by
    cases h
    cases r
    exact ⟨[], .nil, nofun⟩
  | d :: ds, _, _, h, r => by
    cases h with
    | cons h1 h2 =>
      cases r with
      | cons r1 r2 =>
        obtain ⟨as, q1, n1⟩ := Dd.reads I d _ _ h1 r1
        obtain ⟨bs, q2, n2⟩ := Dd.readsAll I ds _ _ h2 r2
        exact ⟨as ++ bs, .cons q1 q2, fun m => (List.mem_append.mp m).elim n1 n2⟩
end
/-- repr(x), x such data -/
def rReprD (K : PySem.W.Frag) : List V → Hp → VK → Prop := fun xs H Q =>
  ∃ (x : V) (d : PyData) (N : Addr → Prop), xs = [x] ∧ Dd K H N x d ∧ d.showable = true ∧ d.shown.length ≤ sizeLine ∧ d.depth ≤ 60 ∧ Q (.str d.shown) H
theorem call_reprD (g : Free X.A) (hu : X.A.units + 64 < cLine) : CallR X (.builtin "repr") (rReprD X.K) := by
  intro pins s σ H xs us Q I r h
  obtain ⟨x, d, N, rfl, hd, hs, hz, hdp, q⟩ := h
  obtain ⟨u, rfl, ru⟩ := r.one
  obtain ⟨as, rd, hn⟩ := Dd.reads I d x u hd ru
  have fin : ∀ (h' : Heap) (tk tk' : Nat), (∀ b o, s.heap.get? b = some o → h'.get? b = some o) →
      EP X pins σ Q (.str d.shown tk) { s with heap := h', toks := tk' } :=
    fun h' tk tk' k => ⟨.str d.shown, H, I.kept k, ⟨tk, rfl⟩, q⟩
  have fin0 : ∀ (tk tk' : Nat), EP X pins σ Q (.str d.shown tk) { s with toks := tk' } :=
    fun tk tk' => ⟨.str d.shown, H, I.tok tk', ⟨tk, rfl⟩, q⟩
  cases rd with
  | none => exact P.repr_of_none (fin0 _ _)
  | bool b => exact P.repr_of_bool (fin0 _ _)
  | int i t => exact P.repr_of_int (by simpa [PyData.showable] using hs) (fin0 _ _)
  | str z t => exact P.repr_of_str (fin0 _ _) hz
  | list h1 h2 h3 h4 =>
    exact repr_of_reads' (.list h1 h2 h3 h4) hs (fun _ => hn) g (by omega) (fun _ _ e => e) (fun h' u tk k => fin h' u tk k) hz
  | tuple h1 h2 h3 h4 =>
    exact repr_of_reads' (.tuple h1 h2 h3 h4) hs (fun _ => hn) g (by omega) (fun _ _ e => e) (fun h' u tk k => fin h' u tk k) hz
  | dict h1 h2 h3 h4 h5 =>
    exact repr_of_reads' (.dict h1 h2 h3 h4 h5) hs (fun _ => hn) g (by omega) (fun _ _ e => e) (fun h' u tk k => fin h' u tk k) hz
end
end Gd
end

section
set_option Elab.async false
set_option linter.all false
set_option maxRecDepth 100000
set_option maxHeartbeats 4000000
namespace Gd
open PySem PySem.Spec PyProof.Rows L2

section
variable {X : Cx}
/-- the address of a new object is none of the interpreter's own -/
theorem new_no {pins : List (Addr × Obj)} {σ : L2.St} {H : Hp} {s : Shared} (I : Inv X pins σ H s) : s.heap.objs.size ≠ sysModules := Nat.ne_of_gt I.big
def tLstS (t : TA) : TE := fun σ H Q => t σ H fun xs H1 => xs.length ≤ sizeLine ∧ ∀ p, H1 p = none → p ≠ sysModules → Q (.ref p) (upd H1 p (.lst xs))
theorem pe_lstS {es : List Expr} {pos : Pos} {t : TA} (h : PA X es t) : PE X (.List es pos) (tLstS t) := by
  constructor
  intro pins s σ H Q I hq
  refine wpAny_List_spliced (thn (h.run pos pins s σ H _ I hq) ?_)
  rintro us s1 ⟨xs, H1, J, r, z, q⟩
  have hn : H1 s1.heap.objs.size = none := J.hok.fresh (Nat.le_refl _)
  have J2 := J.laid (a := s1.heap.objs.size) (o := .lst xs) (h' := s1.heap.push { cls := .type "list", data := .seq us.toArray }) (t' := s1.toks)
    (fun b u e => Heap.get?_push_of_some _ e) (Nat.le_refl _) ⟨z, us, 0, r, Heap.get?_push_size _ rfl⟩
  exact ⟨by rw [← r.length]; exact z, .ref s1.heap.objs.size, _, J2, rfl, q _ hn (new_no J)⟩
theorem call_listS : CallR X (.type "list") (fun xs H Q => ∃ p ys, xs = [.ref p] ∧ SqT X.K H p ys ∧ ∀ l, H l = none → l ≠ sysModules → Q (.ref l) (upd H l (.lst ys))) := by
  intro pins s σ H xs us Q I r h
  obtain ⟨p, ys, rfl, hq, q⟩ := h
  obtain ⟨u, rfl, rx⟩ := r.one
  cases rx
  obtain ⟨its, r', pl, hz⟩ := I.tuple hq
  have hlen := r'.length
  obtain ⟨o, ho, hc, n, hd⟩ := pl
  refine call_list_seq p (.inr rfl) ho hc hd ?_ (by simp only [List.size_toArray] <;> omega)
  intro h' c' kp e
  have J := I.laid (a := s.heap.objs.size) (o := .lst ys) (t' := s.toks) kp (Nat.le_refl _) ⟨hz, its, c', r', e⟩
  exact ⟨.ref s.heap.objs.size, _, J, rfl, q _ (I.hok.fresh (Nat.le_refl _)) (new_no I)⟩

/-! truths as numbers -/
theorem op_add_bi : OpR X (binaryOp .Add) (fun x y H Q => ∃ k i, x = .bl k ∧ y = .int i ∧ Q (.int ((if k = true then 1 else 0) + i)) H) := by
  intro pins s σ H x y v u Q I rx ry h
  obtain ⟨k, i, rfl, rfl, q⟩ := h
  obtain ⟨t, rfl⟩ := ry
  cases rx
  exact IntBool.add_bool_int ⟨.int ((if k = true then 1 else 0) + i), H, I.tok _, ⟨_, rfl⟩, q⟩
theorem op_sub_ib : OpR X (binaryOp .Sub) (fun x y H Q => ∃ i k, x = .int i ∧ y = .bl k ∧ Q (.int (i - (if k = true then 1 else 0))) H) := by
  intro pins s σ H x y v u Q I rx ry h
  obtain ⟨i, k, rfl, rfl, q⟩ := h
  obtain ⟨t, rfl⟩ := rx
  cases ry
  exact IntBool.sub_int_bool ⟨.int (i - (if k = true then 1 else 0)), H, I.tok _, ⟨_, rfl⟩, q⟩
theorem call_str_bool : CallR X (.type "str") (fun xs H Q => ∃ b, xs = [.bl b] ∧ Q (.str (if b then "True" else "False")) H) := by
  intro pins s σ H xs us Q I r h
  obtain ⟨b, rfl, q⟩ := h
  obtain ⟨u, rfl, rx⟩ := r.one
  cases rx
  exact PySem.P.str_of_bool ⟨.str (if b then "True" else "False"), H, I.tok _, ⟨_, rfl⟩, q⟩
end

/-! a dict is no text -/
section
variable {A : Around} {s : Shared} {P : Program} {w : World}
theorem dict_declines (d : Addr) (b : Str) (u : Tok) :
    Meets (Builtin.«dict.__eq__» ⟨[.ref d, .str b u], []⟩) (fun _ R s => s.TypeIs (.ref d) "dict" ∧ R (.ok (.ret .notImplemented)) s) :=
  .of_wp fun prog w A R s h => by
    obtain ⟨hd, h⟩ := h
    show wpAny _ _ (Builtin.Dict.dictSlotArgs "__eq__" ⟨[.ref d, .str b u], []⟩ >>= _) _ _ s
    refine wpAny_bind ?_
    unfold Builtin.Dict.dictSlotArgs
    refine wpAny_bind (wpAny_notOrdered_dict hd ?_)
    refine wpAny_pure ?_
    refine wpAny_bind (wpAny_isInstance (T := "str") (typeIs_str s b u) PySem.F.sub_str_dict ?_)
    simp only [Bool.not_false, if_true]
    exact wpAny_bind (wpAny_rule (wpAny_pure ⟨_, rfl, h⟩))
theorem str_declines (d : Addr) (es : Array DictEntry) (ep : Nat) (b : Str) (u : Tok) :
    Meets (Builtin.«str.__eq__» ⟨[.str b u, .ref d], []⟩)
      (fun _ R s => s.heap.get? d = some { cls := .type "dict", dict := none, data := .dict es ep, slots := #[] } ∧ R (.ok (.ret .notImplemented)) s) :=
  .of_wp fun prog w A R s h => by
    obtain ⟨hp, g, d, tk, os⟩ := s
    obtain ⟨hd, h⟩ := h
    wp_walk using wpAny_load hd
    exact ⟨_, rfl, h⟩
variable {d : Addr} {es : Array DictEntry} {ep : Nat}
theorem rc_dict_str (b : Str) (u : Tok) (ho : s.heap.get? d = some { cls := .type "dict", dict := none, data := .dict es ep, slots := #[] }) (hu : A.units < cLine) :
    SeqAt.RcAt A s (.ref d) (.str b u) false := fun prog w E Q h =>
  SeqAt.rc_eq_decline_or (k := false) ⟨_, ho, rfl⟩ (typeIs_str s b u) (by decide) PySem.F.sub_str_dict PySem.F.slot_dict_eq PySem.F.slot_str_eq_refl
    (fun _ hq => call_meets PySem.F.slot_dict_eq ⟨_, ho, rfl⟩ PySem.F.entry_dict_eq (PySem.F.args_dict_eq_2 _ _) (dict_declines d b u) ⟨⟨_, ho, rfl⟩, hq⟩)
    (fun _ hq => call_meets PySem.F.slot_str_eq_refl (typeIs_str s b u) PySem.F.entry_str_eq (PySem.F.args_str_eq_2 _ _) (str_declines d es ep b u) ⟨ho, hq⟩)
    (fun _ hq => wpAny_of_eq (rfl : isSame (.ref d) (.str b u) = pure false) hq) (.inr hu) h
theorem rc_str_dict (b : Str) (u : Tok) (ho : s.heap.get? d = some { cls := .type "dict", dict := none, data := .dict es ep, slots := #[] }) (hu : A.units < cLine) :
    SeqAt.RcAt A s (.str b u) (.ref d) false := fun prog w E Q h =>
  SeqAt.rc_eq_decline_or (k := false) (typeIs_str s b u) ⟨_, ho, rfl⟩ (by decide) PySem.F.sub_dict_str PySem.F.slot_str_eq PySem.F.slot_dict_eq_refl
    (fun _ hq => call_meets PySem.F.slot_str_eq (typeIs_str s b u) PySem.F.entry_str_eq (PySem.F.args_str_eq_2 _ _) (str_declines d es ep b u) ⟨ho, hq⟩)
    (fun _ hq => call_meets PySem.F.slot_dict_eq_refl ⟨_, ho, rfl⟩ PySem.F.entry_dict_eq (PySem.F.args_dict_eq_2 _ _) (dict_declines d b u) ⟨⟨_, ho, rfl⟩, hq⟩)
    (fun _ hq => wpAny_of_eq (rfl : isSame (.str b u) (.ref d) = pure false) hq) (.inr hu) h
theorem eq_str_dict (b : Str) (u : Tok) (ho : s.heap.get? d = some { cls := .type "dict", dict := none, data := .dict es ep, slots := #[] }) (hu : A.units < cLine) :
    SeqAt.EqAt A s (.str b u) (.ref d) false := fun prog w E Q h => by
  unfold eqBool
  refine wpAny_holding (wpAny_ite_split (fun q => absurd (eq_of_beq q) nofun) (fun _ => ?_))
  exact wpAny_bind (rc_str_dict b u ho hu prog w E _ (wpAny_truthy_bool h))
end

/-! data beside a text -/
def isStr (d : PyData) (b : Str) : Bool := match d with
  | .str x => x == b
  | _ => false
section
variable {X : Cx} {pins : List (Addr × Obj)} {σ : L2.St} {H : Hp} {s : Shared} {N : Addr → Prop} {A : Around}
theorem Dd.dictAt (I : Inv X pins σ H s) {v : V} {u : Value} {ks : List (PyData × PyData)} (h : Dd X.K H N v (.dict ks)) (r : RelV v u) :
    ∃ d es ep, u = .ref d ∧ s.heap.get? d = some { cls := .type "dict", dict := none, data := .dict es ep, slots := #[] } := by
  have key : ∀ {a : Addr} {kvs : List (Key × V)}, H a = some (.dK kvs) → ∃ es ep, s.heap.get? a = some { cls := .type "dict", dict := none, data := .dict es ep, slots := #[] } := by
    intro a kvs e
    obtain ⟨_, vs, _, o, es, ep, ho, ⟨e1, e2, e3⟩, hd, _⟩ := dk_reads I e
    obtain ⟨oc, od, dt, sl⟩ := o
    dsimp only at e1 e2 e3 hd
    subst e1 e2 e3 hd
    exact ⟨es, ep, ho⟩
  cases h with
  | dct0 e _ =>
    cases r
    obtain ⟨es, ep, ho⟩ := key e
    exact ⟨_, es, ep, rfl, ho⟩
  | dct1 e _ =>
    cases r
    obtain ⟨es, ep, ho⟩ := key e
    exact ⟨_, es, ep, rfl, ho⟩
theorem Dd.strEq (I : Inv X pins σ H s) (hu : A.units < cLine) {d : PyData} {v : V} {u : Value} (h : Dd X.K H N v d) (r : RelV v u) (b : Str) (t : Tok) :
    SeqAt.EqAt A s (.str b t) u (isStr d b) := by
  cases d with
  | none =>
    cases h
    cases r
    exact .str_none b t
  | bool k =>
    cases h
    cases r
    exact .str_bool b t k
  | int i =>
    cases h
    obtain ⟨t2, rfl⟩ := r
    exact .str_int b t i t2
  | str x =>
    cases h
    obtain ⟨t2, rfl⟩ := r
    have e := SeqAt.EqAt.str_str (A := A) (s := s) b t x t2
    have e2 : isStr (.str x) b = (b == x) := by
      show (x == b) = (b == x)
      exact Bool.eq_iff_iff.mpr ⟨fun z => by rw [eq_of_beq z] <;> exact beq_self_eq_true _, fun z => by rw [eq_of_beq z] <;> exact beq_self_eq_true _⟩
    rw [e2]
    exact e
  | list ds =>
    cases h with
    | lst e n g k =>
    cases r
    obtain ⟨its, _, pl, _⟩ := I.list (SqL.of e)
    exact .str_list b t pl.isList hu
  | tuple ds =>
    cases h with
    | tup e k =>
    cases r
    obtain ⟨its, _, pl, _⟩ := I.tuple e
    exact .str_tuple b t pl hu
  | dict ks =>
    obtain ⟨a, es, ep, rfl, ho⟩ := Dd.dictAt I h r
    exact eq_str_dict b t ho hu
end
end Gd
end

section
set_option Elab.async false
set_option linter.all false
set_option maxRecDepth 100000
set_option maxHeartbeats 4000000
/-! Lists of ints and slabs in the heap; what they show. -/
namespace Gd
open PySem PySem.Spec PyProof.Rows L2
theorem int_shown {i : Int} (h : i.natAbs ≤ 10 ^ 40) : (PyData.int i).shown.length ≤ 100 ∧ i.natAbs.log2 < 1920 ∧ (PyData.int i).weight ≤ 200 := by
  have h1 : i.natAbs < 10 ^ 41 := Nat.lt_of_le_of_lt h (by decide)
  have hl : i.natAbs.log2 < 190 := by
    by_cases z : i.natAbs = 0
    · rw [z]; decide
    · exact (Nat.log2_lt z).mpr (Nat.lt_of_lt_of_le h1 (by decide +kernel))
  refine ⟨?_, by omega, ?_⟩
  · have e := int_text_length_le10 (k := 41) (by decide) h1
    have e2 : (PyData.int i).shown.length = (toString i).length := by
      show (Str.ofString (toString i)).length = _
      rw [PySem.ofString_length]
    omega
  · simp only [PyData.weight]
    split <;> omega
theorem ints_leaves : ∀ {ns : List Int}, (∀ i ∈ ns, i.natAbs ≤ 10 ^ 40) → PyData.leavesShortAll 100 (ns.map .int) = true ∧ PyData.showableAll (ns.map .int) = true ∧ PyData.weightAll (ns.map .int) ≤ 201 * ns.length ∧ PyData.depthAll (ns.map .int) = 0
  | [], _ => ⟨rfl, rfl, Nat.zero_le _, rfl⟩
  | i :: ns, h => by
    obtain ⟨a, b, c, d⟩ := ints_leaves (ns := ns) fun j hj => h j (by simp [hj])
    obtain ⟨e1, e2, e3⟩ := int_shown (h i (by simp))
    refine ⟨?_, ?_, ?_, ?_⟩
    · simp only [List.map_cons, PyData.leavesShortAll, a, Bool.and_true, PyData.leavesShort, decide_eq_true_eq]
      exact e1
    · simp only [List.map_cons, PyData.showableAll, b, Bool.and_true, PyData.showable, decide_eq_true_eq]
      exact e2
    · simp only [List.map_cons, PyData.weightAll, List.length_cons]
      omega
    · simp only [List.map_cons, PyData.depthAll, d, PyData.depth]
      omega
/-- repr of a list of ints is served -/
theorem ints_shown {ns : List Int} (h : ∀ i ∈ ns, i.natAbs ≤ 10 ^ 40) (hl : ns.length ≤ 700) :
    (PyData.list (ns.map .int)).showable = true ∧ (PyData.list (ns.map .int)).shown.length ≤ sizeLine ∧ (PyData.list (ns.map .int)).depth ≤ 60 := by
  obtain ⟨a, b, c, d⟩ := ints_leaves h
  have hs := PyData.shown_le 100 (by decide) (.list (ns.map .int)) (by simpa only [PyData.leavesShort] using a)
  have hw : (PyData.list (ns.map .int)).weight ≤ 201 * ns.length + 1 := by
    simp only [PyData.weight]
    omega
  have z : sizeLine = 16777216 := rfl
  refine ⟨by simpa only [PyData.showable] using b, by omega, ?_⟩
  simp only [PyData.depth, d]
  omega
theorem one_shown {i : Int} (h : i.natAbs ≤ 10 ^ 40) : (PyData.int i).showable = true ∧ (PyData.int i).shown.length ≤ sizeLine ∧ (PyData.int i).depth ≤ 60 := by
  obtain ⟨e1, e2, e3⟩ := int_shown h
  have z : sizeLine = 16777216 := rfl
  refine ⟨by simpa [PyData.showable] using e2, by omega, by simp only [PyData.depth]; omega⟩
theorem ints_dp {K : PySem.W.Frag} {H : Hp} : ∀ ns : List Int, DpAll K H (ns.map V.int) (ns.map .int)
  | [] => .nil
  | i :: ns => .cons (.int i) (ints_dp ns)
theorem list_dp {K : PySem.W.Frag} {H : Hp} {a : Addr} {ns : List Int} (h : SqL K H a (ns.map V.int)) : Dp K H (.ref a) (.list (ns.map .int)) := .lst h (ints_dp ns)

/-! what stays -/
theorem new_same {H : Hp} {q : Addr} {o : HO} (n : H q = none) : Same H (upd H q o) := fun b u e => by
  rw [upd_ne (ne_of_none e n)]
  exact e
/-- a new object may change -/
theorem own_same {H H' : Hp} {q : Addr} {o : HO} (n : H q = none) (s : Same H H') : Same H (upd H' q o) := fun b u e => by
  rw [upd_ne (ne_of_none e n)]
  exact s b u e
theorem same_tup {K : PySem.W.Frag} {H H' : Hp} (s : Same H H') {a : Addr} {xs : List V} (h : SqT K H a xs) : SqT K H' a xs := by
  rcases h with (h | ⟨o, h⟩) | h
  · exact .inl (.inl (s _ _ h))
  · exact .inl (.inr ⟨o, s _ _ h⟩)
  · exact .inr h
/-- slabs at a: a list of pairs -/
def SlabsAt (K : PySem.W.Frag) (H : Hp) (a : Addr) (ss : List (Nat × Int)) : Prop :=
  ∃ bs : List Addr, SqL K H a (bs.map V.ref) ∧ bs.length = ss.length ∧ ∀ (i : Nat) (b : Addr) (s : Nat × Int), bs[i]? = some b → ss[i]? = some s → SqT K H b [.int (s.1 : Nat), .int s.2]
theorem SlabsAt.same {K : PySem.W.Frag} {H H' : Hp} {a : Addr} {ss : List (Nat × Int)} (h : SlabsAt K H a ss) (s : Same H H') : SlabsAt K H' a ss := by
  obtain ⟨bs, h1, h2, h3⟩ := h
  exact ⟨bs, s.seq h1, h2, fun i b t e1 e2 => same_tup s (h3 i b t e1 e2)⟩
theorem map_at {α : Type} {f : α → V} {xs : List α} {i : Nat} {v : V} (h : (xs.map f)[i]? = some v) : ∃ x, xs[i]? = some x ∧ v = f x := by
  rw [List.getElem?_map] at h
  cases e : xs[i]? with
  | none => rw [e] at h; cases h
  | some x => rw [e] at h; exact ⟨x, rfl, (Option.some.inj h).symm⟩
theorem at_of {α : Type} {xs : List α} {i n : Nat} (hl : xs.length = n) (h : i < n) : ∃ x, xs[i]? = some x := ⟨xs[i]'(by omega), List.getElem?_eq_getElem (by omega)⟩
theorem at_lt {α : Type} {xs : List α} {i : Nat} {x : α} (h : xs[i]? = some x) : i < xs.length := (List.getElem?_eq_some_iff.mp h).1
theorem getD_at {l : List Int} {i : Nat} (h : i < l.length) : l[i]? = some (l.getD i 0) := by
  rw [List.getD_eq_getElem?_getD, List.getElem?_eq_getElem h] <;> rfl
theorem ints_at {l : List Int} {i : Nat} (h : i < l.length) : (l.map V.int)[i]? = some (.int (l.getD i 0)) := by
  rw [List.getElem?_map, getD_at h] <;> rfl
theorem ints_atI {l : List Int} {i : Nat} (h : i < l.length) : atI (l.map V.int) ((i : Nat) : Int) = some (.int (l.getD i 0)) := atI_nat (ints_at h)
theorem take_at {α : Type} {xs : List α} {i : Nat} {x : α} (h : xs[i]? = some x) : xs.take (i + 1) = xs.take i ++ [x] := by
  rw [List.take_add_one, h] <;> rfl
theorem map_set {l : List Int} {i : Nat} {v : Int} : (l.map V.int).set i (.int v) = (l.set i v).map V.int := by
  rw [List.map_set]
section
variable {X : Cx}
/-- l[j], j from nought on, in l[j] op= x -/
def rGetL (K : PySem.W.Frag) : V → V → Hp → VK → Prop := fun o i H Q => ∃ (p : Addr) (xs : List V) (j : Nat) (v : V), o = .ref p ∧ i = .int (j : Nat) ∧ SqL K H p xs ∧ xs[j]? = some v ∧ Q v H
theorem get_list : PGet X (rGetL X.K) := by
  intro pins s σ H o i ov iv Q I r1 r2 h
  obtain ⟨p, xs, j, v, rfl, rfl, hq, he, q⟩ := h
  cases r1
  obtain ⟨t, rfl⟩ := r2
  obtain ⟨its, r, pl, hz⟩ := I.list hq
  obtain ⟨u, eu, ru⟩ := r.get he
  have hl := r.length
  have lt := at_lt he
  have zz : sizeLine = 16777216 := rfl
  have hi := at_lt eu
  refine wpAny_getItem_list pl.isList (by omega) (by omega) ?_ ⟨v, H, I, ru, q⟩
  simpa using eu
end
theorem ixN_nat {n j : Nat} (h : j < n) : ixN n (j : Int) = some j := by
  unfold ixN
  rw [if_pos (by omega), if_pos (by omega)] <;> simp
end Gd
end

section
set_option Elab.async false
set_option linter.all false
set_option maxRecDepth 100000
set_option maxHeartbeats 4000000
namespace Gd
open PySem PySem.Spec PyProof.Rows L2
section
variable {X : Cx}
/-- a list beside [] -/
def rL0 (K : PySem.W.Frag) (neg : Bool) : R2 := fun x y H Q => ∃ a b xs, x = .ref a ∧ y = .ref b ∧ SqL K H a xs ∧ SqL K H b [] ∧ Q (.bl (if neg then !xs.isEmpty else xs.isEmpty)) H
theorem op_eqL0 (hu : X.A.units < cLine) : OpR X (compareOp .Eq) (rL0 X.K false) := by
  intro pins s σ H x y v u Q I rx ry h
  obtain ⟨a, b, xs, rfl, rfl, ha, hb, q⟩ := h
  cases rx
  cases ry
  obtain ⟨its, r, pl, _⟩ := I.list ha
  obtain ⟨its2, r2, pl2, _⟩ := I.list hb
  cases r2
  cases r with
  | nil => exact SeqAt.RcAt.lists (e := fun _ => true) pl.isList pl2.isList rfl hu (fun j h1 _ => absurd h1 (by simp)) _ _ _ _ ⟨.bl _, H, I, rfl, q⟩
  | cons _ _ => exact SeqAt.RcAt.lists_lengths pl.isList pl2.isList (by simp) hu _ _ _ _ ⟨.bl _, H, I, rfl, q⟩
theorem op_neL0 (hu : X.A.units < cLine) : OpR X (compareOp .NotEq) (rL0 X.K true) := by
  intro pins s σ H x y v u Q I rx ry h
  obtain ⟨a, b, xs, rfl, rfl, ha, hb, q⟩ := h
  cases rx
  cases ry
  obtain ⟨its, r, pl, _⟩ := I.list ha
  obtain ⟨its2, r2, pl2, _⟩ := I.list hb
  cases r2
  cases r with
  | nil => exact SeqAt.RcNeAt.lists (e := fun _ => true) pl.isList pl2.isList rfl hu (fun j h1 _ => absurd h1 (by simp)) _ _ _ _ ⟨.bl _, H, I, rfl, q⟩
  | cons _ _ => exact SeqAt.RcNeAt.lists_lengths pl.isList pl2.isList (by simp) hu _ _ _ _ ⟨.bl _, H, I, rfl, q⟩
end
/-! what stays through draws -/
theorem ex1_of_same {p : Addr} {H H' : Hp} (s : Same H H') : Ex1 p H H' := fun b u _ e => s b u e
theorem ex1_own {p q : Addr} {H H' : Hp} {o : HO} (n : H q = none) (x : Ex1 p H H') : Ex1 p H (upd H' q o) := fun b u nb e => by
  rw [upd_ne (ne_of_none e n)]
  exact x b u nb e
theorem Feed.off {H : Hp} {p q : Addr} {S : Int} {o : HO} (F : Feed H p S) (n : q ≠ p) : Feed (upd H q o) p S := by
  obtain ⟨g, x, s, e, a, b⟩ := F
  exact ⟨g, x, s, by rw [upd_ne n.symm]; exact e, a, b⟩
theorem Feed.kept {H H' : Hp} {p : Addr} {S : Int} (F : Feed H p S) (s : Same H H') : Feed H' p S := by
  obtain ⟨g, x, z, ep, a, b⟩ := F
  exact ⟨g, x, z, s _ _ ep, a, b⟩
theorem Feed.not {H : Hp} {p q : Addr} {S : Int} (F : Feed H p S) (n : H q = none) : q ≠ p := F.ne n
theorem ex1_tup {K : PySem.W.Frag} {H H' : Hp} {p a : Addr} {S : Int} {xs : List V} (F : Feed H p S) (x : Ex1 p H H') (h : SqT K H a xs) : SqT K H' a xs := by
  obtain ⟨ys, ep⟩ := F.lst
  rcases h with (h | ⟨o, h⟩) | h
  · exact .inl (.inl (x _ _ (fun z => by rw [z, ep] at h; cases h) h))
  · exact .inl (.inr ⟨o, x _ _ (fun z => by rw [z, ep] at h; cases h) h⟩)
  · exact .inr h
theorem ex1_seq {K : PySem.W.Frag} {H H' : Hp} {p a : Addr} {xs : List V} (n : a ≠ p) (x : Ex1 p H H') (h : SqL K H a xs) : SqL K H' a xs := by
  rcases h with (h | ⟨o, h⟩) | h
  · exact .inl (.inl (x _ _ n h))
  · exact .inl (.inr ⟨o, x _ _ n h⟩)
  · exact .inr h
theorem SlabsAt.drawn {K : PySem.W.Frag} {H H' : Hp} {p a : Addr} {S : Int} {ss : List (Nat × Int)} (h : SlabsAt K H a ss) (F : Feed H p S) (n : a ≠ p) (x : Ex1 p H H') : SlabsAt K H' a ss := by
  obtain ⟨bs, h1, h2, h3⟩ := h
  exact ⟨bs, ex1_seq n x h1, h2, fun i b t e1 e2 => ex1_tup F x (h3 i b t e1 e2)⟩
/-- a new object is not p, and was not there before the draws -/
theorem ex1_free {p q : Addr} {H H' : Hp} (x : Ex1 p H H') (n : q ≠ p) (h : H' q = none) : H q = none := by
  cases e : H q with
  | none => rfl
  | some o => rw [x q o n e] at h; cases h
theorem at_list {α : Type} {f : α → V} {xs : List α} {r : Int} (h0 : 0 ≤ r) (h1 : r < xs.length) : ∃ x, x ∈ xs ∧ atI (xs.map f) r = some (f x) := by
  have h2 : r.toNat < xs.length := by omega
  refine ⟨xs[r.toNat], List.getElem_mem h2, ?_⟩
  have e : ((r.toNat : Nat) : Int) = r := by omega
  have z : atI (xs.map f) ((r.toNat : Nat) : Int) = some (f xs[r.toNat]) := atI_nat (by rw [List.getElem?_map, List.getElem?_eq_getElem h2] <;> rfl)
  rw [e] at z
  exact z
end Gd
end

section
set_option Elab.async false
set_option linter.all false
set_option maxRecDepth 100000
set_option maxHeartbeats 4000000
/-! zip(t, l): a tuple beside a list. -/
namespace Gd
open PySem PySem.Spec PyProof.Rows L2

/-- the tuple at a, the list at b, as they stand at each turn -/
def ItTL (K : PySem.W.Frag) (a b : Addr) : It where
  go i H := ∃ (xs ys : List V) (x y : V), SqT K H a xs ∧ SqL K H b ys ∧ xs[i]? = some x ∧ ys[i]? = some y
  yld i H v H' := ∃ T x y, v = .ref T ∧ H T = none ∧ H' = upd H T (.tup [x, y]) ∧ (∀ xs, SqT K H a xs → xs[i]? = some x) ∧ ∀ ys, SqL K H b ys → ys[i]? = some y
  stop i H := ∃ xs ys : List V, SqT K H a xs ∧ SqL K H b ys ∧ ys.length = i ∧ xs.length = i

theorem apN {a b : Nat} (h : ¬ a = b) : (a : Addr) ≠ (b : Addr) := h
theorem apL {x a b : Nat} (h1 : ¬ x = a) (h2 : ¬ x = b) : (x : Addr) ∉ ([a, b] : List Addr) := by
  intro h
  rcases List.mem_cons.mp h with h | h
  · exact h1 h
  · rcases List.mem_cons.mp h with h | h
    · exact h2 h
    · cases h
/-- the five cells of such a zip, the first at n -/
def five (n : Nat) : List Addr := [n + 4, n + 2, n + 3, n, n + 1]
theorem mem5 {n c : Nat} (h : c ∈ five n) : n ≤ c ∧ c < n + 5 := by
  simp only [five, List.mem_cons, List.not_mem_nil, or_false] at h
  omega
theorem in5 {n c : Nat} (h : n ≤ c) (h' : c < n + 5) : c ∈ five n := by
  simp only [five, List.mem_cons, List.not_mem_nil, or_false]
  omega
theorem sep5 {n a b : Nat} (ha : a < n) (hb : b < n) : ZipSep2 (n + 4) (n + 2) (n + 3) n (n + 1) [n, a] [n + 1, b] := by
  constructor
  · exact apN (by omega)
  · exact apN (by omega)
  · exact apN (by omega)
  · exact apN (by omega)
  · simp
  · exact apL (by omega) (by omega)
  · exact apL (by omega) (by omega)
  · exact apN (by omega)
  · simp
  · exact apL (by omega) (by omega)
  · exact apL (by omega) (by omega)
  · exact apL (by omega) (by omega)
  · exact apL (by omega) (by omega)
def St5 (n a b : Nat) (i : Nat) (h : Heap) : Prop :=
  IsZip h (n + 4) (n + 2) (n + 3) .none ∧ IsTupOf2 h (n + 2) (.ref n) (.ref (n + 1)) ∧ (∃ x y, IsTupOf2 h (n + 3) x y) ∧
    h.IsTupleIter n a i ∧ h.IsListIter (n + 1) b i ∧ a < n ∧ b < n ∧ n + 5 ≤ h.objs.size
theorem st5_obj {n a b i : Nat} {h : Heap} (st : St5 n a b i h) {c : Addr} (hc : c ∈ five n) : ∃ o, h.get? c = some o ∧ ∀ v, o.data ≠ .cell v := by
  obtain ⟨hz, hi, ⟨x, y, ho⟩, ⟨o1, e1, _, d1⟩, ⟨o2, e2, _, d2⟩, _⟩ := st
  simp only [five, List.mem_cons, List.not_mem_nil, or_false] at hc
  rcases hc with rfl | rfl | rfl | rfl | rfl
  · exact ⟨_, hz, fun v z => nomatch z⟩
  · exact ⟨_, hi, fun v z => nomatch z⟩
  · exact ⟨_, ho, fun v z => nomatch z⟩
  · exact ⟨o1, e1, fun v z => by rw [d1] at z; cases z⟩
  · exact ⟨o2, e2, fun v z => by rw [d2] at z; cases z⟩
theorem st5_keep {n a b i : Nat} {h h' : Heap} (st : St5 n a b i h) (hs : n + 5 ≤ h'.objs.size) (k : ∀ c ∈ five n, ∀ o, h.get? c = some o → h'.get? c = some o) : St5 n a b i h' := by
  obtain ⟨hz, hi, ⟨x, y, ho⟩, h1, h2, la, lb, _⟩ := st
  have m : ∀ j, j < 5 → n + j ∈ five n := fun j hj => in5 (by omega) (by omega)
  exact ⟨k _ (m 4 (by omega)) _ hz, k _ (m 2 (by omega)) _ hi, ⟨x, y, k _ (m 3 (by omega)) _ ho⟩, h1.at fun o e => k n (m 0 (by omega)) o e, h2.at fun o e => k _ (m 1 (by omega)) o e, la, lb, hs⟩
theorem size_of_get {h : Heap} {n : Nat} {o : Obj} (e : h.get? (n + 4) = some o) : n + 5 ≤ h.objs.size := Heap.lt_size e

theorem turn_TL {P : Program} {w : World} {K : PySem.W.Frag} {elts : List Expr} {kk : Nat} {tpos : Pos} {a b n : Addr} :
    Turn P w K (.Tuple elts kk tpos) (ItTL K a b) (five n) (n + 4) (St5 n a b) where
  mem := in5 (by omega) (by omega)
  obj := fun i h st c hc => st5_obj st hc
  keep := fun i h h' st k => by
    obtain ⟨o, e⟩ : ∃ o, h.get? (n + 4) = some o := ⟨_, st.1⟩
    exact st5_keep st (size_of_get (k _ (in5 (by omega) (by omega)) _ e)) k
  item := by
    intro X hP hw hK hc i pins s σ H E I hf st hg
    subst hP hw hK
    have st0 := st
    obtain ⟨hz, hi, ⟨x0, y0, ho⟩, h1, h2, la, lb, _⟩ := st
    obtain ⟨xs, ys, x, y, qx, qy, hx, hy⟩ := hg
    obtain ⟨as, rv, p, _⟩ := I.tuple qx
    obtain ⟨bs, rv2, p2, _⟩ := I.list qy
    obtain ⟨u, hu, ru⟩ := rv.get hx
    obtain ⟨u2, hu2, ru2⟩ := rv2.get hy
    have hh := I.ok.hd hc
    have hh1 : X.A.in1.handled = none := hh
    have hia : i < as.toArray.size := by
      rw [List.size_toArray]
      exact (List.getElem?_eq_some_iff.mp hu).1
    have hib : i < bs.toArray.size := by
      rw [List.size_toArray]
      exact (List.getElem?_eq_some_iff.mp hu2).1
    refine wpAny_pyNext_zipD2_item (sep5 la lb) (.tuple hh1 n a (Nat.ne_of_lt la) as.toArray) (.list hh1 (n + 1) b (apN (by omega)) bs.toArray) hz hi ho ⟨h1, p⟩ ⟨h2, p2.isList⟩ hia hib ?_
    intro x1 x2 h' tk e1 e2 z' o' g1 g2 hT hsz hk
    have eu : x1 = u := by
      have : as.toArray[i]? = some u := by simpa using hu
      exact Option.some.inj (e1.symm.trans this)
    have eu2 : x2 = u2 := by
      have : bs.toArray[i]? = some u2 := by simpa using hu2
      exact Option.some.inj (e2.symm.trans this)
    subst eu eu2
    have old : ∀ {c o}, s.heap.get? c = some o → c ≠ s.heap.objs.size := fun e => Nat.ne_of_lt (Heap.lt_size e)
    refine ⟨_, rfl, wpAny_letOwnedTupleGo_zip z' fun h3 z3 sb => ?_⟩
    have stay : ∀ c o, c ∉ five n → s.heap.get? c = some o → h3.get? c = some o := fun c o nc e =>
      (sb.2 c (fun q => nc (q ▸ in5 (by omega) (by omega)))).trans (hk c o (fun q => nc (q ▸ in5 (by omega) (by omega))) (fun q => nc (q ▸ in5 (by omega) (by omega)))
        (fun q => nc (q ▸ in5 (by omega) (by omega))) (fun q => nc (q ▸ in5 (by omega) (by omega))) e)
    have t3 : h3.get? s.heap.objs.size = some { cls := .type "tuple", data := .seq #[x1, x2] } := (sb.2 _ (old hz).symm).trans hT
    have fine : ObjOk X.prog X.w (upd H s.heap.objs.size (.tup [x, y])) h3 s.heap.objs.size (.tup [x, y]) :=
      ⟨by show 2 ≤ sizeLine; decide, [x1, x2], .cons ru (.cons ru2 .nil), ⟨_, t3, rfl, _, rfl⟩⟩
    have I3 := I.turnedNew (t' := tk) (ch := five n) stay hf (Nat.le_refl _) fine
    have sz : h3.objs.size = h'.objs.size := sb.1
    have sz2 : n + 5 ≤ s.heap.objs.size := size_of_get hz
    refine ⟨.ref s.heap.objs.size, _, I3, rfl, ⟨_, x, y, rfl, I.hok.fresh (Nat.le_refl _), rfl, fun l hl => ?_, fun l hl => ?_⟩, ⟨z3, ?_, ⟨x1, x2, ?_⟩, ?_, ?_, la, lb, ?_⟩, fun c hcm => ?_⟩
    · rw [I.tuple_inj hl qx]; exact hx
    · rw [I.list_inj hl qy]; exact hy
    · exact (sb.2 _ (apN (by omega))).trans (hk _ _ (apN (by omega)) (apN (by omega)) (apN (by omega)) (apN (by omega)) hi)
    · exact (sb.2 _ (apN (by omega))).trans o'
    · exact g1.1.at fun o q => (sb.2 _ (apN (by omega))).trans q
    · exact g2.1.at fun o q => (sb.2 _ (apN (by omega))).trans q
    · rw [sz, hsz]
      omega
    · have := (mem5 hcm).2
      rw [upd_ne (apN (by omega))]
      exact (hf c hcm).1
  done := by
    intro X hP hw hK hc i pins s σ H E I hf st hg
    subst hP hw hK
    obtain ⟨hz, hi, ⟨x0, y0, ho⟩, h1, h2, la, lb, _⟩ := st
    obtain ⟨xs, ys, qx, qy, ey, ex⟩ := hg
    obtain ⟨as, rv, p, _⟩ := I.tuple qx
    obtain ⟨bs, rv2, p2, _⟩ := I.list qy
    have l1 := rv.length
    have l2 := rv2.length
    have hh := I.ok.hd hc
    have hh1 : X.A.in1.handled = none := hh
    have sa : as.toArray.size = i := by rw [List.size_toArray]; omega
    have sb : bs.toArray.size = i := by rw [List.size_toArray]; omega
    refine wpAny_pyNext_zipD2_end (sep5 la lb) (.tuple hh1 n a (Nat.ne_of_lt la) as.toArray) (.list hh1 (n + 1) b (apN (by omega)) bs.toArray) hz hi ho ⟨h1, p⟩ ⟨h2, p2.isList⟩ (by omega) (by omega) (by omega) ?_
    intro h' tk hk
    refine ⟨rfl, I.turnedL (t' := tk) (ch := five n) (fun c o nc e => ?_) hf⟩
    exact hk c o (fun q => nc (q ▸ in5 (by omega) (by omega))) (fun q => nc (q ▸ in5 (by omega) (by omega))) (fun q => nc (q ▸ in5 (by omega) (by omega))) (fun q => nc (q ▸ in5 (by omega) (by omega))) e
  self := fun A i s Q E st h => wpAny_pyIter_zip st.1 h

def iTL (K : PySem.W.Frag) (ta : TA) : TI := fun σ H R => ta σ H fun vs H1 => ∃ a b xs ys, vs = [.ref a, .ref b] ∧ SqT K H1 a xs ∧ SqL K H1 b ys ∧ xs.length = ys.length ∧ R (ItTL K a b) H1
theorem pi_TL {X : Cx} {e e2 : Expr} {ta : TA} {p pos tpos : Pos} {elts : List Expr} {kk : Nat} (hg : Gl X "zip") (hm : X.mg "zip" = none) (ha : PA X [e, e2] ta)
    (hs : starEach [e, e2] X.env = (false, eval e X.env) :: starEach [e2] X.env := by rfl) (hpl : (backTo pos (starEach [e2] X.env)).any (·.1) = false := by rfl) :
    PI X (.Tuple elts kk tpos) (.Call (.Name "zip" p) [e, e2] [] pos) (iTL X.K ta) := by
  refine ⟨fun pins s σ H R I h => Call_ (ld_blt I hg hm PyProof.Rows.boot_zip (PyProof.Rows.callWith_type1 (thn (ha.run pos pins s σ H _ I h) ?_) hs hpl))⟩
  rintro us s1 ⟨vs, H1, J, r, a, b, xs, ys, rfl, qx, qy, hl, q⟩
  obtain ⟨u1, u2, rfl, r1, r2⟩ := vals2 r
  cases r1
  cases r2
  obtain ⟨as, rv, p1, _⟩ := J.tuple qx
  obtain ⟨bs, rv2, p2, _⟩ := J.list qy
  have la : a < s1.heap.objs.size := by
    obtain ⟨o, e, _⟩ := id p1
    exact Heap.lt_size e
  refine zip_begins2 (begins_tuple a as.toArray) (begins_list b bs.toArray) p1 p2.isList ?_
  intro h' hz hi ho g1 g2 hsz hk
  refine wpAny_pyIter_zip hz ?_
  refine ⟨s1.heap.objs.size + 4, five s1.heap.objs.size, _, _, H1, rfl, J.kept (t' := s1.toks) hk, turn_TL (a := a) (b := b), ?_, fun c hc => ?_, q⟩
  · exact ⟨hz, hi, ⟨_, _, ho⟩, ⟨_, g1, rfl, rfl⟩, ⟨_, g2, rfl, rfl⟩, la, p2.lt, by rw [hsz]; exact Nat.le_refl _⟩
  · have hle := (mem5 hc).1
    exact (J.kept (t' := s1.toks) (fun _ _ z => z)).fpOk hle (J.hok.fresh hle)
end Gd
end

section
set_option Elab.async false
set_option linter.all false
set_option maxRecDepth 100000
/-! Methods within a comprehension: what is done may not name the comprehension's own frame. -/
namespace Gd
open PySem PySem.Spec PyProof.Rows L2
section
variable {X : Cx} {o e : Expr} {es : List Expr} {to : TE} {t : TA} {name : Str} {apos cpos : Pos} {T id : String} {r : V → List V → Hp → VK → Prop} {K : PySem.W.Frag}
theorem pe_bmK (K : PySem.W.Frag) (r : V → List V → Hp → VK → Prop) (pa : PlainAttrs T) (slot : Slot T name id) (hty : typeOf (.builtin id) = pure (.type "method_descriptor")) (hm : MtR X id r) (ho : PE X o to) (ha : PA X (e :: es) t) (hK : X.K = K := by rfl)
    (hbase : attributeBase o name X.env (eval o X.env) = eval o X.env := by rfl)
    (hfew : ((backTo cpos (starEach (e :: es) X.env)).all (fun x => !x.1) && (backToKw cpos (keywordEach [] X.env)).all (fun x => x.1.isSome)
      && decide ((e :: es).length + ([] : List Keyword).length + (if ([] : List Keyword).isEmpty then 0 else 1) < 30)) = true := by rfl)
    (hline : (apos.endLine == cpos.line) = true := by rfl) (hs : starEach (e :: es) X.env = (false, eval e X.env) :: starEach es X.env := by rfl) (hplain : (backTo cpos (starEach es X.env)).any (·.1) = false := by rfl) :
    PE X (.Call (.Attribute o name apos) (e :: es) [] cpos) (tBM K T r to t) := by
  subst hK
  exact pe_bm pa slot hty hm ho ha hbase hfew hline hs hplain
theorem pe_tupleOfK (K : PySem.W.Frag) {a : Expr} {ta : TE} {p pos : Pos} (hg : Gl X "tuple") (hm : X.mg "tuple" = none) (ha : PE X a ta) (hK : X.K = K := by rfl) (na : starEach [a] X.env = (false, eval a X.env) :: starEach [] X.env := by rfl) :
    PE X (.Call (.Name "tuple" p) [a] [] pos) (tThen ta (kTup K)) := by
  subst hK
  exact pe_tupleOf hg hm ha na
theorem call_lenK (K : PySem.W.Frag) (hK : X.K = K := by rfl) : CallR X (.builtin "len") (fun xs H Q => ∃ p ys, xs = [V.ref p] ∧ (SqL K H p ys ∨ SqT K H p ys) ∧ Q (.int ys.length) H) := by
  subst hK
  exact call_len_seq
end
end Gd
end

section
set_option Elab.async false
set_option linter.all false
set_option maxRecDepth 100000
set_option maxHeartbeats 4000000
/-! f(k=e, ..): by its names alone, in any order. -/
namespace Gd
open PySem PySem.Spec PyProof.Rows L2
section
variable {X : Cx} {cx : CXT} {n : Nat} {f : Addr} {fd : FuncData} {ps ks : List Str} {sp : Sp} {E : XK} {x : Str} {p pos : Pos} {kws : List Keyword} {tk : TA}
  {g : List Value → List Value → List Value} {gV : List V → List V → List V}
def tKw2 (sp : Sp) (gV : List V → List V → List V) (E : XK) (tk : TA) : TE := fun σ H Q => tk σ H fun zs H2 => sp (gV [] zs) H2 Q E
/-- f(k=e): by its names alone -/
theorem pe_kw2 (F : FnOk X.prog X.w X.K X.mg X.base cx n f fd ps sp) (hr : Room n X.A) (hg : Gl X x) (hm : X.mg x = some (.ref f)) (hk : PySem.W.keepIn X.K (.ref f) = true)
    (hb : KBinds X.K fd ps ks g gV) (hx : Passes cx X E) (hkw : PK X kws tk)
    (hall : (backToKw pos (keywordEach kws X.env)).all (·.1.isSome) = true := by rfl) (hks : (backToKw pos (keywordEach kws X.env)).filterMap (·.1) = ks := by rfl)
    (hdb : (x == ("__debug__" : Str)) = false := by decide)
    (hpl : ((backTo pos (starEach [] X.env)).any (·.1) || (backToKw pos (keywordEach kws X.env)).any (·.1.isNone)) = false := by rfl) :
    PE X (.Call (.Name x p) [] kws pos) (tKw2 sp gV E tk) := by
  constructor
  intro pins s σ H Q I h
  refine wpAny_Call_Name_kw (ld_glob I hg hm ?_ hdb)
  refine PySem.W.callWith_KW0 (h₀ := X.base) I.ok.mod.kin hk hall (thn (hkw.run pos pins s σ H _ I h) ?_) hpl
  rintro ws s2 ⟨zs, H2, J, rz, q⟩
  refine ⟨J.kIn, ?_⟩
  rw [hks]
  exact run_fnk (us := []) (vs := []) F hr hb hx J .nil rz q
end
/-- two by their names, told in the other order -/
def back2 {α : Type} : List α → List α → List α
  | [], [a, b] => [b, a]
  | _, _ => []
theorem back2_rel {vs : List V} {us : List Value} {zs : List V} {ws : List Value} (a : Vals vs us) (b : Vals zs ws) : Vals (back2 vs zs) (back2 us ws) := by
  cases a with
  | cons _ _ => cases b <;> exact .nil
  | nil =>
    cases b with
    | nil => exact .nil
    | cons b1 b => cases b with
      | nil => exact .nil
      | cons b2 b => cases b with
        | nil => exact .cons b2 (.cons b1 .nil)
        | cons _ _ => exact .nil
theorem back2_of {K : PySem.W.Frag} {x qual p0 p1 : Str} {st : Stmt} {f : Addr} {fd : FuncData} (F : Fun K x qual st f fd)
    (h : ∀ (kV doc pm : Value) (an : Option Addr) (cdv ct a b : Value), bindArgs (PySem.W.fnOf x qual (defArgs st) (defBody st) (defScope st) .none kV doc pm an cdv ct) ⟨[], [(p1, a), (p0, b)]⟩ = pure [(p0, b), (p1, a)]) :
    KBinds K fd [p0, p1] [p1, p0] back2 back2 := by
  obtain ⟨oc, od, kV, doc, pm, an, cdv, ct, osl, rfl, lk, hcd⟩ := F.ex
  refine ⟨fun s us ws _ hl => ?_, fun a b => back2_rel a b⟩
  match us, ws, hl with
  | [], [a, b], _ => exact .of_eq (h kV doc pm an cdv ct a b)
end Gd
end

section
set_option Elab.async false
set_option linter.all false
/-! Boxes: slabs of sources, by numbers alone. -/
namespace Bx
abbrev Slab := Nat × Int
def adv (d : List Int) (s : Slab) : List Int := d.set s.1 (d.getD s.1 0 + s.2)
def red (r : List Int) (s : Slab) : List Int := r.set s.1 (r.getD s.1 0 - s.2)
def lft (r : List Int) : List Slab → List Int
  | [] => r
  | s :: ss => lft (red r s) ss
def Leg : List Int → List Slab → Prop
  | _, [] => True
  | r, s :: ss => (0 : Int) ∉ r ∧ s.1 < r.length ∧ 1 ≤ s.2 ∧ s.2 ≤ r.getD s.1 0 ∧ Leg (red r s) ss
/-- all sources stand behind what is done -/
def ge (c d : List Int) : Bool := (c.zip d).all fun p => decide (p.2 ≤ p.1)
def hit (d : List Int) (s : Slab) (c : List Int) : Bool := ge c d && decide (c.getD s.1 0 < d.getD s.1 0 + s.2)
def hits : List Int → List Slab → List Int → Nat → List Nat
  | _, [], _, _ => []
  | d, s :: ss, c, k => if hit d s c then k :: hits (adv d s) ss c (k + 1) else hits (adv d s) ss c (k + 1)
def slabOf (d : List Int) (ss : List Slab) (c : List Int) (k : Nat) : Option Nat := (hits d ss c k).head?
def prod (l : List Int) : Int := l.foldl (· * ·) 1
def cnt (r : List Int) (s : Slab) : Int := s.2 * prod (r.set s.1 1)
def mets : List Int → List Slab → List Int
  | _, [] => []
  | r, s :: ss => cnt r s :: mets (red r s) ss
def dones : List Int → List Slab → List (List Int)
  | _, [] => []
  | d, s :: ss => d :: dones (adv d s) ss

theorem adv_len {d : List Int} {s : Slab} : (adv d s).length = d.length := by simp [adv]
theorem red_len {d : List Int} {s : Slab} : (red d s).length = d.length := by simp [red]
theorem lft_len : ∀ {ss : List Slab} {r : List Int}, (lft r ss).length = r.length
  | [], _ => rfl
  | s :: ss, r => by rw [lft, lft_len, red_len]
theorem getD_set {l : List Int} {i j : Nat} {v : Int} (h : i < l.length) : (l.set i v).getD j 0 = if i = j then v else l.getD j 0 := by
  simp only [List.getD_eq_getElem?_getD, List.getElem?_set]
  by_cases e : i = j
  · subst e
    simp [h]
  · simp [e]
theorem adv_at {d : List Int} {s : Slab} {j : Nat} (h : s.1 < d.length) : (adv d s).getD j 0 = if s.1 = j then d.getD s.1 0 + s.2 else d.getD j 0 := getD_set h
theorem red_at {d : List Int} {s : Slab} {j : Nat} (h : s.1 < d.length) : (red d s).getD j 0 = if s.1 = j then d.getD s.1 0 - s.2 else d.getD j 0 := getD_set h
theorem ge_iff : ∀ {c d : List Int}, c.length = d.length → (ge c d = true ↔ ∀ i, i < d.length → d.getD i 0 ≤ c.getD i 0)
  | [], [], _ => by simp [ge]
  | x :: c, y :: d, h => by
    have ih := ge_iff (c := c) (d := d) (by simpa using h)
    have e : ge (x :: c) (y :: d) = (decide (y ≤ x) && ge c d) := rfl
    rw [e, Bool.and_eq_true, decide_eq_true_eq, ih]
    refine ⟨fun ⟨a, b⟩ i hi => ?_, fun z => ⟨z 0 (by simp), fun i hi => by simpa using z (i + 1) (by simpa using hi)⟩⟩
    cases i with
    | zero => exact a
    | succ i => simpa using b i (by simpa using hi)
  | [], _ :: _, h => by simp at h
  | _ :: _, [], h => by simp at h
/-- what is behind a source stays behind -/
theorem ge_back {c d : List Int} {s : Slab} (hl : c.length = d.length) (hs : s.1 < d.length) (hm : 0 ≤ s.2) (h : ge c (adv d s) = true) : ge c d = true := by
  rw [ge_iff (by rw [adv_len, hl])] at h
  rw [ge_iff hl]
  intro i hi
  have z := h i (by rw [adv_len]; exact hi)
  rw [adv_at hs] at z
  by_cases e : s.1 = i
  · subst e
    rw [if_pos rfl] at z
    omega
  · rwa [if_neg e] at z
/-- whether all slabs name a source and some rows -/
def Fine (n : Nat) (ss : List Slab) : Prop := ∀ s ∈ ss, s.1 < n ∧ 1 ≤ s.2
theorem Leg.fine : ∀ {ss : List Slab} {r : List Int}, Leg r ss → Fine r.length ss
  | [], _, _ => fun s h => nomatch h
  | s :: ss, r, h => by
    obtain ⟨_, a, b, _, k⟩ := h
    intro t ht
    rcases List.mem_cons.mp ht with rfl | ht
    · exact ⟨a, b⟩
    · have := Leg.fine k t ht
      rwa [red_len] at this
theorem hits_none : ∀ {ss : List Slab} {c d : List Int} {k : Nat}, c.length = d.length → Fine d.length ss → ge c d = false → hits d ss c k = []
  | [], _, _, _, _, _, _ => rfl
  | s :: ss, c, d, k, hl, hf, h => by
    obtain ⟨a, b⟩ := hf s (by simp)
    have n1 : hit d s c = false := by
      unfold hit
      rw [h, Bool.false_and]
    have n2 : ge c (adv d s) = false := by
      cases e : ge c (adv d s) with
      | false => rfl
      | true =>
        rw [ge_back hl a (by omega) e] at h
        cases h
    rw [hits, if_neg (by rw [n1]; simp)]
    exact hits_none (by rw [adv_len, hl]) (fun t ht => by rw [adv_len]; exact hf t (by simp [ht])) n2
theorem getD_mem {l : List Int} {i : Nat} (h : i < l.length) : l.getD i 0 ∈ l := by
  rw [List.getD_eq_getElem?_getD, List.getElem?_eq_getElem h]
  exact List.getElem_mem h
theorem mem_getD {l : List Int} {v : Int} (h : v ∈ l) : ∃ i, i < l.length ∧ l.getD i 0 = v := by
  obtain ⟨i, hi, e⟩ := List.mem_iff_getElem.mp h
  exact ⟨i, hi, by rw [List.getD_eq_getElem?_getD, List.getElem?_eq_getElem hi]; exact e⟩
/-- a box: done and left together are the sizes -/
structure Box (z d r : List Int) : Prop where
  ld : d.length = z.length
  lr : r.length = z.length
  sum : ∀ i, i < z.length → d.getD i 0 + r.getD i 0 = z.getD i 0
theorem Box.next {z d r : List Int} {s : Slab} (b : Box z d r) (hs : s.1 < z.length) : Box z (adv d s) (red r s) := by
  refine ⟨by rw [adv_len, b.ld], by rw [red_len, b.lr], fun i hi => ?_⟩
  rw [adv_at (by rw [b.ld]; exact hs), red_at (by rw [b.lr]; exact hs)]
  have h1 := b.sum i hi
  by_cases e : s.1 = i
  · subst e
    rw [if_pos rfl, if_pos rfl]
    omega
  · rw [if_neg e, if_neg e]
    exact h1
theorem zeros_box (z : List Int) : Box z (List.replicate z.length 0) z := by
  refine ⟨by simp, rfl, fun i hi => ?_⟩
  rw [List.getD_eq_getElem?_getD, List.getElem?_replicate]
  simp [hi]
structure Choice (z c : List Int) : Prop where
  len : c.length = z.length
  low : ∀ i, i < z.length → 0 ≤ c.getD i 0
  high : ∀ i, i < z.length → c.getD i 0 < z.getD i 0
/-- each choice behind what is done is met by just one slab -/
theorem hits_one : ∀ {ss : List Slab} {z c d r : List Int} {k : Nat}, Box z d r → Choice z c → ge c d = true → Leg r ss → (0 : Int) ∈ lft r ss → ∃ j, hits d ss c k = [j] ∧ k ≤ j ∧ j < k + ss.length
  | [], z, c, d, r, k, b, hc, hg, _, h0 => by
    exfalso
    obtain ⟨i, hi, e⟩ := mem_getD h0
    have hi : i < r.length := hi
    have e : r.getD i 0 = 0 := e
    rw [b.lr] at hi
    have g := (ge_iff (by rw [hc.len, b.ld])).mp hg i (by rw [b.ld]; exact hi)
    have := b.sum i hi
    have := hc.high i hi
    omega
  | s :: ss, z, c, d, r, k, b, hc, hg, hL, h0 => by
    obtain ⟨n0, a, m1, m2, hL⟩ := hL
    have a' : s.1 < z.length := by rw [← b.lr]; exact a
    have ad : s.1 < d.length := by rw [b.ld]; exact a'
    have hl : c.length = d.length := by rw [hc.len, b.ld]
    have hla : c.length = (adv d s).length := by rw [adv_len, hl]
    have g := (ge_iff hl).mp hg
    by_cases lt : c.getD s.1 0 < d.getD s.1 0 + s.2
    · have n1 : ge c (adv d s) = false := by
        cases e : ge c (adv d s) with
        | false => rfl
        | true =>
          have := (ge_iff hla).mp e s.1 (by rw [adv_len]; exact ad)
          rw [adv_at ad, if_pos rfl] at this
          omega
      have f : Fine (adv d s).length ss := by
        have := Leg.fine hL
        rw [red_len, b.lr, ← b.ld, ← adv_len (s := s)] at this
        exact this
      refine ⟨k, ?_, Nat.le_refl _, by simp only [List.length_cons]; omega⟩
      rw [hits, if_pos (by unfold hit; rw [hg, decide_eq_true lt] <;> rfl), hits_none hla f n1]
    · have n1 : ge c (adv d s) = true := by
        rw [ge_iff hla]
        intro i hi
        rw [adv_len] at hi
        rw [adv_at ad]
        split
        · rename_i e
          rw [← e]
          omega
        · exact g i hi
      obtain ⟨j, e, h1, h2⟩ := hits_one (k := k + 1) (b.next a') hc n1 hL h0
      refine ⟨j, ?_, by omega, by simp only [List.length_cons]; omega⟩
      rw [hits, if_neg (by unfold hit; rw [decide_eq_false lt]; simp)]
      exact e

/-! products -/
theorem foldl_mul : ∀ (l : List Int) (a : Int), l.foldl (· * ·) a = a * prod l
  | [], a => by simp [prod]
  | x :: l, a => by
    show l.foldl (· * ·) (a * x) = a * l.foldl (· * ·) (1 * x)
    rw [foldl_mul l, foldl_mul l (1 * x), Int.one_mul, Int.mul_assoc]
theorem prod_cons (x : Int) (l : List Int) : prod (x :: l) = x * prod l := by
  show l.foldl (· * ·) (1 * x) = _
  rw [foldl_mul, Int.one_mul]
theorem prod_nil : prod [] = 1 := rfl
theorem prod_snoc (l : List Int) (x : Int) : prod (l ++ [x]) = prod l * x := by
  simp [prod, List.foldl_append]
theorem prod_set : ∀ {l : List Int} {i : Nat} {v : Int}, i < l.length → prod (l.set i v) = v * prod (l.set i 1)
  | x :: l, 0, v, _ => by simp [prod_cons]
  | x :: l, i + 1, v, h => by
    have ih := prod_set (l := l) (i := i) (v := v) (by simpa using h)
    simp only [List.set_cons_succ, prod_cons, ih]
    rw [Int.mul_left_comm]
theorem prod_at {l : List Int} {i : Nat} (h : i < l.length) : prod l = l.getD i 0 * prod (l.set i 1) := by
  rw [← prod_set h]
  congr 1
  rw [List.getD_eq_getElem?_getD, List.getElem?_eq_getElem h]
  simp
theorem cnt_diff {r : List Int} {s : Slab} (h : s.1 < r.length) : cnt r s = prod r - prod (red r s) := by
  unfold cnt red
  rw [prod_set (v := r.getD s.1 0 - s.2) h, prod_at h, ← Int.sub_mul]
  congr 1
  omega
theorem prod_zero : ∀ {l : List Int}, (0 : Int) ∈ l → prod l = 0
  | x :: l, h => by
    rw [prod_cons]
    rcases List.mem_cons.mp h with e | h
    · rw [← e, Int.zero_mul]
    · rw [prod_zero h, Int.mul_zero]
theorem sum_mets : ∀ {ss : List Slab} {r : List Int}, Fine r.length ss → (mets r ss).sum = prod r - prod (lft r ss)
  | [], r, _ => by simp [mets, lft]
  | s :: ss, r, h => by
    have f : Fine (red r s).length ss := fun t ht => by rw [red_len]; exact h t (by simp [ht])
    rw [mets, lft, List.sum_cons, sum_mets f, cnt_diff (h s (by simp)).1]
    omega
theorem prod_pos : ∀ {l : List Int}, (∀ x ∈ l, 1 ≤ x) → 1 ≤ prod l
  | [], _ => by simp [prod_nil]
  | x :: l, h => by
    rw [prod_cons]
    have a := h x (by simp)
    have b := prod_pos (l := l) fun y hy => h y (by simp [hy])
    have := Int.mul_le_mul a b (by omega) (by omega)
    omega
theorem prod_le : ∀ {l : List Int} {B : Int}, 1 ≤ B → (∀ x ∈ l, 0 ≤ x ∧ x ≤ B) → 0 ≤ prod l ∧ prod l ≤ B ^ l.length
  | [], B, _, _ => by simp [prod_nil]
  | x :: l, B, hB, h => by
    rw [prod_cons]
    obtain ⟨a, b⟩ := h x (by simp)
    obtain ⟨c, d⟩ := prod_le (l := l) hB fun y hy => h y (by simp [hy])
    refine ⟨Int.mul_nonneg a c, ?_⟩
    rw [List.length_cons, Int.pow_succ, Int.mul_comm]
    exact Int.mul_le_mul d b a (Int.le_trans c d)
/-- all are from 0 to B -/
def In (B : Int) (r : List Int) : Prop := ∀ x ∈ r, 0 ≤ x ∧ x ≤ B
theorem mem_set {l : List Int} {i : Nat} {v x : Int} (h : x ∈ l.set i v) : x = v ∨ x ∈ l := by
  rcases List.mem_or_eq_of_mem_set h with h | h
  · exact .inr h
  · exact .inl h
theorem In.red {B : Int} {r : List Int} {s : Slab} (h : In B r) (hs : s.1 < r.length) (a : 1 ≤ s.2) (b : s.2 ≤ r.getD s.1 0) : In B (red r s) := by
  intro x hx
  rcases mem_set hx with e | hx
  · have := h _ (getD_mem hs)
    omega
  · exact h x hx
theorem cnt_pos {B : Int} {r : List Int} {s : Slab} (h : In B r) (n0 : (0 : Int) ∉ r) (hs : s.1 < r.length) (a : 1 ≤ s.2) : 1 ≤ cnt r s := by
  have p : 1 ≤ prod (r.set s.1 1) := prod_pos fun x hx => by
    rcases mem_set hx with e | hx
    · omega
    · have := h x hx
      have : x ≠ 0 := fun e => n0 (e ▸ hx)
      omega
  have := Int.mul_le_mul a p (by omega) (by omega)
  unfold cnt
  omega
theorem mets_pos : ∀ {ss : List Slab} {B : Int} {r : List Int}, In B r → Leg r ss → ∀ x ∈ mets r ss, 1 ≤ x
  | [], _, _, _, _ => fun x h => nomatch h
  | s :: ss, B, r, h, hL => by
    obtain ⟨n0, a, m1, m2, k⟩ := hL
    intro x hx
    rcases List.mem_cons.mp hx with rfl | hx
    · exact cnt_pos h n0 a m1
    · exact mets_pos (h.red a m1 m2) k x hx
theorem lft_in : ∀ {ss : List Slab} {B : Int} {r : List Int}, In B r → Leg r ss → In B (lft r ss)
  | [], _, _, h, _ => h
  | s :: ss, B, r, h, hL => by
    have k := h.red hL.2.1 hL.2.2.1 hL.2.2.2.1
    exact lft_in (ss := ss) k hL.2.2.2.2
theorem dones_len : ∀ {ss : List Slab} {d : List Int}, (dones d ss).length = ss.length
  | [], _ => rfl
  | s :: ss, d => by simp [dones, dones_len]
theorem mets_len : ∀ {ss : List Slab} {d : List Int}, (mets d ss).length = ss.length
  | [], _ => rfl
  | s :: ss, d => by simp [mets, mets_len]
/-- one more slab -/
theorem lft_snoc : ∀ {ss : List Slab} {r : List Int} {s : Slab}, lft r (ss ++ [s]) = red (lft r ss) s
  | [], _, _ => rfl
  | t :: ss, r, s => lft_snoc (ss := ss)
theorem Leg.snoc : ∀ {ss : List Slab} {r : List Int} {s : Slab}, Leg r ss → (0 : Int) ∉ lft r ss → s.1 < r.length → 1 ≤ s.2 → s.2 ≤ (lft r ss).getD s.1 0 → Leg r (ss ++ [s])
  | [], _, _, _, a, b, c, d => ⟨a, b, c, d, trivial⟩
  | t :: ss, r, s, h, a, b, c, d => ⟨h.1, h.2.1, h.2.2.1, h.2.2.2.1, Leg.snoc (ss := ss) h.2.2.2.2 a (by rw [red_len]; exact b) c d⟩
theorem dones_at : ∀ {ss : List Slab} {d : List Int} {i : Nat} {s : Slab}, ss[i]? = some s → ∃ e, (dones d ss)[i]? = some e ∧ e.length = d.length
  | t :: ss, d, 0, s, h => ⟨d, rfl, rfl⟩
  | t :: ss, d, i + 1, s, h => by
    obtain ⟨e, a, b⟩ := dones_at (ss := ss) (d := adv d t) (i := i) (by simpa using h)
    exact ⟨e, by simpa [dones] using a, by rw [b, adv_len]⟩
end Bx
end

section
set_option Elab.async false
set_option linter.all false
namespace Bx
/-- slabs as far as there are rows, whoever is through -/
def Leg0 : List Int → List Slab → Prop
  | _, [] => True
  | r, s :: ss => s.1 < r.length ∧ 1 ≤ s.2 ∧ s.2 ≤ r.getD s.1 0 ∧ Leg0 (red r s) ss
theorem Leg.weak : ∀ {ss : List Slab} {r : List Int}, Leg r ss → Leg0 r ss
  | [], _, _ => trivial
  | s :: ss, r, h => ⟨h.2.1, h.2.2.1, h.2.2.2.1, Leg.weak (ss := ss) h.2.2.2.2⟩
theorem Leg0.fine : ∀ {ss : List Slab} {r : List Int}, Leg0 r ss → Fine r.length ss
  | [], _, _ => fun s h => nomatch h
  | s :: ss, r, h => by
    obtain ⟨a, b, _, k⟩ := h
    intro t ht
    rcases List.mem_cons.mp ht with rfl | ht
    · exact ⟨a, b⟩
    · have := Leg0.fine k t ht
      rwa [red_len] at this
theorem mets_snoc : ∀ {ss : List Slab} {r : List Int} {s : Slab}, mets r (ss ++ [s]) = mets r ss ++ [cnt (lft r ss) s]
  | [], _, _ => rfl
  | t :: ss, r, s => by
    show cnt r t :: mets (red r t) (ss ++ [s]) = _
    rw [mets_snoc]
    rfl
/-- what holds ahead of each slab -/
theorem Leg0.at_ : ∀ {ss : List Slab} {B : Int} {r : List Int} {i : Nat} {s : Slab}, In B r → Leg0 r ss → ss[i]? = some s →
    In B (lft r (ss.take i)) ∧ s.1 < (lft r (ss.take i)).length ∧ 1 ≤ s.2 ∧ s.2 ≤ (lft r (ss.take i)).getD s.1 0
  | t :: ss, B, r, 0, s, h, k, e => by
    cases Option.some.inj e
    exact ⟨h, k.1, k.2.1, k.2.2.1⟩
  | t :: ss, B, r, i + 1, s, h, k, e => Leg0.at_ (ss := ss) (i := i) (h.red k.1 k.2.1 k.2.2.1) k.2.2.2 (by simpa using e)
theorem Leg0.here : ∀ {ss : List Slab} {r : List Int} {i : Nat} {s : Slab}, Leg0 r ss → ss[i]? = some s →
    s.1 < (lft r (ss.take i)).length ∧ 1 ≤ s.2 ∧ s.2 ≤ (lft r (ss.take i)).getD s.1 0
  | t :: ss, r, 0, s, k, e => by
    cases Option.some.inj e
    exact ⟨k.1, k.2.1, k.2.2.1⟩
  | t :: ss, r, i + 1, s, k, e => Leg0.here (ss := ss) (i := i) k.2.2.2 (by simpa using e)
theorem Leg.at_ : ∀ {ss : List Slab} {r : List Int} {i : Nat} {s : Slab}, Leg r ss → ss[i]? = some s → (0 : Int) ∉ lft r (ss.take i)
  | t :: ss, r, 0, s, k, e => k.1
  | t :: ss, r, i + 1, s, k, e => Leg.at_ (ss := ss) (i := i) k.2.2.2.2 (by simpa using e)
/-- the rows of the others so far -/
def oth (r : List Int) (k j : Nat) : Int := prod ((r.set k 1).take j)
theorem oth_zero (r : List Int) (k : Nat) : oth r k 0 = 1 := rfl
theorem oth_at {r : List Int} {k j : Nat} (h : j < r.length) : oth r k (j + 1) = if j = k then oth r k j else oth r k j * r.getD j 0 := by
  have e : (r.set k 1)[j]? = some (if j = k then 1 else r.getD j 0) := by
    rw [List.getElem?_set]
    by_cases z : k = j
    · subst z
      simp [h]
    · rw [if_neg z, if_neg (fun e => z e.symm), List.getD_eq_getElem?_getD, List.getElem?_eq_getElem h] <;> rfl
  unfold oth
  rw [List.take_add_one, e]
  show prod (_ ++ [_]) = _
  rw [prod_snoc]
  split <;> simp
theorem oth_all (r : List Int) (k : Nat) : oth r k r.length = prod (r.set k 1) := by
  unfold oth
  rw [List.take_of_length_le (by simp)]
end Bx
end

section
set_option Elab.async false
set_option linter.all false
namespace Bx
theorem sum_set : ∀ {l : List Int} {i : Nat} {v : Int}, i < l.length → (l.set i v).sum = l.sum - l.getD i 0 + v
  | x :: l, 0, v, _ => by
    simp only [List.set_cons_zero, List.sum_cons, List.getD_cons_zero]
    omega
  | x :: l, i + 1, v, h => by
    have ih := sum_set (l := l) (i := i) (v := v) (by simpa using h)
    simp only [List.set_cons_succ, List.sum_cons, List.getD_cons_succ, ih]
    omega
theorem sum_red {r : List Int} {s : Slab} (h : s.1 < r.length) : (red r s).sum = r.sum - s.2 := by
  unfold red
  rw [sum_set h]
  omega
theorem In.sum : ∀ {B : Int} {r : List Int}, 0 ≤ B → In B r → 0 ≤ r.sum ∧ r.sum ≤ B * r.length
  | B, [], _, _ => by simp
  | B, x :: r, hB, h => by
    obtain ⟨a, b⟩ := h x (by simp)
    obtain ⟨c, d⟩ := In.sum (r := r) hB fun y hy => h y (by simp [hy])
    simp only [List.sum_cons, List.length_cons]
    refine ⟨by omega, ?_⟩
    have : B * ((r.length + 1 : Nat) : Int) = B * r.length + B := by
      rw [Int.natCast_add, Int.mul_add]
      simp
    omega
theorem In.mono {B C : Int} {r : List Int} (h : In B r) (l : B ≤ C) : In C r := fun x hx => by
  have := h x hx
  omega
theorem fdiv2 (n : Int) : n.fdiv 2 = n / 2 := Int.fdiv_eq_ediv_of_nonneg n (by omega)
end Bx
namespace Bx
def dn (d : List Int) : List Slab → List Int
  | [] => d
  | s :: ss => dn (adv d s) ss
theorem dn_len : ∀ {ss : List Slab} {d : List Int}, (dn d ss).length = d.length
  | [], _ => rfl
  | s :: ss, d => by rw [dn, dn_len, adv_len]
theorem dn_snoc : ∀ {ss : List Slab} {d : List Int} {s : Slab}, dn d (ss ++ [s]) = adv (dn d ss) s
  | [], _, _ => rfl
  | t :: ss, d, s => dn_snoc (ss := ss)
theorem dones_snoc : ∀ {ss : List Slab} {d : List Int} {s : Slab}, dones d (ss ++ [s]) = dones d ss ++ [dn d ss]
  | [], _, _ => rfl
  | t :: ss, d, s => by
    show d :: dones (adv d t) (ss ++ [s]) = _
    rw [dones_snoc]
    rfl
theorem hits_snoc : ∀ {ss : List Slab} {d c : List Int} {s : Slab} {k : Nat}, hits d (ss ++ [s]) c k = hits d ss c k ++ (if hit (dn d ss) s c then [k + ss.length] else [])
  | [], d, c, s, k => by
    show hits d (s :: []) c k = _
    rw [hits, hits, hits, dn]
    split <;> simp
  | t :: ss, d, c, s, k => by
    show hits d (t :: (ss ++ [s])) c k = _
    rw [hits, hits, hits_snoc, dn]
    rw [show k + 1 + ss.length = k + (t :: ss).length by simp only [List.length_cons]; omega]
    split <;> simp
theorem dones_at2 : ∀ {ss : List Slab} {d : List Int} {i : Nat} {s : Slab}, ss[i]? = some s → (dones d ss)[i]? = some (dn d (ss.take i))
  | t :: ss, d, 0, s, h => rfl
  | t :: ss, d, i + 1, s, h => by
    have := dones_at2 (ss := ss) (d := adv d t) (i := i) (by simpa using h)
    simpa [dones, dn] using this
theorem box_take : ∀ {ss : List Slab} {z d r : List Int} (i : Nat), Box z d r → Fine z.length ss → Box z (dn d (ss.take i)) (lft r (ss.take i))
  | _, z, d, r, 0, b, _ => b
  | [], z, d, r, i + 1, b, _ => b
  | s :: ss, z, d, r, i + 1, b, f => by
    simp only [List.take_succ_cons, dn, lft]
    exact box_take (ss := ss) i (b.next (f s (by simp)).1) fun t ht => f t (by simp [ht])
end Bx
namespace Bx
theorem hits_take {ss : List Slab} {d c : List Int} {i : Nat} {s : Slab} (h : ss[i]? = some s) : hits d (ss.take (i + 1)) c 0 = hits d (ss.take i) c 0 ++ (if hit (dn d (ss.take i)) s c then [i] else []) := by
  have lt : i < ss.length := (List.getElem?_eq_some_iff.mp h).1
  rw [List.take_add_one, h]
  show hits d (ss.take i ++ [s]) c 0 = _
  rw [hits_snoc, List.length_take, show 0 + min i ss.length = i by omega]
theorem set_in {B : Int} {r : List Int} {k : Nat} (hB : 1 ≤ B) (h : In B r) : ∀ x ∈ r.set k 1, 0 ≤ x ∧ x ≤ B := fun x hx => by
  rcases mem_set hx with e | hx
  · omega
  · exact h x hx
theorem mets_bound : ∀ {ss : List Slab} {B : Int} {r : List Int}, 1 ≤ B → In B r → Leg0 r ss → ∀ x ∈ mets r ss, 0 ≤ x ∧ x ≤ B * B ^ r.length
  | [], _, _, _, _, _ => fun x h => nomatch h
  | s :: ss, B, r, hB, h, hL => by
    obtain ⟨a, m1, m2, k⟩ := hL
    intro x hx
    rcases List.mem_cons.mp hx with rfl | hx
    · obtain ⟨p0, p1⟩ := prod_le hB (set_in (k := s.1) hB h)
      rw [List.length_set] at p1
      have hb := h _ (getD_mem a)
      unfold cnt
      exact ⟨Int.mul_nonneg (by omega) p0, Int.mul_le_mul (by omega) p1 p0 (by omega)⟩
    · have := mets_bound hB (h.red a m1 m2) k x hx
      rwa [red_len] at this
end Bx
end

section
set_option Elab.async false
set_option linter.all false
set_option maxRecDepth 100000
set_option maxHeartbeats 4000000
/-! Whole slabs: as they are looked at one by one, and by how many rows of each source are done. -/
namespace Bx
/-- how many rows of source i some slabs do -/
def dnS (i : Nat) (ss : List Slab) : Int := ((ss.filter fun s => decide (s.1 = i)).map (·.2)).sum
def dnL (n : Nat) (ss : List Slab) : List Int := (List.range n).map fun i => dnS i ss
theorem dnS_cons {i : Nat} {s : Slab} {ss : List Slab} : dnS i (s :: ss) = (if s.1 = i then s.2 else 0) + dnS i ss := by
  unfold dnS
  by_cases h : s.1 = i
  · rw [List.filter_cons_of_pos (by simpa using h), List.map_cons, List.sum_cons, if_pos h]
  · rw [List.filter_cons_of_neg (by simpa using h), if_neg h, Int.zero_add]
theorem dnS_nil {i : Nat} : dnS i [] = 0 := rfl
theorem Fine.tail {n : Nat} {s : Slab} {ss : List Slab} (f : Fine n (s :: ss)) : Fine n ss := fun t m => f t (List.mem_cons_of_mem _ m)
theorem Fine.head {n : Nat} {s : Slab} {ss : List Slab} (f : Fine n (s :: ss)) : s.1 < n ∧ 1 ≤ s.2 := f s (List.mem_cons_self ..)
theorem dnS_nonneg {n i : Nat} : ∀ {ss : List Slab}, Fine n ss → 0 ≤ dnS i ss
  | [], _ => Int.le_refl _
  | s :: ss, f => by
    have ih := dnS_nonneg (i := i) f.tail
    have h := f.head
    rw [dnS_cons]
    split <;> omega
theorem dnS_drop {n i : Nat} : ∀ {ss : List Slab}, Fine n ss → dnS i ss.dropLast ≤ dnS i ss
  | [], _ => Int.le_refl _
  | [s], f => by
    have h := f.head
    rw [dnS_cons]
    show (0 : Int) ≤ _
    rw [dnS_nil]
    split <;> omega
  | s :: t :: ss, f => by
    have ih := dnS_drop (i := i) f.tail
    rw [List.dropLast_cons_of_ne_nil (by simp), dnS_cons, dnS_cons]
    omega
theorem Fine.drop {n : Nat} {ss : List Slab} (f : Fine n ss) : Fine n ss.dropLast := fun t m => f t (List.dropLast_subset _ m)
/-- one by one -/
def okW : List Int → List Slab → Bool
  | r, [] => decide ((0 : Int) ∈ r)
  | r, s :: ss => !decide ((0 : Int) ∈ r) && (decide (s.2 ≤ r.getD s.1 0) && okW (red r s) ss)
theorem zero_mem {r : List Int} : (0 : Int) ∈ r ↔ ∃ i, i < r.length ∧ r.getD i 0 = 0 :=
  ⟨fun h => mem_getD h, fun ⟨i, hi, e⟩ => e ▸ getD_mem hi⟩
theorem okW_iff : ∀ {ss : List Slab} {r : List Int}, Fine r.length ss → (∀ i, i < r.length → 0 ≤ r.getD i 0) →
    (okW r ss = true ↔ (∀ i, i < r.length → dnS i ss ≤ r.getD i 0) ∧ (∃ i, i < r.length ∧ dnS i ss = r.getD i 0) ∧ (ss = [] ∨ ∀ i, i < r.length → dnS i ss.dropLast ≠ r.getD i 0))
  | [], r, _, h0 => by
    unfold okW
    rw [decide_eq_true_eq, zero_mem]
    refine ⟨fun ⟨i, hi, e⟩ => ⟨h0, ⟨i, hi, e.symm⟩, .inl rfl⟩, fun ⟨_, ⟨i, hi, e⟩, _⟩ => ⟨i, hi, e.symm⟩⟩
  | s :: ss, r, f, h0 => by
    have hs := f.head
    have ra : ∀ j, (red r s).getD j 0 = if s.1 = j then r.getD s.1 0 - s.2 else r.getD j 0 := fun j => red_at hs.1
    have rl : (red r s).length = r.length := red_len
    have f2 : Fine (red r s).length ss := by rw [rl]; exact f.tail
    unfold okW
    rw [Bool.and_eq_true, Bool.and_eq_true, Bool.not_eq_true', decide_eq_false_iff_not, decide_eq_true_eq, zero_mem]
    have eq1 : ∀ i, (dnS i (s :: ss) ≤ r.getD i 0 ↔ dnS i ss ≤ (red r s).getD i 0) := fun i => by
      rw [dnS_cons, ra]
      split
      · rename_i e; subst e; omega
      · omega
    have eq2 : ∀ i, (dnS i (s :: ss) = r.getD i 0 ↔ dnS i ss = (red r s).getD i 0) := fun i => by
      rw [dnS_cons, ra]
      split
      · rename_i e; subst e; omega
      · omega
    have eq3 : ∀ i, (dnS i (s :: ss.dropLast) = r.getD i 0 ↔ dnS i ss.dropLast = (red r s).getD i 0) := fun i => by
      rw [dnS_cons, ra]
      split
      · rename_i e; subst e; omega
      · omega
    constructor
    · rintro ⟨n0, le, ok⟩
      have h2 : ∀ i, i < (red r s).length → 0 ≤ (red r s).getD i 0 := fun i hi => by
        rw [ra]
        split
        · omega
        · exact h0 i (by omega)
      obtain ⟨a, ⟨j, hj, ej⟩, c⟩ := (okW_iff f2 h2).mp ok
      refine ⟨fun i hi => (eq1 i).mpr (a i (by omega)), ⟨j, by omega, (eq2 j).mpr ej⟩, .inr fun i hi => ?_⟩
      cases ss with
      | nil =>
        intro e
        exact n0 ⟨i, hi, e.symm⟩
      | cons t ts =>
        rw [List.dropLast_cons_of_ne_nil (by simp)]
        intro e
        rcases c with c | c
        · cases c
        · exact c i (by omega) ((eq3 i).mp e)
    · rintro ⟨a, ⟨j, hj, ej⟩, c⟩
      have c : ∀ i, i < r.length → dnS i (s :: ss).dropLast ≠ r.getD i 0 := by
        rcases c with c | c
        · cases c
        · exact c
      have le : s.2 ≤ r.getD s.1 0 := by
        have z := a s.1 hs.1
        rw [dnS_cons, if_pos rfl] at z
        have := dnS_nonneg (i := s.1) f.tail
        omega
      refine ⟨?_, le, ?_⟩
      · rintro ⟨i, hi, e⟩
        have z := dnS_drop (i := i) f
        have y := dnS_nonneg (i := i) f.drop
        have := a i hi
        exact c i hi (by omega)
      · have h2 : ∀ i, i < (red r s).length → 0 ≤ (red r s).getD i 0 := fun i hi => by
          rw [ra]
          split
          · omega
          · exact h0 i (by omega)
        refine (okW_iff f2 h2).mpr ⟨fun i hi => (eq1 i).mp (a i (by omega)), ⟨j, by omega, (eq2 j).mp ej⟩, ?_⟩
        cases ss with
        | nil => exact .inl rfl
        | cons t ts =>
          refine .inr fun i hi e => ?_
          have z := c i (by omega)
          rw [List.dropLast_cons_of_ne_nil (by simp)] at z
          exact z ((eq3 i).mpr e)
/-- beside how many are done -/
def beside (z : List Int) (ss : List Slab) : List (Int × Int) := z.zip (dnL z.length ss)
def gtP (p : Int × Int) : Bool := decide (p.2 > p.1)
def eqP (p : Int × Int) : Bool := decide (p.2 = p.1)
def dueW (z : List Int) (ss : List Slab) : Bool :=
  ((beside z ss).filter gtP).isEmpty && (!((beside z ss).filter eqP).isEmpty && (ss.isEmpty || ((beside z ss.dropLast).filter eqP).isEmpty))
theorem dnL_len {n : Nat} {ss : List Slab} : (dnL n ss).length = n := by simp [dnL]
theorem dnL_at {n i : Nat} {ss : List Slab} (h : i < n) : (dnL n ss)[i]? = some (dnS i ss) := by simp [dnL, h]
theorem beside_len {z : List Int} {ss : List Slab} : (beside z ss).length = z.length := by simp [beside, dnL_len]
theorem beside_at {z : List Int} {ss : List Slab} {i : Nat} (h : i < z.length) : (beside z ss)[i]? = some (z.getD i 0, dnS i ss) := by
  unfold beside
  rw [List.getElem?_zip_eq_some]
  refine ⟨?_, dnL_at h⟩
  rw [List.getD_eq_getElem?_getD, List.getElem?_eq_getElem h] <;> rfl
theorem mem_beside {z : List Int} {ss : List Slab} {x : Int × Int} : x ∈ beside z ss ↔ ∃ i, i < z.length ∧ x = (z.getD i 0, dnS i ss) := by
  constructor
  · intro m
    obtain ⟨i, e⟩ := List.getElem?_of_mem m
    have hi : i < z.length := by
      have := (List.getElem?_eq_some_iff.mp e).1
      rw [beside_len] at this
      exact this
    rw [beside_at hi] at e
    exact ⟨i, hi, (Option.some.inj e).symm⟩
  · rintro ⟨i, hi, rfl⟩
    exact List.mem_of_getElem? (beside_at hi)
theorem none_of {p : Int × Int → Bool} {l : List (Int × Int)} : (l.filter p).isEmpty = true ↔ ∀ x ∈ l, p x = false := by
  rw [List.isEmpty_iff, List.filter_eq_nil_iff]
  exact ⟨fun h x m => Bool.eq_false_iff.mpr (h x m), fun h x m => Bool.eq_false_iff.mp (h x m)⟩
theorem dueW_eq {z : List Int} {ss : List Slab} (f : Fine z.length ss) (h0 : ∀ i, i < z.length → 0 ≤ z.getD i 0) : dueW z ss = okW z ss := by
  refine Bool.eq_iff_iff.mpr ?_
  rw [okW_iff f h0]
  unfold dueW
  have h1 : ((beside z ss).filter gtP).isEmpty = true ↔ ∀ i, i < z.length → dnS i ss ≤ z.getD i 0 := by
    rw [none_of]
    constructor
    · intro h i hi
      have := h _ (mem_beside.mpr ⟨i, hi, rfl⟩)
      have := of_decide_eq_false this
      dsimp only at this
      omega
    · rintro h x m
      obtain ⟨i, hi, rfl⟩ := mem_beside.mp m
      have := h i hi
      exact decide_eq_false (by dsimp only; omega)
  have h2 : ∀ ss : List Slab, ((beside z ss).filter eqP).isEmpty = true ↔ ∀ i, i < z.length → dnS i ss ≠ z.getD i 0 := fun ss => by
    rw [none_of]
    constructor
    · intro h i hi
      exact of_decide_eq_false (h _ (mem_beside.mpr ⟨i, hi, rfl⟩))
    · rintro h x m
      obtain ⟨i, hi, rfl⟩ := mem_beside.mp m
      exact decide_eq_false (h i hi)
  rw [Bool.and_eq_true, Bool.and_eq_true, Bool.or_eq_true, h1, h2, Bool.not_eq_true', List.isEmpty_iff, ← Bool.not_eq_true, h2]
  refine and_congr Iff.rfl (and_congr ⟨fun h => ?_, fun ⟨i, hi, e⟩ h => h i hi e⟩ Iff.rfl)
  exact Classical.byContradiction fun n => h fun i hi e => n ⟨i, hi, e⟩
end Bx
end

section
set_option Elab.async false
set_option linter.all false
set_option maxRecDepth 100000
set_option maxHeartbeats 4000000
/-! Things that may be slabs: data, and a dict of a list; kinds, slabs among data. -/
namespace Gd
open PySem PySem.Spec PyProof.Rows L2 Bx
def isTu : PyData → Bool
  | .tuple _ => true
  | _ => false
def isLi : PyData → Bool
  | .list _ => true
  | _ => false
def isIn : PyData → Bool
  | .int _ => true
  | .bool _ => true
  | _ => false
def isBo : PyData → Bool
  | .bool _ => true
  | _ => false
theorem q_tup : ∀ d : PyData, kitB (kindN d) "tuple" = some (isTu d)
  | .none => show kitB "NoneType" "tuple" = some false by decide +kernel
  | .bool _ => show kitB "bool" "tuple" = some false by decide +kernel
  | .int _ => show kitB "int" "tuple" = some false by decide +kernel
  | .str _ => show kitB "str" "tuple" = some false by decide +kernel
  | .list _ => show kitB "list" "tuple" = some false by decide +kernel
  | .tuple _ => show kitB "tuple" "tuple" = some true by decide +kernel
  | .dict _ => show kitB "dict" "tuple" = some false by decide +kernel
theorem q_lst : ∀ d : PyData, kitB (kindN d) "list" = some (isLi d)
  | .none => show kitB "NoneType" "list" = some false by decide +kernel
  | .bool _ => show kitB "bool" "list" = some false by decide +kernel
  | .int _ => show kitB "int" "list" = some false by decide +kernel
  | .str _ => show kitB "str" "list" = some false by decide +kernel
  | .list _ => show kitB "list" "list" = some true by decide +kernel
  | .tuple _ => show kitB "tuple" "list" = some false by decide +kernel
  | .dict _ => show kitB "dict" "list" = some false by decide +kernel
theorem q_int : ∀ d : PyData, kitB (kindN d) "int" = some (isIn d)
  | .none => show kitB "NoneType" "int" = some false by decide +kernel
  | .bool _ => show kitB "bool" "int" = some true by decide +kernel
  | .int _ => show kitB "int" "int" = some true by decide +kernel
  | .str _ => show kitB "str" "int" = some false by decide +kernel
  | .list _ => show kitB "list" "int" = some false by decide +kernel
  | .tuple _ => show kitB "tuple" "int" = some false by decide +kernel
  | .dict _ => show kitB "dict" "int" = some false by decide +kernel
theorem q_boo : ∀ d : PyData, kitB (kindN d) "bool" = some (isBo d)
  | .none => show kitB "NoneType" "bool" = some false by decide +kernel
  | .bool _ => show kitB "bool" "bool" = some true by decide +kernel
  | .int _ => show kitB "int" "bool" = some false by decide +kernel
  | .str _ => show kitB "str" "bool" = some false by decide +kernel
  | .list _ => show kitB "list" "bool" = some false by decide +kernel
  | .tuple _ => show kitB "tuple" "bool" = some false by decide +kernel
  | .dict _ => show kitB "dict" "bool" = some false by decide +kernel
/-- a whole number, no truth -/
def isWh : PyData → Bool
  | .int _ => true
  | _ => false
theorem isWh_eq (d : PyData) : (isIn d && !isBo d) = isWh d := by cases d <;> rfl
theorem isWh_int {K : PySem.W.Frag} {H : Hp} {N : Addr → Prop} {v : V} {d : PyData} (hd : Dd K H N v d) (e : isWh d = true) : ∃ i, d = .int i ∧ v = .int i := by
  cases hd with
  | int i => exact ⟨i, rfl, rfl⟩
  | bl b => exact absurd e Bool.false_ne_true
  | non => exact absurd e Bool.false_ne_true
  | str _ => exact absurd e Bool.false_ne_true
  | lst _ _ _ _ => exact absurd e Bool.false_ne_true
  | tup _ _ => exact absurd e Bool.false_ne_true
  | dct0 _ _ => exact absurd e Bool.false_ne_true
  | dct1 _ _ => exact absurd e Bool.false_ne_true

/-! a dict of a list -/
def DL (K : PySem.W.Frag) (H : Hp) (N : Addr → Prop) (v : V) (d : PyData) : Prop :=
  ∃ (a b : Addr) (x : Str) (xs : List V) (ds : List PyData), v = .ref a ∧ H a = some (.dK [(Sum.inr x, .ref b)]) ∧ ¬ N a ∧ Dd K H N (.ref b) (.list ds) ∧ H b = some (.lst xs) ∧ d = .dict [(.str x, .list ds)]
/-- a thing -/
def Th (K : PySem.W.Frag) (H : Hp) (N : Addr → Prop) (v : V) (d : PyData) : Prop := Dd K H N v d ∨ DL K H N v d
section
variable {K : PySem.W.Frag} {H H' : Hp} {N N' : Addr → Prop}
theorem Th.kind {v : V} {d : PyData} (h : Th K H N v d) : TyX K H v (.type (kindN d)) := by
  rcases h with h | ⟨a, b, x, xs, ds, rfl, e, _, _, _, rfl⟩
  · exact h.kind
  · exact .base (.dK e)
theorem Th.lst {v : V} {ds : List PyData} (h : Th K H N v (.list ds)) : ∃ a xs, v = .ref a ∧ H a = some (.lst xs) ∧ DdAll K H N xs ds := by
  rcases h with h | ⟨a, b, x, xs, es, _, _, _, _, _, e⟩
  · cases h with
    | lst a n g k => exact ⟨_, _, rfl, a, k⟩
  · cases e
theorem DL.stay (t : Tups K H H') (x : ∀ a o, ¬ N a → H a = some o → H' a = some o) (m : ∀ a, N' a → N a) {v : V} {d : PyData} (h : DL K H N v d) : DL K H' N' v d := by
  obtain ⟨a, b, y, xs, ds, rfl, e, n, k, eb, rfl⟩ := h
  have nb : ¬ N b := by
    cases k with
    | lst _ n _ _ => exact n
  exact ⟨a, b, y, xs, ds, rfl, x _ _ n e, fun z => n (m _ z), Dd.stay t x m _ k, x _ _ nb eb, rfl⟩
theorem Th.stay (t : Tups K H H') (x : ∀ a o, ¬ N a → H a = some o → H' a = some o) (m : ∀ a, N' a → N a) {v : V} {d : PyData} (h : Th K H N v d) : Th K H' N' v d :=
  h.elim (fun h => .inl (Dd.stay t x m d h)) (fun h => .inr (h.stay t x m))
theorem Th.same {v : V} {d : PyData} (s : Same H H') (h : Th K H N v d) : Th K H' N v d := h.stay (Tups.of_same s) (fun a o _ e => s a o e) (fun _ z => z)
end
section
variable {X : Cx} {pins : List (Addr × Obj)} {σ : L2.St} {H : Hp} {s : Shared} {N : Addr → Prop}
theorem DL.reads (I : Inv X pins σ H s) {v : V} {u : Value} {d : PyData} (h : DL X.K H N v d) (r : RelV v u) : ∃ as, Reads s.heap u d as ∧ sysModules ∉ as := by
  obtain ⟨a, b, x, xs, ds, rfl, e, n, k, eb, rfl⟩ := h
  cases r
  obtain ⟨g, vs, kv, o, es, ep, ho, ex, hd, ks, ps, _⟩ := dk_reads I e
  cases kv with
  | @cons _ q _ _ r0 rest =>
  cases rest
  obtain ⟨qk, qv⟩ := q
  obtain ⟨rk, rv⟩ := r0
  dsimp only at rk rv
  subst rk
  cases hes : es.toList with
  | nil =>
    rw [hes] at ps
    cases ps
  | cons z zs =>
    rw [hes] at ps
    cases ps with
    | cons p1 p2 p3 =>
    cases p3
    obtain ⟨tk, ek⟩ : ∃ tk, z.key = .str x tk := by
      have p1 : keyIs (Sum.inr x) z.key = true := p1
      rcases keyIs_shape p1 with ⟨i, t, h1, h2⟩ | ⟨y, t, h1, h2⟩
      · cases h1
      · cases h1
        exact ⟨t, h2⟩
    obtain ⟨as, rd, hn⟩ := Dd.reads I (.list ds) _ qv k rv
    refine ⟨_, .dict (as := [] ++ []) (bs := as ++ []) ho ex.1 hd ?_ ?_, fun m => ?_⟩
    · rw [hes]
      show ReadsAll s.heap [z.key] [.str x] _
      rw [ek]
      exact .cons (.str x tk) .nil
    · rw [hes]
      show ReadsAll s.heap [z.val] [.list ds] _
      rw [p2]
      exact .cons rd .nil
    · rcases List.mem_cons.mp m with m | m
      · rw [← m] at g
        simp at g
      · simp only [List.append_nil, List.nil_append] at m
        exact hn m
theorem Th.reads (I : Inv X pins σ H s) {v : V} {u : Value} {d : PyData} (h : Th X.K H N v d) (r : RelV v u) : ∃ as, Reads s.heap u d as ∧ sysModules ∉ as :=
  h.elim (fun h => Dd.reads I d v u h r) (fun h => h.reads I r)
/-- repr of (ints, a thing) -/
def rReprT (K : PySem.W.Frag) : List V → Hp → VK → Prop := fun xs H Q => ∃ (t a : Addr) (v : V) (z : List Int) (d : PyData) (N : Addr → Prop), xs = [.ref t] ∧ SqT K H t [.ref a, v] ∧ H a = some (.lst (z.map V.int)) ∧ a ≠ sysModules ∧ Th K H N v d ∧
  (PyData.tuple [.list (z.map .int), d]).showable = true ∧ (PyData.tuple [.list (z.map .int), d]).shown.length ≤ sizeLine ∧ (PyData.tuple [.list (z.map .int), d]).depth ≤ 60 ∧ Q (.str (PyData.tuple [.list (z.map .int), d]).shown) H
theorem ints_dd {K : PySem.W.Frag} {H : Hp} {N : Addr → Prop} : ∀ ns : List Int, DdAll K H N (ns.map V.int) (ns.map .int)
  | [] => .nil
  | i :: ns => .cons (.int i) (ints_dd ns)
theorem call_reprT (g : Free X.A) (hu : X.A.units + 64 < cLine) : CallR X (.builtin "repr") (rReprT X.K) := by
  intro pins s σ H xs us Q I r h
  obtain ⟨t, a, v, z, d, N, rfl, ht, ea, ga, hd, hs, hz, hdp, q⟩ := h
  obtain ⟨u, rfl, ru⟩ := r.one
  cases ru
  obtain ⟨its, rv, pl, _⟩ := I.tuple ht
  obtain ⟨u1, u2, rfl, r1, r2⟩ := vals2 rv
  obtain ⟨as, rd, hn⟩ := Dd.reads I (.list (z.map .int)) (.ref a) u1 (.lst (N := fun _ => False) ea id ga (ints_dd z)) r1
  obtain ⟨bs, rd2, hn2⟩ := hd.reads I r2
  obtain ⟨o2, ho2, hc2, n2, hd2⟩ := pl
  have R : Reads s.heap (.ref t) (.tuple [.list (z.map .int), d]) (as ++ (bs ++ [])) := .tuple ho2 hc2 hd2 (.cons rd (.cons rd2 .nil))
  refine repr_of_reads' R hs (fun _ m => ?_) g (by omega) (fun _ _ e => e) (fun h' u tk k => ⟨.str _, H, I.kept k, ⟨u, rfl⟩, q⟩) hz
  rcases List.mem_append.mp m with m | m
  · exact hn m
  · rw [List.append_nil] at m
    exact hn2 m
end

/-! slabs among data -/
def sD (s : Slab) : PyData := .tuple [.int (s.1 : Nat), .int s.2]
def asSlab (n : Nat) : PyData → Option Slab
  | .tuple ds => match ds with
    | [.int a, .int m] => if 0 ≤ a ∧ a < n ∧ 1 ≤ m then some (a.toNat, m) else none
    | _ => none
  | _ => none
theorem asSlab_sD {n : Nat} {s : Slab} (h : s.1 < n ∧ 1 ≤ s.2) : asSlab n (sD s) = some s := by
  show (if (0 : Int) ≤ ((s.1 : Nat) : Int) ∧ ((s.1 : Nat) : Int) < (n : Int) ∧ 1 ≤ s.2 then some (((s.1 : Nat) : Int).toNat, s.2) else none) = some s
  rw [if_pos ⟨by omega, by omega, h.2⟩]
  rfl
theorem asSlab_some {n : Nat} {d : PyData} {s : Slab} (h : asSlab n d = some s) : d = sD s ∧ s.1 < n ∧ 1 ≤ s.2 := by
  unfold asSlab at h
  split at h
  · split at h
    · rename_i a m
      split at h
      · rename_i c
        cases Option.some.inj h
        refine ⟨?_, by show a.toNat < n; omega, c.2.2⟩
        show PyData.tuple [.int a, .int m] = .tuple [.int ((a.toNat : Nat) : Int), .int m]
        rw [show ((a.toNat : Nat) : Int) = a by omega]
      · cases h
    · cases h
  · cases h
/-- where so many rows are left -/
def fitD (r : List Int) (d : PyData) : Bool := match asSlab r.length d with
  | some s => decide (s.2 ≤ r.getD s.1 0)
  | none => false
def wholeL (r : List Int) : List PyData → Bool
  | [] => decide ((0 : Int) ∈ r)
  | d :: ds => match asSlab r.length d with
    | some s => !decide ((0 : Int) ∈ r) && (decide (s.2 ≤ r.getD s.1 0) && wholeL (red r s) ds)
    | none => false
def wholeD (r : List Int) : PyData → Bool
  | .list ds => wholeL r ds
  | _ => false
def allS (n : Nat) (ds : List PyData) : Bool := ds.all fun d => (asSlab n d).isSome
theorem allS_slabs {n : Nat} : ∀ {ds : List PyData}, allS n ds = true → ∃ ss : List Slab, ds = ss.map sD ∧ Fine n ss
  | [], _ => ⟨[], rfl, fun s m => nomatch m⟩
  | d :: ds, h => by
    unfold allS at h
    rw [List.all_cons, Bool.and_eq_true] at h
    obtain ⟨ss, rfl, f⟩ := allS_slabs (ds := ds) h.2
    obtain ⟨s, e⟩ := Option.isSome_iff_exists.mp h.1
    obtain ⟨rfl, a⟩ := asSlab_some e
    refine ⟨s :: ss, rfl, fun t m => ?_⟩
    rcases List.mem_cons.mp m with rfl | m
    · exact a
    · exact f t m
theorem wholeL_slabs : ∀ {ss : List Slab} {r : List Int}, Fine r.length ss → wholeL r (ss.map sD) = okW r ss
  | [], r, _ => rfl
  | s :: ss, r, f => by
    have f2 : Fine (red r s).length ss := by rw [red_len]; exact f.tail
    rw [List.map_cons]
    unfold wholeL okW
    rw [asSlab_sD f.head]
    dsimp only
    rw [wholeL_slabs f2]
theorem wholeL_bad : ∀ {ds : List PyData} {r : List Int}, allS r.length ds = false → wholeL r ds = false
  | [], r, h => nomatch h
  | d :: ds, r, h => by
    unfold allS at h
    rw [List.all_cons, Bool.and_eq_false_iff] at h
    unfold wholeL
    cases e : asSlab r.length d with
    | none => rfl
    | some s =>
      dsimp only
      rcases h with h | h
      · rw [e] at h
        cases h
      · rw [wholeL_bad (ds := ds) (r := red r s) (by rw [red_len]; exact h), Bool.and_false, Bool.and_false]
/-- what is due -/
def dueD (z : List Int) (d : PyData) : Bool := wholeD z d
theorem dds {K : PySem.W.Frag} {H : Hp} {N : Addr → Prop} {v : V} {s : Slab} (h : Dd K H N v (sD s)) : ∃ a, v = .ref a ∧ SqT K H a [.int (s.1 : Nat), .int s.2] := by
  cases h with
  | tup a k =>
    cases k with
    | cons k1 k =>
    cases k with
    | cons k2 k =>
    cases k
    cases k1
    cases k2
    exact ⟨_, rfl, a⟩
end Gd
end

section
set_option Elab.async false
set_option linter.all false
set_option maxRecDepth 100000
set_option maxHeartbeats 4000000
namespace K23
open PySem PySem.Spec PyProof.Rows L2 Gd
def topS (i : Nat) : Stmt := PySem.Challenge.pw_plansamid_k23_slabs_looked_at.main.body.getD i (.Pass ⟨0, 0, 0, 0⟩)
abbrev sFeed : Stmt := topS 6
abbrev sTake : Stmt := topS 7
theorem scFeed : FnScope ["_law_script", "_law_k", "_law_cell", "_law_great"] ["_law_script", "_law_k"] (defScope sFeed) :=
  ⟨rfl, rfl, rfl, by decide +kernel, rfl, by decide +kernel, by decide +kernel⟩
theorem scTake : FnScope ["_law_feed_here", "_law_many", "_law_digit", "_law_drawn", "_law_mixed"] ["_law_feed_here", "_law_many"] (defScope sTake) :=
  ⟨rfl, rfl, rfl, by decide +kernel, rfl, by decide +kernel, by decide +kernel⟩
section
variable {P : Program} {w : World} {K : PySem.W.Frag} {mg : Str → Option Value} {base : Heap} {f : Addr} {fd : FuncData}
theorem ok_take (F : Fun K "_law_take" "_law_take" sTake f fd) : FnOk P w K mg base CX0 1 f fd ["_law_feed_here", "_law_many"] spTake := by
  refine F.ok scTake (fun vs H Q E h => ?_) (fun cdv A outer s H vs Q E hr h => ?_)
  · obtain ⟨p, m, S, rfl, _⟩ := h
    rfl
  obtain ⟨p, m, S, rfl, ⟨g, x, n, ep, n0, nS⟩, m0, m1, hS, q⟩ := h
  have nd := scTake.nd
  refine ⟨_, pss_cons (ps_if (pt_cmpR op_gt (pe_ix ix_list (pv 0) pe_int (fun _ _ => rfl)) pe_int (nomark _))
      (pss_cons (ps_set (i := 2) nd rfl (.inl rfl) (pe_op op_modN (pe_ix ix_list (pv 0) pe_int (fun _ _ => rfl)) (pv 1)))
      (pss_cons (ps_asg (pe_op op_fdivN (pe_ix ix_list (pv 0) pe_int (fun _ _ => rfl)) (pv 1)) (pg_sub (pv 0) pe_int set_list))
      (pss_one (ps_ret (pv 2))))) pss_nil)
    (pss_cons (ps_set (i := 3) nd rfl (.inl rfl) (pe_op op_add (pe_ix ix_list (pv 0) pe_int (fun _ _ => rfl)) pe_int))
    (pss_cons (ps_asg (pv 3) (pg_sub (pv 0) pe_int set_list))
    (pss_cons (ps_set (i := 4) nd rfl (.inl rfl) (pe_op op_modN (pe_op op_add (pe_op op_add (pe_ix ix_list (pv 0) pe_int (fun _ _ => rfl))
        (pe_op op_mul (pe_op op_mul pe_int (pv 3)) (pv 3))) (pe_op op_mul pe_int (pv 3))) pe_int))
    (pss_cons (ps_set (i := 4) nd rfl (.inl rfl) (pe_op op_modN (pe_op op_add (pe_op op_add (pe_op op_mul (pv 4) (pv 4))
        (pe_op op_mul pe_int (pv 4))) (pv 3)) pe_int))
    (pss_cons (ps_set (i := 4) nd rfl (.inl rfl) (pe_op op_modN (pe_op op_add (pe_op op_mul (pv 4) (pv 4)) (pe_op op_mul pe_int (pv 4))) pe_int))
    (pss_one (ps_ret (pe_op op_modN (pe_op op_fdivN (pv 4) pe_int) (pv 1))))))))), ?_⟩
  have L : SqL K H p [.int g, .int x, .int n] := SqL.of ep
  refine ⟨_, rfl, p, _, 0, .int g, rfl, rfl, L, atI_nat (j := 0) rfl, g, 0, rfl, rfl, _, rfl, ite2 (fun c => ?_) (fun c => ?_)⟩
  · refine ⟨_, rfl, p, _, 0, .int g, rfl, rfl, L, atI_nat (j := 0) rfl, _, rfl, g, m, rfl, rfl, by omega, ?_⟩
    refine ⟨_, rfl, p, _, 0, .int g, rfl, rfl, L, atI_nat (j := 0) rfl, _, rfl, g, m, rfl, rfl, ⟨by omega, by omega⟩, ?_⟩
    refine ⟨_, rfl, p, _, 0, 0, rfl, rfl, ep, rfl, ?_⟩
    refine ⟨_, rfl, ?_⟩
    obtain ⟨r0, r1⟩ := fmod_in g m0
    exact q _ _ r0 r1 (Feed.here (by omega) (by omega)) .at
  · refine ⟨_, rfl, p, _, 2, .int n, rfl, rfl, L, atI_nat (j := 2) rfl, n, 1, rfl, rfl, ?_⟩
    refine ⟨_, rfl, _, rfl, p, _, 2, 2, rfl, rfl, ep, rfl, ?_⟩
    have L2 : SqL K (upd H p (.lst [.int g, .int x, .int (n + 1)])) p [.int g, .int x, .int (n + 1)] := SqL.of upd_same
    refine ⟨_, rfl, p, _, 1, .int x, rfl, rfl, L2, atI_nat (j := 1) rfl, _, rfl, _, _, rfl, rfl, .inl ⟨by omega, by omega⟩, _, rfl, _, _, rfl, rfl, .inr ⟨by omega, by omega⟩, _, _, rfl, rfl,
      _, rfl, _, _, rfl, rfl, .inl ⟨by omega, by omega⟩, _, _, rfl, rfl, _, _, rfl, rfl, by omega, ?_⟩
    obtain ⟨a0, a1⟩ := fmod_in (x + 50021 * (n + 1) * (n + 1) + 39119 * (n + 1)) (b := 2147483629) (by omega)
    dsimp only
    generalize (x + 50021 * (n + 1) * (n + 1) + 39119 * (n + 1)).fmod 2147483629 = m1 at a0 a1 ⊢
    refine ⟨_, rfl, _, rfl, m1, m1, rfl, rfl, .inl ⟨by omega, by omega⟩, _, rfl, _, m1, rfl, rfl, .inl ⟨by omega, by omega⟩, _, _, rfl, rfl, _, rfl, _, _, rfl, rfl, _, _, rfl, rfl, by omega, ?_⟩
    obtain ⟨b0, b1⟩ := fmod_in (m1 * m1 + 62089 * m1 + (n + 1)) (b := 2147483587) (by omega)
    dsimp only
    generalize (m1 * m1 + 62089 * m1 + (n + 1)).fmod 2147483587 = m2 at b0 b1 ⊢
    refine ⟨_, rfl, _, rfl, m2, m2, rfl, rfl, .inl ⟨by omega, by omega⟩, _, rfl, _, m2, rfl, rfl, .inl ⟨by omega, by omega⟩, _, _, rfl, rfl, _, _, rfl, rfl, by omega, ?_⟩
    obtain ⟨c0, c1⟩ := fmod_in (m2 * m2 + 24593 * m2) (b := 2147483563) (by omega)
    dsimp only
    generalize (m2 * m2 + 24593 * m2).fmod 2147483563 = m3 at c0 c1 ⊢
    refine ⟨_, rfl, m3, 64, rfl, rfl, ⟨by omega, by omega⟩, _, rfl, _, m, rfl, rfl, by omega, ?_⟩
    obtain ⟨d0, d1⟩ := fmod_in (m3.fdiv 64) m0
    exact q _ _ d0 d1 (Feed.here (by omega) (by omega)) .at

/-- the seed of turn k -/
def spFeed (K : PySem.W.Frag) : Sp := fun vs H Q _ => ∃ (a : Addr) (ns : List Int) (k : Int), vs = [.ref a, .int k] ∧ SqL K H a (ns.map V.int) ∧
  0 ≤ k ∧ k ≤ 1000 ∧ ∀ (p : Addr) (fs : List V), H p = none → Feed (upd H p (.lst fs)) p 0 → Q (.ref p) (upd H p (.lst fs))
theorem ok_feed (F : Fun K "_law_feed" "_law_feed" sFeed f fd) (ml : mg "len" = none) (ma : mg "abs" = none) :
    FnOk P w K mg base CX0 1 f fd ["_law_script", "_law_k"] (spFeed K) := by
  refine F.ok scFeed (fun vs H Q E h => ?_) (fun cdv A outer s H vs Q E hr h => ?_)
  · obtain ⟨a, ns, k, rfl, _⟩ := h
    rfl
  obtain ⟨a, ns, k, rfl, hS, k0, k1, q⟩ := h
  have nd := scFeed.nd
  refine ⟨_, pss_cons (ps_set (i := 2) nd rfl (.inl rfl) pe_int)
    (C8.pss_cut (ps_if (pt_cmpR op_lt (pv 1) (pe_callB call_len_seq (by rfl) ml PySem.boot_len (pa_cons (pv 0) pa_nil)) (nomark _))
      (pss_one (ps_set (i := 2) nd rfl (.inl rfl) (pe_ix ix_list (pv 0) (pv 1) (fun _ _ => rfl)))) pss_nil)
    (pss_cons (ps_set (i := 3) nd rfl (.inl rfl) (pe_callB call_abs (by rfl) ma (by decide +kernel) (pa_cons (pv 2) pa_nil)))
    (C8.pss_cut (ps_if (pt_cmpR op_lt (pv 3) (pe_op op_pow pe_int pe_int) (nomark _))
      (pss_one (ps_set (i := 3) nd rfl (.inl rfl) pe_int)) pss_nil)
    (pss_one (ps_ret (pe_lst (pa_cons (pv 3) (pa_cons (pe_op op_modN (pe_op op_add (pe_op op_add (pe_op op_mul (pe_op op_modN (pv 2) pe_int) pe_int)
        (pe_op op_mul pe_int (pv 1))) pe_int) pe_int) (pa_cons pe_int pa_nil))))))))), ?_⟩
  refine ⟨fun σ' H' => H' = H ∧ ∃ c : Int, σ' = [some (.ref a), some (.int k), some (.int c), none], ?_, ?_⟩
  · refine ⟨_, rfl, _, rfl, a, _, rfl, .inl hS, _, _, rfl, rfl, _, rfl, ite2 (fun e => ?_) (fun e => ?_)⟩
    · have e' : k < ((ns.map V.int).length : Int) := of_decide_eq_true e
      rw [List.length_map] at e'
      have h2 : k.toNat < ns.length := by omega
      have g : atI (ns.map V.int) ((k.toNat : Nat) : Int) = some (.int ns[k.toNat]) :=
        atI_nat (by rw [List.getElem?_map, List.getElem?_eq_getElem h2] <;> rfl)
      rw [show ((k.toNat : Nat) : Int) = k by omega] at g
      exact ⟨_, rfl, _, rfl, a, _, k, _, rfl, rfl, hS, g, rfl, _, rfl⟩
    · exact ⟨rfl, _, rfl⟩
  rintro σ' H' ⟨rfl, c, rfl⟩
  refine ⟨_, rfl, c, rfl, ?_⟩
  refine ⟨fun σ' H2 => H2 = H' ∧ ∃ b : Int, σ' = [some (.ref a), some (.int k), some (.int c), some (.int b)], ?_, ?_⟩
  · refine ⟨_, rfl, 10, 18, rfl, rfl, ⟨by decide, by decide, by decide⟩, _, _, rfl, rfl, _, rfl, ite2 (fun e => ?_) (fun e => ?_)⟩
    · exact ⟨rfl, _, rfl⟩
    · exact ⟨rfl, _, rfl⟩
  rintro σ' H2 ⟨rfl, b, rfl⟩
  obtain ⟨a0, a1⟩ := fmod_in c (b := 2147483497) (by omega)
  refine ⟨_, rfl, _, rfl, c, _, rfl, rfl, by omega, _, _, rfl, rfl, .inl ⟨by omega, by omega⟩, _, rfl, _, k, rfl, rfl, .inl ⟨by omega, by omega⟩, _, _, rfl, rfl,
    _, _, rfl, rfl, _, _, rfl, rfl, by omega, (by show 3 ≤ sizeLine; decide), fun p hp => ?_⟩
  exact q p _ hp (Feed.here (by omega) (by omega))
end
end K23
end

section
set_option Elab.async false
set_option linter.all false
set_option maxRecDepth 100000
set_option maxHeartbeats 4000000
namespace K23
open PySem PySem.Spec PyProof.Rows L2 Gd Bx
abbrev sIsW : Stmt := topS 1
abbrev sWh : Stmt := topS 3
abbrev sIsSl : Stmt := topS 4
theorem flat_ints : ∀ r : List Int, (r.map V.int).all flatV = true
  | [] => rfl
  | x :: r => flat_ints r
theorem in_ints (k : Int) : ∀ r : List Int, inV (.int k) (r.map V.int) = decide (k ∈ r)
  | [] => rfl
  | x :: r => by
    have ih := in_ints k r
    show ((x == k) || inV (.int k) (r.map V.int)) = _
    rw [ih]
    by_cases e : x = k
    · subst e
      simp
    · rw [beq_false_of_ne e, Bool.false_or]
      simp [List.mem_cons, Ne.symm e]
theorem scIsW : FnScope ["thing"] ["thing"] (defScope sIsW) := ⟨rfl, rfl, rfl, by decide +kernel, rfl, by decide +kernel, by decide +kernel⟩
theorem scIsSl : FnScope ["rest", "thing", "source", "many"] ["rest", "thing"] (defScope sIsSl) := ⟨rfl, rfl, rfl, by decide +kernel, rfl, by decide +kernel, by decide +kernel⟩
theorem scWh : FnScope ["sizes", "thing", "rest", "slab", "source", "many"] ["sizes", "thing"] (defScope sWh) := ⟨rfl, rfl, rfl, by decide +kernel, rfl, by decide +kernel, by decide +kernel⟩
def spIsW (K : PySem.W.Frag) : Sp := fun vs H Q _ => ∃ (N : Addr → Prop) (v : V) (d : PyData), vs = [v] ∧ Dd K H N v d ∧ Q (.bl (isWh d)) H
def spIsSl (K : PySem.W.Frag) : Sp := fun vs H Q _ => ∃ (a : Addr) (v : V) (N : Addr → Prop) (r : List Int) (d : PyData), vs = [.ref a, v] ∧ SqL K H a (r.map V.int) ∧ Dd K H N v d ∧ Q (.bl (fitD r d)) H
def spWh (K : PySem.W.Frag) : Sp := fun vs H Q _ => ∃ (a : Addr) (v : V) (N : Addr → Prop) (r : List Int) (d : PyData), vs = [.ref a, v] ∧ SqL K H a (r.map V.int) ∧ Th K H N v d ∧
  ∀ H', Same H H' → Q (.bl (wholeD r d)) H'
theorem fit_two {r : List Int} {i m : Int} : fitD r (.tuple [.int i, .int m]) = (decide (0 ≤ i) && (decide (i < (r.length : Nat)) && (decide (1 ≤ m) && decide (m ≤ r.getD i.toNat 0)))) := by
  unfold fitD asSlab
  dsimp only
  by_cases h : 0 ≤ i ∧ i < (r.length : Nat) ∧ 1 ≤ m
  · rw [if_pos h, decide_eq_true h.1, decide_eq_true h.2.1, decide_eq_true h.2.2]
    rfl
  · rw [if_neg h]
    by_cases h1 : 0 ≤ i
    · by_cases h2 : i < (r.length : Nat)
      · rw [decide_eq_false (p := 1 ≤ m) (fun h3 => h ⟨h1, h2, h3⟩), Bool.false_and, Bool.and_false, Bool.and_false]
      · rw [decide_eq_false h2, Bool.false_and, Bool.and_false]
    · rw [decide_eq_false h1, Bool.false_and]
theorem fit_not {r : List Int} {d1 d2 : PyData} (h : isWh d1 = false ∨ isWh d2 = false) : fitD r (.tuple [d1, d2]) = false := by
  cases d1 with
  | int i =>
    cases d2 with
    | int m =>
      rcases h with h | h
      · cases h
      · cases h
    | _ => rfl
  | _ => rfl
theorem fit_len {r : List Int} {ds : List PyData} (h : ds.length ≠ 2) : fitD r (.tuple ds) = false := by
  match ds with
  | [] => rfl
  | [x] => cases x <;> rfl
  | [_, _] => exact absurd rfl h
  | a :: b :: _ :: _ => cases a <;> first | rfl | (cases b <;> rfl)
theorem fit_tu {r : List Int} {d : PyData} (h : isTu d = false) : fitD r d = false := by
  cases d with
  | tuple ds => cases h
  | _ => rfl
theorem two_of {K : PySem.W.Frag} {H : Hp} {N : Addr → Prop} {xs : List V} {ds : List PyData} (h : DdAll K H N xs ds) (l : xs.length = 2) :
    ∃ v1 v2 d1 d2, xs = [v1, v2] ∧ ds = [d1, d2] ∧ Dd K H N v1 d1 ∧ Dd K H N v2 d2 := by
  cases h with
  | nil => cases l
  | cons a h =>
    cases h with
    | nil => cases l
    | cons b h =>
      cases h with
      | nil => exact ⟨_, _, _, _, rfl, rfl, a, b⟩
      | cons c h =>
        exfalso
        simp at l
section
variable {P : Program} {w : World} {K : PySem.W.Frag} {mg : Str → Option Value} {base : Heap} {f : Addr} {fd : FuncData}
theorem ok_isw (F : Fun K "is_whole" "is_whole" sIsW f fd) (mi : mg "isinstance" = none) (mt : mg "int" = none) (mb : mg "bool" = none) : FnOk P w K mg base CX0 1 f fd ["thing"] (spIsW K) := by
  refine F.ok scIsW (fun vs H Q E h => ?_) (fun cdv A outer s H vs Q E hr h => ?_)
  · obtain ⟨N, v, d, rfl, _⟩ := h
    rfl
  obtain ⟨N, v, d, rfl, hd, q⟩ := h
  have nd := scIsW.nd
  refine ⟨_, pss_one (ps_ret (pe_and (pe_callB call_isi (by rfl) mi (by decide +kernel) (pa_cons (pv 0) (pa_cons (pe_bltn (v := .ty "int") (by rfl) mt (by decide +kernel) rfl) pa_nil)))
    (pe_one (pe_not (pe_callB call_isi (by rfl) mi (by decide +kernel) (pa_cons (pv 0) (pa_cons (pe_bltn (v := .ty "bool") (by rfl) mb (by decide +kernel) rfl) pa_nil))))))), ?_⟩
  have z : Q (.bl (isIn d && !isBo d)) H := by rw [isWh_eq]; exact q
  refine ⟨_, rfl, _, _, _, _, isIn d, rfl, .ty _, hd.kind, kit_ty (q_int d), _, rfl, ite2 (fun e => ?_) (fun e => ?_)⟩
  · refine ⟨_, rfl, _, _, _, _, isBo d, rfl, .ty _, hd.kind, kit_ty (q_boo d), _, rfl, ?_⟩
    rw [e, Bool.true_and] at z
    exact z
  · rw [Bool.eq_false_iff.mpr e, Bool.false_and] at z
    exact z
variable {fW fS : Addr} {dW dS : FuncData}
theorem ok_issl (F : Fun K "_is_slab" "_is_slab" sIsSl f fd) (mi : mg "isinstance" = none) (mt : mg "tuple" = none) (ml : mg "len" = none)
    (FW : Fun K "is_whole" "is_whole" sIsW fW dW) (GW : FnOk P w K mg base CX0 1 fW dW ["thing"] (spIsW K)) (bW : Binds K dW ["thing"] []) (gW : mg "is_whole" = some (.ref fW)) :
    FnOk P w K mg base CX0 2 f fd ["rest", "thing"] (spIsSl K) := by
  refine F.ok scIsSl (fun vs H Q E h => ?_) (fun cdv A outer s H vs Q E hr h => ?_)
  · obtain ⟨a, v, N, r, d, rfl, _⟩ := h
    rfl
  obtain ⟨a, v, N, r, d, rfl, ha, hd, q⟩ := h
  have nd := scIsSl.nd
  refine ⟨_, pss_cons (ps_if (PW.pt (pw_or (pt_not (pt_val (pe_callB call_isi (by rfl) mi (by decide +kernel) (pa_cons (pv 1) (pa_cons (pe_bltn (v := .ty "tuple") (by rfl) mt (by decide +kernel) rfl) pa_nil)))))
      (pw_or1 (pt_cmpR op_ne (pe_callB call_len_seq (by rfl) ml PySem.boot_len (pa_cons (pv 1) pa_nil)) pe_int (nomark _))))) (pss_one (ps_ret pe_bl)) pss_nil)
    (pss_cons (ps_asg (pv 1) (pg_tup rfl (pgs_cons (pg_name (i := 2) nd rfl (.inl rfl)) (pgs_cons (pg_name (i := 3) nd rfl (.inl rfl)) pgs_nil))))
    (pss_cons (ps_if (PW.pt (pw_or (pt_not (pt_val (pe_call GW hr (by rfl) gW FW.kp bW .nil pass0 (pa_cons (pv 2) pa_nil))))
      (pw_or (pt_not (pt_val (pe_call GW hr (by rfl) gW FW.kp bW .nil pass0 (pa_cons (pv 3) pa_nil))))
      (pw_or1 (pt_not (pt_chain op_le op_lt pe_int (pv 2) (pe_callB call_len_seq (by rfl) ml PySem.boot_len (pa_cons (pv 0) pa_nil)))))))) (pss_one (ps_ret pe_bl)) pss_nil)
    (pss_one (ps_ret (pe_chain op_le op_le pe_int (pv 3) (pe_ix ix_list (pv 0) (pv 2) (fun _ _ => rfl))))))), ?_⟩
  have no : fitD r d = false → Q (.bl false) H := fun e => by rw [e] at q; exact q
  refine ⟨_, rfl, _, _, _, _, isTu d, rfl, .ty _, hd.kind, kit_ty (q_tup d), _, rfl, ?_⟩
  cases et : isTu d with
  | false => exact iteT (no (fit_tu et))
  | true =>
  refine iteF ?_
  cases d with
  | tuple ds =>
    cases hd with
    | @tup b xs _ hS hA =>
    have hlen := hA.len
    refine ⟨_, rfl, b, xs, rfl, .inr hS, rfl, _, rfl, ?_⟩
    by_cases hl : xs.length = 2
    · obtain ⟨v1, v2, d1, d2, rfl, rfl, h1, h2⟩ := two_of hA hl
      refine iteF ?_
      refine ⟨_, rfl, b, _, rfl, hS, rfl, _, _, rfl, _, _, rfl, rfl, ?_⟩
      refine ⟨_, rfl, N, v1, d1, rfl, h1, _, rfl, ?_⟩
      cases e1 : isWh d1 with
      | false => exact iteT (no (fit_not (.inl e1)))
      | true =>
      refine iteF ?_
      refine ⟨_, rfl, N, v2, d2, rfl, h2, _, rfl, ?_⟩
      cases e2 : isWh d2 with
      | false => exact iteT (no (fit_not (.inr e2)))
      | true =>
      refine iteF ?_
      obtain ⟨i, rfl, rfl⟩ := isWh_int h1 e1
      obtain ⟨m, rfl, rfl⟩ := isWh_int h2 e2
      rw [fit_two] at q no
      refine ⟨_, rfl, _, _, rfl, rfl, _, rfl, ite2 (fun c1 => ?_) (fun c1 => ?_)⟩
      · refine ⟨_, rfl, a, _, rfl, .inl ha, _, _, rfl, rfl, _, rfl, ?_⟩
        have c1 : decide (0 ≤ i) = true := c1
        have g1 : 0 ≤ i := of_decide_eq_true c1
        rw [List.length_map]
        cases c2 : decide (i < ((r.length : Nat) : Int)) with
        | false => exact iteT (no (by rw [c2, Bool.false_and, Bool.and_false]))
        | true =>
        refine iteF ?_
        have g2 : i < ((r.length : Nat) : Int) := of_decide_eq_true c2
        rw [c1, c2, Bool.true_and, Bool.true_and] at q
        have at_ : atI (r.map V.int) i = some (.int (r.getD i.toNat 0)) := by
          have z := ints_atI (l := r) (i := i.toNat) (by omega)
          rw [show ((i.toNat : Nat) : Int) = i by omega] at z
          exact z
        refine ⟨_, rfl, _, _, rfl, rfl, _, rfl, ite2 (fun c3 => ?_) (fun c3 => ?_)⟩
        · refine ⟨_, rfl, _, rfl, a, _, _, _, rfl, rfl, ha, at_, _, _, rfl, rfl, ?_⟩
          have c3 : decide (1 ≤ m) = true := c3
          rw [c3, Bool.true_and] at q
          exact q
        · have c3 : decide (1 ≤ m) = false := Bool.eq_false_iff.mpr c3
          rw [c3, Bool.false_and] at q
          exact q
      · have c1 : decide (0 ≤ i) = false := Bool.eq_false_iff.mpr c1
        exact ⟨_, rfl, iteT (no (by rw [c1, Bool.false_and]))⟩
    · refine ite2 (fun _ => no (fit_len (by omega))) (fun e => absurd ?_ e)
      show (!decide (V.int ((xs.length : Nat) : Int) = V.int 2)) = true
      rw [decide_eq_false (fun y => hl (by have := V.int.inj y; omega))] <;> rfl
  | _ => exact Bool.noConfusion et
theorem ok_wh (F : Fun K "are_whole" "are_whole" sWh f fd) (mi : mg "isinstance" = none) (ml : mg "list" = none)
    (FS : Fun K "_is_slab" "_is_slab" sIsSl fS dS) (GS : FnOk P w K mg base CX0 2 fS dS ["rest", "thing"] (spIsSl K)) (bS : Binds K dS ["rest", "thing"] []) (gS : mg "_is_slab" = some (.ref fS)) :
    FnOk P w K mg base CX0 3 f fd ["sizes", "thing"] (spWh K) := by
  refine F.ok scWh (fun vs H Q E h => ?_) (fun cdv A outer s H vs Q E hr h => ?_)
  · obtain ⟨a, v, N, r, d, rfl, _⟩ := h
    rfl
  obtain ⟨a, v, N, r, d, rfl, ha, ht, q⟩ := h
  have nd := scWh.nd
  refine ⟨_, pss_cons (ps_if (pt_not (pt_val (pe_callB call_isi (by rfl) mi (by decide +kernel) (pa_cons (pv 1) (pa_cons (pe_bltn (v := .ty "list") (by rfl) ml (by decide +kernel) rfl) pa_nil))))) (pss_one (ps_ret pe_bl)) pss_nil)
    (pss_cons (ps_set (i := 2) nd rfl (.inl rfl) (pe_callTy call_list_of (by rfl) ml (by decide +kernel) (pa_cons (pv 0) pa_nil)))
    (pss_cons (ps_for PassesOwn.never rfl (pi_list (pv 1)) (pg_name (i := 3) nd rfl (.inl rfl))
      (pss_cons (ps_if (PW.pt (pw_or (pt_cmpR op_in_seq pe_int (pv 2) (by with_unfolding_all rfl)) (pw_or1 (pt_not (pt_val (pe_call GS hr (by rfl) gS FS.kp bS .nil pass0 (pa_cons (pv 2) (pa_cons (pv 3) pa_nil)))))))) (pss_one (ps_ret pe_bl)) pss_nil)
      (pss_cons (ps_asg (pv 3) (pg_tup rfl (pgs_cons (pg_name (i := 4) nd rfl (.inl rfl)) (pgs_cons (pg_name (i := 5) nd rfl (.inl rfl)) pgs_nil))))
      (pss_one (ps_augS (pv 2) (pv 4) get_list (pv 5) ip_sub set_list)))))
    (pss_one (ps_ret (pe_cmpR op_in_seq pe_int (pv 2) (by with_unfolding_all rfl)))))), ?_⟩
  refine ⟨_, rfl, _, _, _, _, isLi d, rfl, .ty _, ht.kind, kit_ty (q_lst d), _, rfl, ?_⟩
  cases el : isLi d with
  | false =>
    refine iteT ?_
    have z := q H (fun _ _ e => e)
    rw [show wholeD r d = false by cases d <;> first | rfl | cases el] at z
    exact z
  | true =>
  cases d with
  | list ds =>
    obtain ⟨b, xs, rfl, eb, hA⟩ := ht.lst
    have hlen := hA.len
    refine iteF ⟨_, rfl, a, _, rfl, .inl ha, fun l nl => ?_⟩
    refine ⟨_, rfl, b, rfl, ⟨_, (new_same nl).seq (SqL.of eb)⟩, ?_⟩
    refine for_it walk_list (fun i σ H1 => Same H H1 ∧ (∃ rr : List Int, H1 l = some (.lst (rr.map V.int)) ∧ rr.length = r.length ∧ wholeL r ds = wholeL rr (ds.drop i)) ∧ ∃ x y z, σ = [some (.ref a), some (.ref b), some (.ref l), x, y, z])
      ⟨new_same nl, ⟨r, upd_same, rfl, rfl⟩, none, none, none, rfl⟩ (fun i σ H1 _ h => h.1.seq (SqL.of eb)) ?_ ?_
    · rintro i x σ H1 H2 hi ⟨s1, ⟨rr, el, lr, hw⟩, x0, y0, z0, rfl⟩ ⟨rfl, ex⟩
      obtain ⟨di, ed, hdi⟩ := hA.at_ ex
      have hdi := hdi.same s1
      have hi2 := at_lt ed
      have dr : ds.drop i = di :: ds.drop (i + 1) := by
        rw [List.drop_eq_getElem_cons hi2]
        rw [List.getElem?_eq_getElem hi2] at ed
        rw [Option.some.inj ed]
      rw [dr] at hw
      have z := q _ s1
      have hw2 : wholeD r (.list ds) = wholeL rr (di :: ds.drop (i + 1)) := hw
      rw [hw2] at z
      refine ⟨_, rfl, l, _, rfl, .inl (SqL.of el), rfl, flat_ints _, _, rfl, ?_⟩
      refine ite2 (fun e => ?_) (fun e => ?_)
      · have e : decide ((0 : Int) ∈ rr) = true := (in_ints 0 rr).symm.trans e
        have zz : wholeL rr (di :: ds.drop (i + 1)) = false := by
          unfold wholeL
          split
          · rw [e] <;> rfl
          · rfl
        rw [zz] at z
        exact z
      · have e : decide ((0 : Int) ∈ rr) = false := (in_ints 0 rr).symm.trans (Bool.eq_false_iff.mpr e)
        refine ⟨_, rfl, _, rfl, l, x, N, rr, di, rfl, SqL.of el, hdi, _, rfl, ?_⟩
        cases ef : fitD rr di with
        | false =>
          refine iteT ?_
          have zz : wholeL rr (di :: ds.drop (i + 1)) = false := by
            unfold fitD at ef
            unfold wholeL
            split
            · rename_i s es
              rw [es] at ef
              dsimp only at ef
              rw [ef, Bool.false_and, Bool.and_false]
            · rfl
          rw [zz] at z
          exact z
        | true =>
          refine iteF ?_
          cases es : asSlab rr.length di with
          | none =>
            unfold fitD at ef
            rw [es] at ef
            cases ef
          | some t =>
          unfold fitD at ef
          rw [es] at ef
          dsimp only at ef
          obtain ⟨rfl, t1, t2⟩ := asSlab_some es
          obtain ⟨b1, rfl, tt⟩ := dds hdi
          have hw3 : wholeL r ds = wholeL (red rr t) (ds.drop (i + 1)) := by
            rw [hw]
            conv => lhs; unfold wholeL
            rw [es]
            dsimp only
            rw [e, ef] <;> rfl
          refine ⟨_, rfl, b1, _, rfl, tt, rfl, _, _, rfl, _, _, rfl, rfl, ?_⟩
          refine ⟨_, rfl, _, rfl, l, _, t.1, _, rfl, rfl, SqL.of el, ints_at t1, ?_⟩
          refine ⟨_, rfl, _, _, rfl, rfl, ?_⟩
          refine ⟨l, _, _, t.1, rfl, rfl, el, ixN_nat (by rw [List.length_map]; exact t1), ?_⟩
          refine ⟨own_same nl s1, ⟨red rr t, ?_, by rw [red_len, lr], hw3⟩, _, _, _, rfl⟩
          rw [upd_same, map_set]
          rfl
    · rintro σ H1 ⟨s1, ⟨rr, el, lr, hw⟩, x0, y0, z0, rfl⟩
      have z := q H1 s1
      have hw2 : wholeD r (.list ds) = decide ((0 : Int) ∈ rr) := by
        rw [hlen, List.drop_length] at hw
        exact hw
      rw [hw2, ← in_ints] at z
      exact ⟨_, rfl, l, _, rfl, .inl (SqL.of el), rfl, flat_ints _, z⟩
  | _ => cases el
end
end K23
end

section
set_option Elab.async false
set_option linter.all false
set_option maxRecDepth 100000
set_option maxHeartbeats 4000000
namespace K23
open PySem PySem.Spec PyProof.Rows L2 Gd Bx
abbrev sSizes : Stmt := topS 8
abbrev sWhole : Stmt := topS 9
abbrev nSizes : List Str := ["_law_feed_here", "_law_most", "_law_found", "_law_k", "_law_some"]
theorem scSizes : FnScope nSizes ["_law_feed_here", "_law_most"] (defScope sSizes) :=
  ⟨rfl, rfl, rfl, by decide +kernel, rfl, by decide +kernel, by decide +kernel⟩
def spSizes : Sp := fun vs H Q _ => ∃ (p : Addr) (S : Int), vs = [.ref p, .int 60] ∧ Feed H p S ∧ S ≤ 100000000 ∧
  ∀ (l : Addr) (z : List Int) (H' : Hp), Ex1 p H H' → Feed H' p (S + 10) → H l = none → l ≠ sysModules → H' l = some (.lst (z.map V.int)) → 1 ≤ z.length → z.length ≤ 3 → In 60 z → Q (.ref l) H'
section
variable {P : Program} {w : World} {K : PySem.W.Frag} {mg : Str → Option Value} {base : Heap} {f fT : Addr} {fd dT : FuncData}
theorem ok_sizes (F : Fun K "_law_sizes" "_law_sizes" sSizes f fd) (mr : mg "range" = none) (FT : Fun K "_law_take" "_law_take" sTake fT dT) (bT : Binds K dT ["_law_feed_here", "_law_many"] []) (gT : mg "_law_take" = some (.ref fT)) :
    FnOk P w K mg base CX0 2 f fd ["_law_feed_here", "_law_most"] spSizes := by
  have G : FnOk P w K mg base CX0 1 fT dT ["_law_feed_here", "_law_many"] spTake := ok_take FT
  refine F.ok scSizes (fun vs H Q E h => ?_) (fun cdv A outer s H vs Q E hr h => ?_)
  · obtain ⟨p, S, rfl, _⟩ := h
    rfl
  obtain ⟨p, S, rfl, hF, hS, q⟩ := h
  have nd := scSizes.nd
  have zl : sizeLine = 16777216 := rfl
  refine ⟨_, pss_cons (ps_set (i := 2) nd rfl (.inl rfl) (pe_lstS pa_nil))
    (pss_cons (ps_for PassesOwn.never rfl (pi_range1 (by rfl) mr (pa_cons (pe_ix ix_list (pe_lst (pa_cons pe_int (pa_cons pe_int (pa_cons pe_int (pa_cons pe_int pa_nil)))))
          (pe_call G hr (by rfl) gT FT.kp bT .nil pass0 (pa_cons (pv 0) (pa_cons pe_int pa_nil))) (fun _ _ => rfl)) pa_nil)) (pg_name (i := 3) nd rfl (.inl rfl))
      (pss_cons (ps_set (i := 4) nd rfl (.inl rfl) (pe_lst (pa_cons pe_int (pa_cons pe_int (pa_cons pe_int (pa_cons pe_int (pa_cons pe_int (pa_cons (pv 1)
          (pa_cons (pe_call G hr (by rfl) gT FT.kp bT .nil pass0 (pa_cons (pv 0) (pa_cons (pe_op op_add (pv 1) pe_int) pa_nil)))
          (pa_cons (pe_ix ix_list (pe_lst (pa_cons pe_int (pa_cons pe_int (pa_cons pe_int (pa_cons pe_int pa_nil))))) (pe_call G hr (by rfl) gT FT.kp bT .nil pass0 (pa_cons (pv 0) (pa_cons pe_int pa_nil))) (fun _ _ => rfl)) pa_nil))))))))))
      (pss_one (ps_expr (pe_bm PySem.F.plainAttrs_list PySem.F.slot_list_append PySem.F.type_list_append mt_append (pv 2)
        (pa_cons (pe_ix ix_list (pv 4) (pe_call G hr (by rfl) gT FT.kp bT .nil pass0 (pa_cons (pv 0) (pa_cons pe_int pa_nil))) (fun _ _ => rfl)) pa_nil))))))
    (pss_one (ps_ret (pv 2)))), ?_⟩
  refine ⟨by decide, fun l nl gl => ?_⟩
  have nlp := hF.not nl
  refine ⟨(by show 4 ≤ sizeLine; decide), fun l2 nl2 => ?_⟩
  have f1 := (hF.stays (o := .lst []) nl).stays (o := .lst [.int 2, .int 3, .int 1, .int 3]) nl2
  have x1 : Ex1 p H (upd (upd H l (.lst [])) l2 (.lst [.int 2, .int 3, .int 1, .int 3])) := (Ex1.new nl).trans (Ex1.new nl2)
  have n2l : l2 ≠ l := fun e => by rw [e, upd_same] at nl2; cases nl2
  refine ⟨_, rfl, p, 4, S, rfl, f1, by decide, by decide, by omega, fun k H2 k0 k1 hF2 x2 => ?_⟩
  have e2 : H2 l2 = some (.lst [.int 2, .int 3, .int 1, .int 3]) := x2 _ _ (f1.lst.elim fun ys ey => fun z => by
    have n := hF.not (q := l2) (by rw [upd_ne n2l] at nl2; exact nl2)
    exact n z) upd_same
  obtain ⟨n, hn, en⟩ := at_list (f := V.int) (xs := [2, 3, 1, 3]) k0 (by simpa using k1)
  have nb : 1 ≤ n ∧ n ≤ 3 := by
    simp only [List.mem_cons, List.not_mem_nil, or_false] at hn
    omega
  refine ⟨l2, _, k, .int n, rfl, rfl, SqL.of e2, en, n, rfl, by omega, by omega, ?_⟩
  have el2 : H2 l = some (.lst []) := x2 _ _ nlp (by rw [upd_ne n2l.symm]; exact upd_same)
  refine for_it walk_range (fun i σ H3 => Ex1 p H H3 ∧ Feed H3 p (S + 1 + 3 * i) ∧ (∃ z : List Int, H3 l = some (.lst (z.map V.int)) ∧ z.length = i ∧ In 60 z) ∧ ∃ y3 y4, σ = [some (.ref p), some (.int 60), some (.ref l), y3, y4])
    ⟨x1.trans x2, hF2.le (by omega), ⟨[], el2, rfl, fun x h => nomatch h⟩, none, none, rfl⟩ (fun _ _ _ _ _ => trivial) ?_ ?_
  · rintro i x σ H3 H4 hi ⟨x3, f3, ⟨z, ez, lz, hz⟩, y3, y4, rfl⟩ ⟨rfl, rfl⟩
    have hi3 : i < 3 := by omega
    refine ⟨_, rfl, _, rfl, _, rfl, _, _, rfl, rfl, p, 61, _, rfl, f3, by decide, by decide, by omega, fun a H5 a0 a1 f5 x5 => ?_⟩
    refine ⟨(by show 4 ≤ sizeLine; decide), fun l3 nl3 => ?_⟩
    have f6 := f5.stays (o := .lst [.int 6, .int 7, .int 9, .int 0]) nl3
    refine ⟨_, rfl, p, 4, _, rfl, f6, by decide, by decide, by omega, fun b H7 b0 b1 f7 x7 => ?_⟩
    obtain ⟨c, hc, ec⟩ := at_list (f := V.int) (xs := [6, 7, 9, 0]) b0 (by simpa using b1)
    refine ⟨l3, _, b, .int c, rfl, rfl, SqL.of (x7 _ _ (f5.not nl3) upd_same), ec, ?_⟩
    refine ⟨(by show 8 ≤ sizeLine; decide), fun l4 nl4 => ?_⟩
    have f8 := f7.stays (o := .lst [.int 2, .int 3, .int 1, .int 4, .int 5, .int 60, .int a, .int c]) nl4
    have x48 : Ex1 p H4 (upd H7 l4 (.lst [.int 2, .int 3, .int 1, .int 4, .int 5, .int 60, .int a, .int c])) := ((x5.trans (Ex1.new nl3)).trans x7).trans (Ex1.new nl4)
    have el8 := x48 _ _ nlp ez
    refine ⟨_, rfl, .inl ⟨rfl, _, SqL.of el8⟩, ?_⟩
    refine ⟨_, rfl, _, rfl, p, 8, _, rfl, f8, by decide, by decide, by omega, fun d H9 d0 d1 f9 x9 => ?_⟩
    obtain ⟨g, hg, eg⟩ := at_list (f := V.int) (xs := [2, 3, 1, 4, 5, 60, a, c]) d0 (by simpa using d1)
    have gb : 0 ≤ g ∧ g ≤ 60 := by
      simp only [List.mem_cons, List.not_mem_nil, or_false] at hg hc
      omega
    refine ⟨l4, _, d, .int g, rfl, rfl, SqL.of (x9 _ _ (f7.not nl4) upd_same), eg, ?_⟩
    have el9 := x9 _ _ nlp el8
    refine ⟨l, _, _, rfl, rfl, el9, by rw [List.length_map]; omega, ?_⟩
    refine ⟨ex1_own nl (x3.trans (x48.trans x9)), (f9.le (by omega)).off nlp, ⟨z ++ [g], ?_, by simp [lz], ?_⟩, _, _, rfl⟩
    · rw [upd_same, List.map_append]
      rfl
    · intro y hy
      rcases List.mem_append.mp hy with hy | hy
      · exact hz y hy
      · rw [List.mem_singleton.mp hy]
        exact gb
  · rintro σ H3 ⟨x3, f3, ⟨z, ez, lz, hz⟩, y3, y4, rfl⟩
    exact ⟨_, rfl, q l z H3 x3 (f3.le (by omega)) nl gl ez (by omega) (by omega) hz⟩
end
end K23
end

section
set_option Elab.async false
set_option linter.all false
set_option maxRecDepth 100000
set_option maxHeartbeats 4000000
namespace K23
open PySem PySem.Spec PyProof.Rows L2 Gd Bx
/-- slabs in a list that is tracked -/
def SlabsL (K : PySem.W.Frag) (H : Hp) (a : Addr) (ss : List Slab) : Prop :=
  ∃ bs : List Addr, H a = some (.lst (bs.map V.ref)) ∧ bs.length = ss.length ∧ ∀ (i : Nat) (b : Addr) (s : Nat × Int), bs[i]? = some b → ss[i]? = some s → SqT K H b [.int (s.1 : Nat), .int s.2]
theorem SlabsL.at_ {K : PySem.W.Frag} {H : Hp} {a : Addr} {ss : List Slab} (h : SlabsL K H a ss) : SlabsAt K H a ss := by
  obtain ⟨bs, h1, h2, h3⟩ := h
  exact ⟨bs, SqL.of h1, h2, h3⟩
theorem SlabsL.tups {K : PySem.W.Frag} {H H' : Hp} {a : Addr} {ss : List Slab} (h : SlabsL K H a ss) (t : Tups K H H') (e : H' a = H a) : SlabsL K H' a ss := by
  obtain ⟨bs, h1, h2, h3⟩ := h
  exact ⟨bs, e.trans h1, h2, fun i b s e1 e2 => t _ _ (h3 i b s e1 e2)⟩
theorem SlabsL.drawn {K : PySem.W.Frag} {H H' : Hp} {p a : Addr} {S : Int} {ss : List Slab} (h : SlabsL K H a ss) (F : Feed H p S) (n : a ≠ p) (x : Ex1 p H H') : SlabsL K H' a ss := by
  obtain ⟨bs, h1, h2, h3⟩ := h
  exact ⟨bs, x _ _ n h1, h2, fun i b s e1 e2 => ex1_tup F x (h3 i b s e1 e2)⟩
theorem snoc_at {α : Type} {xs : List α} {x y : α} {i : Nat} (h : (xs ++ [x])[i]? = some y) : xs[i]? = some y ∨ (i = xs.length ∧ y = x) := by
  rw [List.getElem?_append] at h
  by_cases c : i < xs.length
  · rw [if_pos c] at h
    exact .inl h
  · rw [if_neg c] at h
    have e : i - xs.length = 0 := by
      cases z : i - xs.length with
      | zero => rfl
      | succ n => rw [z] at h; simp at h
    rw [e] at h
    exact .inr ⟨by omega, (Option.some.inj h).symm⟩
/-- found.append((k, g)) -/
theorem SlabsL.push {K : PySem.W.Frag} {H : Hp} {a b : Addr} {ss : List Slab} {k : Nat} {g : Int} (h : SlabsL K H a ss) (nb : H b = none) :
    ∃ xs : List V, upd H b (.tup [.int (k : Nat), .int g]) a = some (.lst xs) ∧ xs.length = ss.length ∧
      SlabsL K (upd (upd H b (.tup [.int (k : Nat), .int g])) a (.lst (xs ++ [.ref b]))) a (ss ++ [(k, g)]) := by
  obtain ⟨bs, h1, h2, h3⟩ := h
  have ne : a ≠ b := ne_of_none h1 nb
  have e1 : upd H b (.tup [.int (k : Nat), .int g]) a = some (.lst (bs.map V.ref)) := by
    rw [upd_ne ne]
    exact h1
  refine ⟨_, e1, by rw [List.length_map, h2], bs ++ [b], ?_, by simp [h2], ?_⟩
  · rw [upd_same, List.map_append]
    rfl
  · intro i c s ec es
    have T := Tups.upd_lst (K := K) (ys := bs.map V.ref ++ [.ref b]) e1
    rcases snoc_at ec with ec | ⟨ei, ec⟩
    · rcases snoc_at es with es | ⟨ej, es⟩
      · exact T _ _ (same_tup (new_same nb) (h3 i c s ec es))
      · have := at_lt ec
        omega
    · rcases snoc_at es with es | ⟨ej, es⟩
      · have := at_lt es
        omega
      · rw [ec, es]
        exact T _ _ (SqT.of upd_same)
abbrev nWhole : List Str := ["_law_feed_here", "_law_lengths", "_law_rest", "_law_lead", "_law_found", "_law_some", "_law_many"]
theorem scWhole : FnScope nWhole ["_law_feed_here", "_law_lengths"] (defScope sWhole) :=
  ⟨rfl, rfl, rfl, by decide +kernel, rfl, by decide +kernel, by decide +kernel⟩
def spWhole (K : PySem.W.Frag) : Sp := fun vs H Q _ => ∃ (p a : Addr) (S : Int) (z : List Int), vs = [.ref p, .ref a] ∧ Feed H p S ∧ S ≤ 100000000 ∧ H a = some (.lst (z.map V.int)) ∧ a ≠ p ∧ 1 ≤ z.length ∧ z.length ≤ 3 ∧ In 60 z ∧
  ∀ (l : Addr) (ss : List Slab) (H' : Hp), Ex1 p H H' → Feed H' p (S + 720) → H l = none → l ≠ sysModules → SlabsL K H' l ss → Leg z ss → (0 : Int) ∈ lft z ss → ss.length ≤ 180 → Q (.ref l) H'
section
variable {P : Program} {w : World} {K : PySem.W.Frag} {mg : Str → Option Value} {base : Heap} {f fT : Addr} {fd dT : FuncData}
theorem ok_whole (F : Fun K "_law_whole" "_law_whole" sWhole f fd) (ml : mg "list" = none) (mn : mg "len" = none) (mm : mg "min" = none) (FT : Fun K "_law_take" "_law_take" sTake fT dT) (bT : Binds K dT ["_law_feed_here", "_law_many"] []) (gT : mg "_law_take" = some (.ref fT)) :
    FnOk P w K mg base CX0 2 f fd ["_law_feed_here", "_law_lengths"] (spWhole K) := by
  have G : FnOk P w K mg base CX0 1 fT dT ["_law_feed_here", "_law_many"] spTake := ok_take FT
  refine F.ok scWhole (fun vs H Q E h => ?_) (fun cdv A outer s H vs Q E hr h => ?_)
  · obtain ⟨p, a, S, z, rfl, _⟩ := h
    rfl
  obtain ⟨p, a, S, z, rfl, hF, hS, ea, nap, l1, l3, hz, q⟩ := h
  have nd := scWhole.nd
  have zl : sizeLine = 16777216 := rfl
  obtain ⟨sz0, sz1⟩ := In.sum (by omega) hz
  refine ⟨_, pss_cons (ps_set (i := 2) nd rfl (.inl rfl) (pe_callTy call_list_of (by rfl) ml (by decide +kernel) (pa_cons (pv 1) pa_nil)))
    (pss_cons (ps_set (i := 3) nd rfl (.inl rfl) pe_int)
    (pss_cons (ps_set (i := 4) nd rfl (.inl rfl) (pe_lstS pa_nil))
    (pss_cons (ps_while PassesOwn.never (pt_cmpR op_notIn_seq pe_int (pv 2) (by with_unfolding_all rfl))
      (C8.pss_cut (ps_if (pt_cmpR op_gt (pe_call G hr (by rfl) gT FT.kp bT .nil pass0 (pa_cons (pv 0) (pa_cons pe_int pa_nil))) pe_int (nomark _))
        (pss_one (ps_set (i := 3) nd rfl (.inl rfl) (pe_call G hr (by rfl) gT FT.kp bT .nil pass0 (pa_cons (pv 0) (pa_cons (pe_callB call_len_seq (by rfl) mn PySem.boot_len (pa_cons (pv 2) pa_nil)) pa_nil))))) pss_nil)
      (pss_cons (ps_set (i := 5) nd rfl (.inl rfl) (pe_lst (pa_cons pe_int (pa_cons (pe_callB (call_min2 rfl) (by rfl) mm (by decide +kernel) (pa_cons pe_int (pa_cons (pe_ix ix_list (pv 2) (pv 3) (fun _ _ => rfl)) pa_nil)))
          (pa_cons pe_int (pa_cons (pe_op op_fdivN (pe_op op_add (pe_ix ix_list (pv 2) (pv 3) (fun _ _ => rfl)) pe_int) pe_int)
          (pa_cons (pe_op op_add pe_int (pe_call G hr (by rfl) gT FT.kp bT .nil pass0 (pa_cons (pv 0) (pa_cons (pe_ix ix_list (pv 2) (pv 3) (fun _ _ => rfl)) pa_nil))))
          (pa_cons (pe_ix ix_list (pv 2) (pv 3) (fun _ _ => rfl)) pa_nil))))))))
      (pss_cons (ps_set (i := 6) nd rfl (.inl rfl) (pe_ix ix_list (pv 5) (pe_call G hr (by rfl) gT FT.kp bT .nil pass0 (pa_cons (pv 0) (pa_cons pe_int pa_nil))) (fun _ _ => rfl)))
      (pss_cons (ps_expr (pe_bm PySem.F.plainAttrs_list PySem.F.slot_list_append PySem.F.type_list_append mt_append (pv 4) (pa_cons (pe_tup (pa_cons (pv 3) (pa_cons (pv 6) pa_nil))) pa_nil)))
      (pss_one (ps_asg (pe_op op_sub (pe_ix ix_list (pv 2) (pv 3) (fun _ _ => rfl)) (pv 6)) (pg_sub (pv 2) (pv 3) set_list))))))))
    (pss_one (ps_ret (pv 4)))))), ?_⟩
  refine ⟨_, rfl, a, _, rfl, .inl (SqL.of ea), fun l nl => ?_⟩
  have nlp := hF.not nl
  refine ⟨by decide, fun m nm gm => ?_⟩
  have nml : m ≠ l := fun e => by rw [e, upd_same] at nm; cases nm
  have nm0 : H m = none := by rw [upd_ne nml] at nm; exact nm
  have nmp := hF.not nm0
  refine ⟨fun μ σ H1 => ∃ (ss : List Slab) (k : Nat) (y5 y6 : Option V), μ = (lft z ss).sum.toNat ∧ Ex1 p H H1 ∧ Feed H1 p (S + 4 * ss.length) ∧ H1 l = some (.lst ((lft z ss).map V.int)) ∧ SlabsL K H1 m ss ∧ Leg z ss ∧ k < z.length ∧
      (ss.length : Int) + (lft z ss).sum ≤ z.sum ∧ σ = [some (.ref p), some (.ref a), some (.ref l), some (.int (k : Nat)), some (.ref m), y5, y6], ⟨_, [], 0, none, none, rfl, (Ex1.new nl).trans (Ex1.new nm), ?_, ?_, ?_, trivial, l1, by simp [lft], rfl⟩, ?_⟩
  · exact ((hF.stays nl).stays nm).le (by simp)
  · rw [upd_ne nml.symm]
    exact upd_same
  · exact ⟨[], upd_same, rfl, fun i b s e => nomatch e⟩
  rintro μ σ H1 ⟨ss, k, y5, y6, rfl, x1, f1, el, em, hL, hk, hsum, rfl⟩
  have hI := lft_in hz hL
  have ll : (lft z ss).length = z.length := lft_len
  obtain ⟨s0, s1⟩ := In.sum (by omega) hI
  have hn : (ss.length : Int) ≤ 180 := by
    have : (z.length : Int) ≤ 3 := by omega
    omega
  refine ⟨_, rfl, l, _, rfl, .inl (SqL.of el), rfl, flat_ints _, _, rfl, ?_⟩
  refine ite2 (fun e => ?_) (fun e => ?_)
  · have e : (!inV (.int 0) ((lft z ss).map V.int)) = true := e
    rw [in_ints] at e
    have n0 : (0 : Int) ∉ lft z ss := by simpa using e
    refine ⟨fun σ' H' => ∃ (ss' : List Slab) (k : Nat) (y5 y6 : Option V), Ex1 p H H' ∧ Feed H' p (S + 4 * ss'.length) ∧ H' l = some (.lst ((lft z ss').map V.int)) ∧ SlabsL K H' m ss' ∧ Leg z ss' ∧ k < z.length ∧
      (ss'.length : Int) + (lft z ss').sum ≤ z.sum ∧ (lft z ss').sum < (lft z ss).sum ∧ 0 ≤ (lft z ss').sum ∧ σ' = [some (.ref p), some (.ref a), some (.ref l), some (.int (k : Nat)), some (.ref m), y5, y6], ?_, ?_⟩
    · rintro σ' H' ⟨ss', k', y5', y6', a1, a2, a3, a4, a5, a6, a7, a8, a9, rfl⟩
      exact ⟨_, by omega, ss', k', y5', y6', rfl, a1, a2, a3, a4, a5, a6, a7, rfl⟩
    refine ⟨fun σ' H' => Ex1 p H1 H' ∧ Feed H' p (S + 4 * ss.length + 2) ∧ ∃ k : Nat, k < z.length ∧ σ' = [some (.ref p), some (.ref a), some (.ref l), some (.int (k : Nat)), some (.ref m), y5, y6], ?_, ?_⟩
    · refine ⟨_, rfl, p, 3, _, rfl, f1, by decide, by decide, by omega, fun b H2 b0 b1 f2 x2 => ?_⟩
      refine ⟨_, _, rfl, rfl, _, rfl, ite2 (fun c => ?_) (fun c => ?_)⟩
      · refine ⟨_, rfl, _, rfl, l, _, rfl, .inl (SqL.of (x2 _ _ nlp el)), p, _, _, rfl, f2, ?_, ?_, by omega, fun d H3 d0 d1 f3 x3 => ?_⟩
        · rw [List.length_map]; omega
        · rw [List.length_map]; omega
        · rw [List.length_map] at d1
          refine ⟨x2.trans x3, f3.le (by omega), d.toNat, by omega, ?_⟩
          rw [show ((d.toNat : Nat) : Int) = d by omega]
          rfl
      · exact ⟨x2, f2.le (by omega), k, hk, rfl⟩
    rintro σ2 H2 ⟨x2, f2, k, hk, rfl⟩
    have el2 := x2 _ _ nlp el
    have em2 := em.drawn f1 nmp x2
    have hkl : k < (lft z ss).length := by omega
    have gk := hI _ (Bx.getD_mem hkl)
    have gk1 : 1 ≤ (lft z ss).getD k 0 := by
      have : (lft z ss).getD k 0 ≠ 0 := fun e => n0 (e ▸ Bx.getD_mem hkl)
      omega
    generalize hR : (lft z ss).getD k 0 = R at *
    have at2 : atI ((lft z ss).map V.int) ((k : Nat) : Int) = some (.int R) := by
      rw [← hR]
      exact ints_atI hkl
    refine ⟨_, rfl, _, rfl, l, _, _, _, rfl, rfl, SqL.of el2, at2, _, _, rfl, ?_⟩
    refine ⟨_, rfl, _, rfl, l, _, _, _, rfl, rfl, SqL.of el2, at2, _, _, rfl, rfl, _, _, rfl, rfl, ⟨by omega, by omega⟩, ?_⟩
    refine ⟨_, rfl, _, rfl, _, rfl, l, _, _, _, rfl, rfl, SqL.of el2, at2, p, R, _, rfl, f2, by omega, by omega, by omega, fun c H3 c0 c1 f3 x3 => ?_⟩
    have el3 := x3 _ _ nlp el2
    refine ⟨_, _, rfl, rfl, _, rfl, _, rfl, l, _, _, _, rfl, rfl, SqL.of el3, at2, ?_⟩
    refine ⟨(by show 6 ≤ sizeLine; decide), fun o no => ?_⟩
    have f4 := f3.stays (o := .lst [.int 1, .int (if R < 2 then R else 2), .int 1, .int ((R + 1).fdiv 2), .int (1 + c), .int R]) no
    refine ⟨_, rfl, _, rfl, p, 6, _, rfl, f4, by decide, by decide, by omega, fun d H5 d0 d1 f5 x5 => ?_⟩
    obtain ⟨g, hg, eg⟩ := at_list (f := V.int) (xs := [1, if R < 2 then R else 2, 1, (R + 1).fdiv 2, 1 + c, R]) d0 (by simpa using d1)
    have gb : 1 ≤ g ∧ g ≤ R := by
      rw [fdiv2] at hg
      simp only [List.mem_cons, List.not_mem_nil, or_false] at hg
      split at hg <;> omega
    refine ⟨o, _, d, .int g, rfl, rfl, SqL.of (x5 _ _ (f3.not no) upd_same), eg, ?_⟩
    have x35 : Ex1 p H2 H5 := (x3.trans (Ex1.new no)).trans x5
    have el5 := x35 _ _ nlp el2
    have em5 := em2.drawn f2 nmp x35
    obtain ⟨bs, ebs, _⟩ := id em5
    refine ⟨_, rfl, .inl ⟨rfl, _, SqL.of ebs⟩, _, rfl, _, rfl, (by show 2 ≤ sizeLine; decide), fun b nb => ?_⟩
    obtain ⟨xs, exs, lxs, em6⟩ := em5.push (k := k) (g := g) nb
    refine ⟨m, xs, _, rfl, rfl, exs, by rw [lxs]; omega, ?_⟩
    have nbl : l ≠ b := ne_of_none el5 nb
    have el6 : upd (upd H5 b (.tup [.int (k : Nat), .int g])) m (.lst (xs ++ [.ref b])) l = some (.lst ((lft z ss).map V.int)) := by
      rw [upd_ne nml.symm, upd_ne nbl]
      exact el5
    refine ⟨_, rfl, _, rfl, l, _, _, _, rfl, rfl, SqL.of el6, at2, _, rfl, _, _, rfl, rfl, ?_⟩
    refine ⟨_, rfl, _, rfl, l, _, _, k, rfl, rfl, el6, ixN_nat (by rw [List.length_map]; exact hkl), ?_⟩
    have eR : lft z (ss ++ [(k, g)]) = red (lft z ss) (k, g) := lft_snoc
    have esum : (lft z (ss ++ [(k, g)])).sum = (lft z ss).sum - g := by rw [eR, sum_red hkl]
    have hL2 : Leg z (ss ++ [(k, g)]) := hL.snoc n0 hk gb.1 (by show g ≤ (lft z ss).getD k 0; rw [hR]; exact gb.2)
    have hI2 := In.sum (by omega) (lft_in hz hL2)
    refine ⟨ss ++ [(k, g)], k, _, _, ?_, ?_, ?_, ?_, hL2, hk, ?_, ?_, hI2.1, rfl⟩
    · exact ex1_own nl (ex1_own nm0 (((x1.trans x2).trans x35).trans (Ex1.new nb)))
    · refine (((f5.stays nb).off nmp).off nlp).le ?_
      simp only [List.length_append, List.length_singleton]
      omega
    · rw [upd_same, eR, map_set]
      show some (HO.lst (((lft z ss).set k (R - g)).map V.int)) = _
      rw [← hR]
      rfl
    · refine em6.tups (Tups.upd_lst el6) ?_
      rw [upd_ne nml]
    · rw [esum]
      simp only [List.length_append, List.length_singleton]
      omega
    · rw [esum]
      omega
  · have e : ¬ ((!inV (.int 0) ((lft z ss).map V.int)) = true) := e
    rw [in_ints] at e
    have n0 : (0 : Int) ∈ lft z ss := by simpa using e
    exact ⟨_, rfl, q m ss H1 x1 (f1.le (by omega)) nm0 gm em hL n0 (by omega)⟩
end
end K23
end

section
set_option Elab.async false
set_option linter.all false
set_option maxRecDepth 100000
set_option maxHeartbeats 4000000
namespace K23
open PySem PySem.Spec PyProof.Rows L2 Gd Bx
abbrev sSl : Stmt := topS 12
abbrev sDone : Stmt := topS 13
abbrev nSl : List Str := ["_law_one", "_law_lengths", "_law_part"]
theorem scSl : FnScope nSl ["_law_one", "_law_lengths"] (defScope sSl) :=
  ⟨rfl, rfl, rfl, by decide +kernel, rfl, by decide +kernel, by decide +kernel⟩
abbrev nDone : List Str := ["_law_lengths", "_law_slabs", "_law_source", "_law_lead", "_law_many"]
theorem scDone : FnScope nDone ["_law_lengths", "_law_slabs"] (defScope sDone) :=
  ⟨rfl, rfl, rfl, by decide +kernel, rfl, by decide +kernel, by decide +kernel⟩
def spSl (K : PySem.W.Frag) : Sp := fun vs H Q _ => ∃ (v : V) (a : Addr) (N : Addr → Prop) (z : List Int) (d : PyData), vs = [v, .ref a] ∧ Dd K H N v d ∧ SqL K H a (z.map V.int) ∧
  ∀ H', Same H H' → Q (.bl (asSlab z.length d).isSome) H'
theorem sl_two {n : Nat} {i m : Int} : (asSlab n (.tuple [.int i, .int m])).isSome = (decide (0 ≤ i) && (decide (i < (n : Int)) && decide (1 ≤ m))) := by
  unfold asSlab
  dsimp only
  by_cases h : 0 ≤ i ∧ i < (n : Int) ∧ 1 ≤ m
  · rw [if_pos h, decide_eq_true h.1, decide_eq_true h.2.1, decide_eq_true h.2.2]
    rfl
  · rw [if_neg h]
    by_cases h1 : 0 ≤ i
    · by_cases h2 : i < (n : Int)
      · rw [decide_eq_false (p := 1 ≤ m) (fun h3 => h ⟨h1, h2, h3⟩), Bool.and_false, Bool.and_false]
        rfl
      · rw [decide_eq_false h2, Bool.false_and, Bool.and_false]
        rfl
    · rw [decide_eq_false h1, Bool.false_and]
      rfl
theorem sl_not {n : Nat} {d1 d2 : PyData} (h : isWh d1 = false ∨ isWh d2 = false) : (asSlab n (.tuple [d1, d2])).isSome = false := by
  cases d1 with
  | int i =>
    cases d2 with
    | int m =>
      rcases h with h | h
      · cases h
      · cases h
    | _ => rfl
  | _ => rfl
theorem sl_len {n : Nat} {ds : List PyData} (h : ds.length ≠ 2) : (asSlab n (.tuple ds)).isSome = false := by
  match ds with
  | [] => rfl
  | [x] => cases x <;> rfl
  | [_, _] => exact absurd rfl h
  | a :: b :: _ :: _ => cases a <;> first | rfl | (cases b <;> rfl)
theorem sl_tu {n : Nat} {d : PyData} (h : isTu d = false) : (asSlab n d).isSome = false := by
  cases d with
  | tuple ds => cases h
  | _ => rfl
theorem all_snoc {α : Type} {p : α → Bool} {l : List α} {x : α} : (l ++ [x]).all p = (l.all p && p x) := by simp
section
variable {P : Program} {w : World} {K : PySem.W.Frag} {mg : Str → Option Value} {base : Heap} {f : Addr} {fd : FuncData}
theorem ok_sl (F : Fun K "_law_is_slab" "_law_is_slab" sSl f fd) (mi : mg "isinstance" = none) (mt : mg "tuple" = none) (mn : mg "int" = none) (mb : mg "bool" = none) (ml : mg "len" = none) :
    FnOk P w K mg base CX0 1 f fd ["_law_one", "_law_lengths"] (spSl K) := by
  refine F.ok scSl (fun vs H Q E h => ?_) (fun cdv A outer s H vs Q E hr h => ?_)
  · obtain ⟨v, a, N, z, d, rfl, _⟩ := h
    rfl
  obtain ⟨v, a, N, z, d, rfl, hd, ha, q⟩ := h
  have nd := scSl.nd
  have zl : sizeLine = 16777216 := rfl
  refine ⟨_, pss_cons (ps_if (PW.pt (pw_or (pt_not (pt_val (pe_callB call_isi (by rfl) mi (by decide +kernel) (pa_cons (pv 0) (pa_cons (pe_bltn (v := .ty "tuple") (by rfl) mt (by decide +kernel) rfl) pa_nil)))))
      (pw_or1 (pt_cmpR op_ne (pe_callB call_len_seq (by rfl) ml PySem.boot_len (pa_cons (pv 0) pa_nil)) pe_int (nomark _))))) (pss_one (ps_ret pe_bl)) pss_nil)
    (pss_cons (ps_if (pt_cmpR (op_neL0 hr.units0) (pe_lc (own := [("_law_part", 2)]) (g := gName 2) rfl nd (pi_tup (pv 0)) (blkOk_by (N := nSl) (sc := defScope sSl) (by decide +kernel))
        (fun _ _ _ _ _ => pg_name (i := 2) nd rfl (Or.inl rfl))
        (fun _ _ _ _ _ => pts_one (PW.pt (pw_or (pt_not (pt_val (pe_callB (r := rIsi K) call_isi (by rfl) mi (by decide +kernel) (pa_cons (pv 2) (pa_cons (pe_bltn (v := .ty "int") (by rfl) mn (by decide +kernel) rfl) pa_nil)))))
          (pw_or1 (pt_val (pe_callB (r := rIsi K) call_isi (by rfl) mi (by decide +kernel) (pa_cons (pv 2) (pa_cons (pe_bltn (v := .ty "bool") (by rfl) mb (by decide +kernel) rfl) pa_nil))))))))
        (fun _ _ _ _ _ => pv 2)) (pe_lst pa_nil) (nomark _)) (pss_one (ps_ret pe_bl)) pss_nil)
    (pss_one (ps_ret (pe_and (pe_chain op_le op_lt pe_int (pe_ix ix_tup (pv 0) pe_int (fun _ _ => rfl)) (pe_callB call_len_seq (by rfl) ml PySem.boot_len (pa_cons (pv 1) pa_nil)))
      (pe_one (pe_cmpR op_gt (pe_ix ix_tup (pv 0) pe_int (fun _ _ => rfl)) pe_int (nomark _))))))), ?_⟩
  have no : (asSlab z.length d).isSome = false → ∀ H', Same H H' → Q (.bl false) H' := fun e H' s => by
    have y := q H' s
    rw [e] at y
    exact y
  have rf : Same H H := fun _ _ e => e
  refine ⟨_, rfl, _, _, _, _, isTu d, rfl, .ty _, hd.kind, kit_ty (q_tup d), _, rfl, ?_⟩
  cases et : isTu d with
  | false => exact iteT (no (sl_tu et) _ rf)
  | true =>
  refine iteF ?_
  cases d with
  | tuple ds =>
    cases hd with
    | @tup b xs _ hS hA =>
    have hlen := hA.len
    refine ⟨_, rfl, b, xs, rfl, .inr hS, rfl, _, rfl, ?_⟩
    by_cases hl : xs.length = 2
    · obtain ⟨v1, v2, d1, d2, rfl, rfl, h1, h2⟩ := two_of hA hl
      refine iteF ?_
      refine ⟨_, rfl, b, rfl, ⟨_, hS⟩, fun m nm => ?_⟩
      refine lc_it walk_tup (fun i H1 => Same H H1 ∧ ∃ acc, H1 m = some (.lst acc) ∧ acc.length ≤ i ∧ acc.isEmpty = (([d1, d2] : List PyData).take i).all isWh) ⟨new_same nm, _, upd_same, Nat.le_refl _, rfl⟩ (fun i H1 _ h => same_tup h.1 hS) ?_ ?_
      · rintro i x H1 H2 hi ⟨s1, acc, em, la, he⟩ ⟨rfl, ex⟩
        obtain ⟨di, ed, hdi⟩ := hA.at_ ex
        have hdi := hdi.same s1
        have eT : (([d1, d2] : List PyData).take (i + 1)).all isWh = ((([d1, d2] : List PyData).take i).all isWh && isWh di) := by
          rw [take_at ed, all_snoc]
        refine ⟨rfl, ?_⟩
        have kept : isWh di = false → ∃ acc', H2 m = some (.lst acc') ∧ acc'.length < sizeLine ∧ (Same H (upd H2 m (.lst (acc' ++ [x]))) ∧ ∃ acc, upd H2 m (.lst (acc' ++ [x])) m = some (.lst acc) ∧ acc.length ≤ i + 1 ∧ acc.isEmpty = (([d1, d2] : List PyData).take (i + 1)).all isWh) := fun e => by
          have hi : i < 2 := hi
          refine ⟨acc, em, by omega, own_same nm s1, acc ++ [x], upd_same, by rw [List.length_append]; show acc.length + 1 ≤ i + 1; omega, ?_⟩
          rw [eT, e, Bool.and_false]
          cases acc <;> rfl
        refine ⟨_, rfl, _, _, _, _, isIn di, rfl, .ty _, hdi.kind, kit_ty (q_int di), _, rfl, ?_⟩
        cases eI : isIn di with
        | false => exact iteT ⟨_, rfl, kept (by rw [← isWh_eq, eI]; rfl)⟩
        | true =>
        refine iteF ⟨_, rfl, _, _, _, _, isBo di, rfl, .ty _, hdi.kind, kit_ty (q_boo di), _, rfl, ?_⟩
        cases eB : isBo di with
        | true => exact iteT ⟨_, rfl, kept (by rw [← isWh_eq, eI, eB]; rfl)⟩
        | false =>
          refine iteF ⟨s1, acc, em, by omega, ?_⟩
          rw [eT, ← isWh_eq, eI, eB, he]
          simp
      rintro H1 ⟨s1, acc, em, la, he⟩
      refine ⟨(by show 0 ≤ sizeLine; decide), fun n nn => ?_⟩
      have j2 := new_same (o := .lst []) nn
      have s2 := s1.trans j2
      refine ⟨m, n, _, rfl, rfl, SqL.of (j2 _ _ em), SqL.of upd_same, ?_⟩
      have he : acc.isEmpty = (isWh d1 && (isWh d2 && true)) := he
      refine ⟨_, rfl, ?_⟩
      show ite ((!acc.isEmpty) = true) _ _
      cases e1 : isWh d1 with
      | false =>
        rw [he, e1]
        exact iteT (no (sl_not (.inl e1)) _ s2)
      | true =>
      cases e2 : isWh d2 with
      | false =>
        rw [he, e1, e2]
        exact iteT (no (sl_not (.inr e2)) _ s2)
      | true =>
      rw [he, e1, e2]
      refine iteF ?_
      obtain ⟨i, rfl, rfl⟩ := isWh_int h1 e1
      obtain ⟨k, rfl, rfl⟩ := isWh_int h2 e2
      have zq := q _ s2
      rw [sl_two] at zq
      have hS2 := same_tup s2 hS
      refine ⟨_, rfl, b, _, 0, .int i, rfl, rfl, hS2, atI_nat (j := 0) rfl, _, _, rfl, rfl, _, rfl, ite2 (fun c1 => ?_) (fun c1 => ?_)⟩
      · have c1 : decide (0 ≤ i) = true := c1
        rw [c1, Bool.true_and] at zq
        refine ⟨_, rfl, a, _, rfl, .inl (s2.seq ha), _, _, rfl, rfl, _, rfl, ?_⟩
        rw [List.length_map]
        refine ite2 (fun c2 => ?_) (fun c2 => ?_)
        · have c2 : decide (i < ((z.length : Nat) : Int)) = true := c2
          rw [c2, Bool.true_and] at zq
          refine ⟨_, rfl, b, _, 1, .int k, rfl, rfl, hS2, atI_nat (j := 1) rfl, _, _, rfl, rfl, ?_⟩
          show Q (.bl (decide ((0 : Int) < k))) _
          rw [show decide ((0 : Int) < k) = decide (1 ≤ k) from decide_eq_decide.mpr (by omega)]
          exact zq
        · have c2 : decide (i < ((z.length : Nat) : Int)) = false := Bool.eq_false_iff.mpr c2
          rw [c2, Bool.false_and] at zq
          exact zq
      · have c1 : decide (0 ≤ i) = false := Bool.eq_false_iff.mpr c1
        rw [c1, Bool.false_and] at zq
        exact ⟨_, rfl, zq⟩
    · refine ite2 (fun _ => no (sl_len (by omega)) _ rf) (fun e => absurd ?_ e)
      show (!decide (V.int ((xs.length : Nat) : Int) = V.int 2)) = true
      rw [decide_eq_false (fun y => hl (by have := V.int.inj y; omega))] <;> rfl
  | _ => exact Bool.noConfusion et

def spDone (K : PySem.W.Frag) : Sp := fun vs H Q _ => ∃ (a b : Addr) (N : Addr → Prop) (z : List Int) (xs : List V) (ss : List Slab), vs = [.ref a, .ref b] ∧ SqL K H a (z.map V.int) ∧ SqL K H b xs ∧ DdAll K H N xs (ss.map sD) ∧
  ss.length ≤ 1000 ∧ z.length ≤ 1000 ∧ ∀ (l : Addr) (H' : Hp), Same H H' → H l = none → H' l = some (.lst ((dnL z.length ss).map V.int)) → Q (.ref l) H'
def outSc : Scope := match defBody sDone with
  | [.Return (some (.ListComp _ _ sc _)) _] => relS sc (defScope sDone)
  | _ => defScope sDone
def ofS (i : Nat) (ss : List Slab) : List Int := (ss.filter fun s => decide (s.1 = i)).map (·.2)
theorem walk_upto {n : Nat} : Walk (Itr 0 n) n (fun _ => True) (YFn fun i => .int ((i : Nat) : Int)) :=
  walk_range.mono (fun _ _ => trivial) (fun i H x H' _ _ y => ⟨y.1, y.2.trans (by show V.int (0 + ((i : Nat) : Int)) = V.int ((i : Nat) : Int); rw [Int.zero_add])⟩)
theorem ofS_snoc {i : Nat} {ss : List Slab} {s : Slab} : ofS i (ss ++ [s]) = ofS i ss ++ (if s.1 = i then [s.2] else []) := by
  unfold ofS
  rw [List.filter_append, List.map_append]
  by_cases h : s.1 = i
  · rw [if_pos h, List.filter_cons_of_pos (by simpa using h)]
    rfl
  · rw [if_neg h, List.filter_cons_of_neg (by simpa using h)]
    rfl
theorem ofS_len {i : Nat} {ss : List Slab} : (ofS i ss).length ≤ ss.length := by
  unfold ofS
  rw [List.length_map]
  exact List.length_filter_le ..
theorem ok_done (F : Fun K "_law_done" "_law_done" sDone f fd) (mr : mg "range" = none) (ml : mg "len" = none) (mu : mg "sum" = none) :
    FnOk P w K mg base CX0 1 f fd ["_law_lengths", "_law_slabs"] (spDone K) := by
  refine F.ok scDone (fun vs H Q E h => ?_) (fun cdv A outer s H vs Q E hr h => ?_)
  · obtain ⟨a, b, N, z, xs, ss, rfl, _⟩ := h
    rfl
  obtain ⟨a, b, N, z, xs, ss, rfl, ha, hb, hA, l1, l2, q⟩ := h
  have nd := scDone.nd
  have zl : sizeLine = 16777216 := rfl
  refine ⟨_, pss_one (ps_ret (pe_lc (own := [("_law_source", 2)]) (g := gName 2) (tt := tYes) rfl nd (pi_range1 (by rfl) mr (pa_cons (pe_callB call_len_seq (by rfl) ml PySem.boot_len (pa_cons (pv 0) pa_nil)) pa_nil))
      (blkOk_by (N := nDone) (sc := defScope sDone) (by decide +kernel)) (fun _ _ _ _ _ => pg_name (i := 2) nd rfl (Or.inr rfl)) (fun _ _ _ _ _ => pts_nil)
      (fun _ _ _ _ _ => pe_callB (r := rSum K) (cr_sum rfl) (by rfl) mu (by decide +kernel) (pa_cons
        (pe_lc (own := [("_law_lead", 3), ("_law_many", 4)]) (g := gTup K 2 (gCons (gName 3) (gCons (gName 4) gNil))) (wi := iList K _) rfl nd (pi_list (pv 1))
          (blkOk_by (N := nDone) (sc := outSc) (by decide +kernel))
          (fun _ _ _ _ _ => by exact pg_tup rfl (pgs_cons (pg_name (i := 3) nd rfl (Or.inl rfl)) (pgs_cons (pg_name (i := 4) nd rfl (Or.inl rfl)) pgs_nil)))
          (fun _ _ _ _ _ => pts_one (pt_cmpR op_eq (pv 3) (pv 2) (nomark _))) (fun _ _ _ _ _ => pv 4)) pa_nil)))), ?_⟩
  refine ⟨_, rfl, a, _, rfl, .inl ha, _, rfl, ?_⟩
  rw [List.length_map]
  refine ⟨by omega, by omega, fun l nl => ?_⟩
  refine lc_it walk_upto (fun i H1 => Same H H1 ∧ H1 l = some (.lst (((dnL z.length ss).take i).map V.int))) ⟨new_same nl, upd_same⟩ (fun _ _ _ _ => trivial) ?_ ?_
  · rintro i x H1 H2 hi ⟨s1, el⟩ ⟨rfl, rfl⟩
    have hi : i < z.length := hi
    refine ⟨rfl, ?_⟩
    refine ⟨_, rfl, b, rfl, ⟨_, s1.seq hb⟩, fun m nm => ?_⟩
    have nml : l ≠ m := ne_of_none el nm
    have nm0 : H m = none := s1.free nm
    refine lc_it walk_list (fun j H3 => Same H2 H3 ∧ H3 m = some (.lst ((ofS i (ss.take j)).map V.int))) ⟨new_same nm, upd_same⟩ (fun j H3 _ h => (s1.trans h.1).seq hb) ?_ ?_
    · rintro j x H3 H4 hj ⟨s3, em⟩ ⟨rfl, ex⟩
      obtain ⟨dj, ed, hdj⟩ := hA.at_ ex
      rw [List.getElem?_map, Option.map_eq_some_iff] at ed
      obtain ⟨t, et, rfl⟩ := ed
      have hdj := hdj.same (s1.trans s3)
      obtain ⟨b1, rfl, tt⟩ := dds hdj
      have hjl := at_lt et
      have lo := ofS_len (i := i) (ss := ss.take j)
      rw [List.length_take] at lo
      refine ⟨b1, _, rfl, tt, rfl, _, _, rfl, _, _, rfl, rfl, rfl, ?_⟩
      refine ⟨_, rfl, _, rfl, rfl, _, rfl, ite2 (fun e => ?_) (fun e => ?_)⟩
      · have e2 : t.1 = i := by
          have y := V.int.inj (of_decide_eq_true e)
          omega
        refine ⟨_, rfl, _, em, by rw [List.length_map]; omega, own_same nm s3, ?_⟩
        rw [upd_same, take_at et, ofS_snoc, if_pos e2, List.map_append]
        rfl
      · have e2 : ¬ t.1 = i := fun y => e (decide_eq_true (by rw [y]))
        refine ⟨s3, ?_⟩
        rw [em, take_at et, ofS_snoc, if_neg e2, List.append_nil]
    · rintro H3 ⟨s3, em⟩
      rw [hA.len, List.length_map, List.take_length] at em
      have el3 := s3 _ _ el
      refine ⟨m, _, rfl, SqL.of em, ?_⟩
      refine ⟨_, el3, by rw [List.length_map, List.length_take]; omega, own_same nl (s1.trans s3), ?_⟩
      rw [upd_same, take_at (dnL_at hi), List.map_append]
      rfl
  · rintro H1 ⟨s1, el⟩
    refine q l H1 s1 nl ?_
    rw [el, List.take_of_length_le (by rw [dnL_len]; exact Nat.le_refl _)]
end
end K23
end

section
set_option Elab.async false
set_option linter.all false
set_option maxRecDepth 100000
set_option maxHeartbeats 4000000
namespace K23
open PySem PySem.Spec PyProof.Rows L2 Gd Bx
abbrev sDue : Stmt := topS 14
abbrev nDue : List Str := ["_law_lengths", "_law_what", "_law_ahead", "_law_through", "_law_one", "_law_size", "_law_done_here"]
theorem scDue : FnScope nDue ["_law_lengths", "_law_what"] (defScope sDue) :=
  ⟨rfl, rfl, rfl, by decide +kernel, rfl, by decide +kernel, by decide +kernel⟩
def lenD : PyData → Nat
  | .list ds => ds.length
  | _ => 0
def spDue (K : PySem.W.Frag) : Sp := fun vs H Q _ => ∃ (a : Addr) (v : V) (N : Addr → Prop) (z : List Int) (d : PyData), vs = [.ref a, v] ∧ SqL K H a (z.map V.int) ∧ Th K H N v d ∧ z.length ≤ 1000 ∧ (∀ i, i < z.length → 0 ≤ z.getD i 0) ∧ lenD d ≤ 1000 ∧
  ∀ H', Same H H' → Q (.bl (wholeD z d)) H'
theorem walk_two {K : PySem.W.Frag} {a b : Addr} {xs ys : List Int} {n : Nat} (hx : xs.length = n) (hy : ys.length = n) :
    Walk (Itz K a b) n (fun H => SqL K H a (xs.map V.int) ∧ SqL K H b (ys.map V.int)) (YPair (fun i => (xs.map V.int)[i]?) (fun i => (ys.map V.int)[i]?)) :=
  walk_zip (by rw [List.length_map, List.length_map, hx, hy]; simp)
def ones (p : Int × Int → Bool) (l : List (Int × Int)) : List V := (l.filter p).map fun _ => V.int 1
theorem ones_yes {p : Int × Int → Bool} {l : List (Int × Int)} {j : Nat} {x : Int × Int} (h : l[j]? = some x) (hp : p x = true) : ones p (l.take (j + 1)) = ones p (l.take j) ++ [V.int 1] := by
  unfold ones
  rw [take_at h, List.filter_append, List.map_append, List.filter_cons_of_pos (by simpa using hp)]
  rfl
theorem ones_no {p : Int × Int → Bool} {l : List (Int × Int)} {j : Nat} {x : Int × Int} (h : l[j]? = some x) (hp : ¬ p x = true) : ones p (l.take (j + 1)) = ones p (l.take j) := by
  unfold ones
  rw [take_at h, List.filter_append, List.map_append, List.filter_cons_of_neg (by simpa using hp)]
  simp
theorem ones_len {p : Int × Int → Bool} {l : List (Int × Int)} {j : Nat} : (ones p (l.take j)).length ≤ j := by
  unfold ones
  rw [List.length_map]
  refine Nat.le_trans (List.length_filter_le ..) ?_
  rw [List.length_take]
  omega
theorem ones_emp {p : Int × Int → Bool} {l : List (Int × Int)} : (ones p l).isEmpty = (l.filter p).isEmpty := by
  unfold ones
  rw [List.isEmpty_map]
theorem cut_last {xs : List V} : cutV xs none (some (-1)) = xs.take (xs.length - 1) := by
  unfold cutV
  rw [HT.sIx_none, List.drop_zero, Nat.sub_zero]
  show xs.take (if (-1 : Int) < 0 then ((-1 : Int) + (xs.length : Int)).toNat else min (-1 : Int).toNat xs.length) = _
  rw [if_pos (by decide)]
  congr 1
  omega
section
variable {P : Program} {w : World} {K : PySem.W.Frag} {mg : Str → Option Value} {base : Heap} {f fS fD : Addr} {fd dS dD : FuncData}
theorem ok_due (F : Fun K "_law_due" "_law_due" sDue f fd) (mi : mg "isinstance" = none) (ml : mg "list" = none) (mz : mg "zip" = none)
    (FS : Fun K "_law_is_slab" "_law_is_slab" sSl fS dS) (GS : FnOk P w K mg base CX0 1 fS dS ["_law_one", "_law_lengths"] (spSl K)) (bS : Binds K dS ["_law_one", "_law_lengths"] []) (gS : mg "_law_is_slab" = some (.ref fS))
    (FD : Fun K "_law_done" "_law_done" sDone fD dD) (GD : FnOk P w K mg base CX0 1 fD dD ["_law_lengths", "_law_slabs"] (spDone K)) (bD : Binds K dD ["_law_lengths", "_law_slabs"] []) (gD : mg "_law_done" = some (.ref fD)) :
    FnOk P w K mg base CX0 2 f fd ["_law_lengths", "_law_what"] (spDue K) := by
  refine F.ok scDue (fun vs H Q E h => ?_) (fun cdv A outer s H vs Q E hr h => ?_)
  · obtain ⟨a, v, N, z, d, rfl, _⟩ := h
    rfl
  obtain ⟨a, v, N, z, d, rfl, ha, ht, hz, h0, hl, q⟩ := h
  have nd := scDue.nd
  have zl : sizeLine = 16777216 := rfl
  refine ⟨_, pss_cons (ps_if (PW.pt (pw_or (pt_not (pt_val (pe_callB call_isi (by rfl) mi (by decide +kernel) (pa_cons (pv 1) (pa_cons (pe_bltn (v := .ty "list") (by rfl) ml (by decide +kernel) rfl) pa_nil)))))
      (pw_or1 (pt_cmpR (op_neL0 hr.units0) (pe_lc (own := [("_law_one", 4)]) (g := gName 4) rfl nd (pi_list (pv 1)) (blkOk_by (N := nDue) (sc := defScope sDue) (by decide +kernel)) (fun _ _ _ _ _ => pg_name (i := 4) nd rfl (Or.inl rfl))
        (fun _ _ _ _ _ => pts_one (pt_not (pt_val (pe_call GS hr (by rfl) gS FS.kp bS .nil pass0 (pa_cons (pv 4) (pa_cons (pv 0) pa_nil))))))
        (fun _ _ _ _ _ => pv 4)) (pe_lst pa_nil) (nomark _))))) (pss_one (ps_ret pe_bl)) pss_nil)
    (pss_cons (ps_if (pt_cmpR (op_neL0 hr.units0) (pe_lc (own := [("_law_size", 5), ("_law_done_here", 6)]) (g := gTup K 2 (gCons (gName 5) (gCons (gName 6) gNil))) rfl nd (pi_zip (by rfl) mz (pa_cons (pv 0) (pa_cons (pe_call GD hr (by rfl) gD FD.kp bD .nil pass0 (pa_cons (pv 0) (pa_cons (pv 1) pa_nil))) pa_nil)))
        (blkOk_by (N := nDue) (sc := defScope sDue) (by decide +kernel)) (fun _ _ _ _ _ => by exact pg_tup rfl (pgs_cons (pg_name (i := 5) nd rfl (Or.inl rfl)) (pgs_cons (pg_name (i := 6) nd rfl (Or.inl rfl)) pgs_nil)))
        (fun _ _ _ _ _ => pts_one (pt_cmpR op_gt (pv 6) (pv 5) (nomark _))) (fun _ _ _ _ _ => pe_int)) (pe_lst pa_nil) (nomark _)) (pss_one (ps_ret pe_bl)) pss_nil)
    (pss_cons (ps_setLc (i := 2) (own := [("_law_size", 5), ("_law_done_here", 6)]) (g := gTup K 2 (gCons (gName 5) (gCons (gName 6) gNil))) rfl nd rfl rfl (by rfl) (pi_zip (by rfl) mz (pa_cons (pv 0) (pa_cons (pe_call GD hr (by rfl) gD FD.kp bD .nil pass0 (pa_cons (pv 0) (pa_cons (pe_slice sl_list (pv 1) po_none (po_some (pe_un un_neg pe_int))) pa_nil))) pa_nil)))
        (blkOk_by (N := nDue) (sc := defScope sDue) (by decide +kernel)) (fun _ _ _ _ _ => by exact pg_tup rfl (pgs_cons (pg_name (i := 5) nd rfl (Or.inl rfl)) (pgs_cons (pg_name (i := 6) nd rfl (Or.inl rfl)) pgs_nil)))
        (fun _ _ _ _ _ => pts_one (pt_cmpR op_eq (pv 6) (pv 5) (nomark _))) (fun _ _ _ _ _ => pe_int))
    (pss_cons (ps_setLc (i := 3) (own := [("_law_size", 5), ("_law_done_here", 6)]) (g := gTup K 2 (gCons (gName 5) (gCons (gName 6) gNil))) rfl nd rfl rfl (by rfl) (pi_zip (by rfl) mz (pa_cons (pv 0) (pa_cons (pe_call GD hr (by rfl) gD FD.kp bD .nil pass0 (pa_cons (pv 0) (pa_cons (pv 1) pa_nil))) pa_nil)))
        (blkOk_by (N := nDue) (sc := defScope sDue) (by decide +kernel)) (fun _ _ _ _ _ => by exact pg_tup rfl (pgs_cons (pg_name (i := 5) nd rfl (Or.inl rfl)) (pgs_cons (pg_name (i := 6) nd rfl (Or.inl rfl)) pgs_nil)))
        (fun _ _ _ _ _ => pts_one (pt_cmpR op_eq (pv 6) (pv 5) (nomark _))) (fun _ _ _ _ _ => pe_int))
    (pss_one (ps_ret (pe_and (pe_cmpR (op_neL0 hr.units0) (pv 3) (pe_lst pa_nil) (nomark _)) (pe_one (pe_or (pe_cmpR (op_eqL0 hr.units0) (pv 1) (pe_lst pa_nil) (nomark _)) (pe_one (pe_cmpR (op_eqL0 hr.units0) (pv 2) (pe_lst pa_nil) (nomark _))))))))))), ?_⟩
  have no : wholeD z d = false → ∀ H', Same H H' → Q (.bl false) H' := fun e H' s => by
    have y := q H' s
    rw [e] at y
    exact y
  have rf : Same H H := fun _ _ e => e
  refine ⟨_, rfl, _, _, _, _, isLi d, rfl, .ty _, ht.kind, kit_ty (q_lst d), _, rfl, ?_⟩
  cases el : isLi d with
  | false => exact iteT (no (by cases d <;> first | rfl | cases el) _ rf)
  | true =>
  cases d with
  | list ds =>
    obtain ⟨b, xs, rfl, eb, hA⟩ := ht.lst
    have hlen := hA.len
    have hl : ds.length ≤ 1000 := hl
    refine iteF ⟨_, rfl, b, rfl, ⟨_, SqL.of eb⟩, fun m nm => ?_⟩
    refine lc_it walk_list (fun i H1 => Same H H1 ∧ ∃ acc, H1 m = some (.lst acc) ∧ acc.length ≤ i ∧ acc.isEmpty = allS z.length (ds.take i)) ⟨new_same nm, _, upd_same, Nat.le_refl _, rfl⟩ (fun i H1 _ h => h.1.seq (SqL.of eb)) ?_ ?_
    · rintro i x H1 H2 hi ⟨s1, acc, em, la, he⟩ ⟨rfl, ex⟩
      obtain ⟨di, ed, hdi⟩ := hA.at_ ex
      have hdi := hdi.same s1
      have hi : i < xs.length := hi
      have eT : allS z.length (ds.take (i + 1)) = (allS z.length (ds.take i) && (asSlab z.length di).isSome) := by
        unfold allS
        rw [take_at ed, all_snoc]
      refine ⟨rfl, ?_⟩
      refine ⟨_, rfl, _, rfl, x, a, N, z, di, rfl, hdi, s1.seq ha, fun H3 s3 => ⟨_, rfl, ?_⟩⟩
      cases e : (asSlab z.length di).isSome with
      | true =>
        refine iteF ⟨s1.trans s3, acc, s3 _ _ em, by omega, ?_⟩
        rw [eT, e, Bool.and_true]
        exact he
      | false =>
        refine iteT ⟨_, rfl, acc, s3 _ _ em, by omega, own_same nm (s1.trans s3), acc ++ [x], upd_same, by rw [List.length_append]; show acc.length + 1 ≤ i + 1; omega, ?_⟩
        rw [eT, e, Bool.and_false]
        cases acc <;> rfl
    rintro H1 ⟨s1, acc, em, la, he⟩
    refine ⟨(by show 0 ≤ sizeLine; decide), fun n nn => ?_⟩
    have s2 := s1.trans (new_same (o := .lst []) nn)
    refine ⟨m, n, _, rfl, rfl, SqL.of (new_same nn _ _ em), SqL.of upd_same, _, rfl, ?_⟩
    show ite ((!acc.isEmpty) = true) _ _
    rw [he, hlen, List.take_length]
    cases ea : allS z.length ds with
    | false => exact iteT (no (wholeL_bad ea) _ s2)
    | true =>
    refine iteF ?_
    obtain ⟨ss, rfl, hf⟩ := allS_slabs ea
    rw [List.length_map] at hlen hl
    have hq : wholeD z (.list (ss.map sD)) = dueW z ss := by
      show wholeL z (ss.map sD) = _
      rw [wholeL_slabs hf, dueW_eq hf h0]
    rw [hq] at q no
    generalize upd H1 n (.lst []) = H2 at s2 ⊢
    clear hq
    have e0 : ∀ {H' : Hp}, Same H H' → SqL K H' a (z.map V.int) := fun s => s.seq ha
    refine ⟨_, rfl, _, rfl, _, rfl, a, b, N, z, xs, ss, rfl, s2.seq ha, s2.seq (SqL.of eb), hA.same s2, hl, hz, fun l H3 s3 nl el => ?_⟩
    have s13 := s2.trans s3
    have e0 := s13.seq ha
    refine ⟨a, l, _, _, rfl, e0, SqL.of el, fun m nm => ?_⟩
    refine lc_it (walk_two (n := z.length) rfl dnL_len) (fun i H4 => Same H3 H4 ∧ H4 m = some (.lst (ones gtP ((beside z ss).take i)))) ⟨new_same nm, upd_same⟩
      (fun i H4 _ h => ⟨h.1.seq e0, h.1.seq (SqL.of el)⟩) ?_ ?_
    · rintro j x H4 H5 hj ⟨s4, em⟩ ⟨T, x1, x2, rfl, nT, rfl, e1, e2⟩
      have e1 := (ints_at (l := z) hj).symm.trans e1
      have hj : j < z.length := hj
      have e2 := (show ((dnL z.length ss).map V.int)[j]? = some (.int (dnS j ss)) by rw [List.getElem?_map, dnL_at hj] <;> rfl).symm.trans e2
      cases e1
      cases e2
      have j2 := new_same (o := .tup [.int (z.getD j 0), .int (dnS j ss)]) nT
      have lo := ones_len (p := gtP) (l := beside z ss) (j := j)
      refine ⟨T, _, rfl, SqT.of upd_same, rfl, _, _, rfl, _, _, rfl, rfl, rfl, ?_⟩
      refine ⟨_, rfl, _, rfl, _, _, rfl, rfl, _, rfl, ite2 (fun e => ?_) (fun e => ?_)⟩
      · have e2 : gtP (z.getD j 0, dnS j ss) = true := decide_eq_true (by exact of_decide_eq_true e)
        refine ⟨_, j2 _ _ em, by omega, own_same nm (s4.trans j2), ?_⟩
        rw [upd_same, ones_yes (beside_at hj) e2]
      · have e2 : ¬ gtP (z.getD j 0, dnS j ss) = true := fun y => e (decide_eq_true (of_decide_eq_true y))
        refine ⟨s4.trans j2, ?_⟩
        rw [ones_no (beside_at hj) e2]
        exact j2 _ _ em
    rintro H4 ⟨s4, em⟩
    rw [List.take_of_length_le (by rw [beside_len]; exact Nat.le_refl _)] at em
    refine ⟨(by show 0 ≤ sizeLine; decide), fun n nn => ?_⟩
    have s14 := (s13.trans s4).trans (new_same (o := .lst []) nn)
    refine ⟨m, n, _, rfl, rfl, SqL.of (new_same nn _ _ em), SqL.of upd_same, _, rfl, ?_⟩
    show ite ((!(ones gtP (beside z ss)).isEmpty) = true) _ _
    rw [ones_emp]
    cases eG : ((beside z ss).filter gtP).isEmpty with
    | false =>
      refine iteT (no ?_ _ s14)
      unfold dueW
      rw [eG, Bool.false_and]
    | true =>
    refine iteF ?_
    clear em e0 el s3 nm nl
    generalize upd H4 n (.lst []) = H5 at s14 ⊢
    refine ⟨_, rfl, _, rfl, _, rfl, 1, rfl, _, rfl, b, xs, rfl, s14.seq (SqL.of eb), fun b2 n2 => ?_⟩
    have s15 := s14.trans (new_same (o := .lst (cutV xs none (some (-1)))) n2)
    have hA2 : DdAll K (upd H5 b2 (.lst (cutV xs none (some (-1))))) N (cutV xs none (some (-1))) (ss.dropLast.map sD) := by
      have y := (hA.same s15).take (xs.length - 1)
      rw [← cut_last, hlen, ← List.map_take, ← List.dropLast_eq_take] at y
      exact y
    refine ⟨a, b2, N, z, _, ss.dropLast, rfl, s15.seq ha, SqL.of upd_same, hA2, by rw [List.length_dropLast]; omega, hz, fun l H6 s3 nl el => ?_⟩
    have s16 := s15.trans s3
    have e0 := s16.seq ha
    refine ⟨a, l, _, _, rfl, e0, SqL.of el, fun m nm => ?_⟩
    refine lc_it (walk_two (n := z.length) rfl dnL_len) (fun i H4 => Same H6 H4 ∧ H4 m = some (.lst (ones eqP ((beside z ss.dropLast).take i)))) ⟨new_same nm, upd_same⟩
      (fun i H4 _ h => ⟨h.1.seq e0, h.1.seq (SqL.of el)⟩) ?_ ?_
    · rintro j x H4 H5 hj ⟨s4, em⟩ ⟨T, x1, x2, rfl, nT, rfl, e1, e2⟩
      have e1 := (ints_at (l := z) hj).symm.trans e1
      have hj : j < z.length := hj
      have e2 := (show ((dnL z.length ss.dropLast).map V.int)[j]? = some (.int (dnS j ss.dropLast)) by rw [List.getElem?_map, dnL_at hj] <;> rfl).symm.trans e2
      cases e1
      cases e2
      have j2 := new_same (o := .tup [.int (z.getD j 0), .int (dnS j ss.dropLast)]) nT
      have lo := ones_len (p := eqP) (l := beside z ss.dropLast) (j := j)
      refine ⟨T, _, rfl, SqT.of upd_same, rfl, _, _, rfl, _, _, rfl, rfl, rfl, ?_⟩
      refine ⟨_, rfl, _, rfl, rfl, _, rfl, ite2 (fun e => ?_) (fun e => ?_)⟩
      · have e2 : eqP (z.getD j 0, dnS j ss.dropLast) = true := decide_eq_true (by exact V.int.inj (of_decide_eq_true e))
        refine ⟨_, j2 _ _ em, by omega, own_same nm (s4.trans j2), ?_⟩
        rw [upd_same, ones_yes (beside_at hj) e2]
      · have e2 : ¬ eqP (z.getD j 0, dnS j ss.dropLast) = true := fun y => e (decide_eq_true (congrArg V.int (of_decide_eq_true y)))
        refine ⟨s4.trans j2, ?_⟩
        rw [ones_no (beside_at hj) e2]
        exact j2 _ _ em
    rintro H7 ⟨s7, e7⟩
    rw [List.take_of_length_le (by rw [beside_len]; exact Nat.le_refl _)] at e7
    have s17 := s16.trans s7
    have m7 : H7 m = some (.lst (ones eqP (beside z ss.dropLast))) := e7
    clear e0 el s3 nl e7
    refine ⟨_, rfl, _, rfl, _, rfl, a, b, N, z, xs, ss, rfl, s17.seq ha, s17.seq (SqL.of eb), hA.same s17, hl, hz, fun l H8 s3 nl el => ?_⟩
    have s18 := s17.trans s3
    have e0 := s18.seq ha
    refine ⟨a, l, _, _, rfl, e0, SqL.of el, fun oo noo => ?_⟩
    refine lc_it (walk_two (n := z.length) rfl dnL_len) (fun i H4 => Same H8 H4 ∧ H4 oo = some (.lst (ones eqP ((beside z ss).take i)))) ⟨new_same noo, upd_same⟩
      (fun i H4 _ h => ⟨h.1.seq e0, h.1.seq (SqL.of el)⟩) ?_ ?_
    · rintro j x H4 H5 hj ⟨s4, em⟩ ⟨T, x1, x2, rfl, nT, rfl, e1, e2⟩
      have e1 := (ints_at (l := z) hj).symm.trans e1
      have hj : j < z.length := hj
      have e2 := (show ((dnL z.length ss).map V.int)[j]? = some (.int (dnS j ss)) by rw [List.getElem?_map, dnL_at hj] <;> rfl).symm.trans e2
      cases e1
      cases e2
      have j2 := new_same (o := .tup [.int (z.getD j 0), .int (dnS j ss)]) nT
      have lo := ones_len (p := eqP) (l := beside z ss) (j := j)
      refine ⟨T, _, rfl, SqT.of upd_same, rfl, _, _, rfl, _, _, rfl, rfl, rfl, ?_⟩
      refine ⟨_, rfl, _, rfl, rfl, _, rfl, ite2 (fun e => ?_) (fun e => ?_)⟩
      · have e2 : eqP (z.getD j 0, dnS j ss) = true := decide_eq_true (by exact V.int.inj (of_decide_eq_true e))
        refine ⟨_, j2 _ _ em, by omega, own_same noo (s4.trans j2), ?_⟩
        rw [upd_same, ones_yes (beside_at hj) e2]
      · have e2 : ¬ eqP (z.getD j 0, dnS j ss) = true := fun y => e (decide_eq_true (congrArg V.int (of_decide_eq_true y)))
        refine ⟨s4.trans j2, ?_⟩
        rw [ones_no (beside_at hj) e2]
        exact j2 _ _ em
    rintro H9 ⟨s9, e9⟩
    rw [List.take_of_length_le (by rw [beside_len]; exact Nat.le_refl _)] at e9
    have s19 := s18.trans s9
    have o9 : H9 oo = some (.lst (ones eqP (beside z ss))) := e9
    have m9 := s9 _ _ (s3 _ _ m7)
    clear e0 el s3 e9
    refine ⟨_, rfl, by decide, fun n1 k1 => ?_⟩
    have t1 := new_same (o := .lst []) k1
    refine ⟨oo, n1, _, rfl, rfl, SqL.of (t1 _ _ o9), SqL.of upd_same, _, rfl, ?_⟩
    have u1 := s19.trans t1
    have m10 := t1 _ _ m9
    have zq : ∀ H', Same H H' → Q (.bl (!((beside z ss).filter eqP).isEmpty && (ss.isEmpty || ((beside z ss.dropLast).filter eqP).isEmpty))) H' := fun H' s => by
      have y := q H' s
      unfold dueW at y
      rw [eG, Bool.true_and] at y
      exact y
    generalize upd H9 n1 (.lst []) = H10 at u1 m10 ⊢
    show ite ((!(ones eqP (beside z ss)).isEmpty) = true) _ _
    rw [ones_emp]
    cases eB : ((beside z ss).filter eqP).isEmpty with
    | true =>
      refine iteF ?_
      have y := zq _ u1
      rw [eB] at y
      exact y
    | false =>
    refine iteT ?_
    rw [eB, Bool.not_false, Bool.true_and] at zq
    refine ⟨_, rfl, by decide, fun n2 k2 => ?_⟩
    have t2 := new_same (o := .lst []) k2
    have u2 := u1.trans t2
    refine ⟨b, n2, _, rfl, rfl, u2.seq (SqL.of eb), SqL.of upd_same, _, rfl, ?_⟩
    have m11 := t2 _ _ m10
    generalize upd H10 n2 (.lst []) = H11 at u2 m11 ⊢
    have ex : xs.isEmpty = ss.isEmpty := by
      cases xs <;> cases ss <;> first | rfl | (simp at hlen)
    show ite (xs.isEmpty = true) _ _
    rw [ex]
    cases eS : ss.isEmpty with
    | true =>
      refine iteT ?_
      have y := zq _ u2
      rw [eS] at y
      exact y
    | false =>
    refine iteF ?_
    refine ⟨_, rfl, by decide, fun n3 k3 => ?_⟩
    have t3 := new_same (o := .lst []) k3
    refine ⟨m, n3, _, rfl, rfl, SqL.of (t3 _ _ m11), SqL.of upd_same, ?_⟩
    have y := zq _ (u2.trans t3)
    rw [eS, Bool.false_or, ← ones_emp] at y
    exact y
  | _ => cases el
end
end K23
end

section
set_option Elab.async false
set_option linter.all false
set_option maxRecDepth 100000
set_option maxHeartbeats 4000000
namespace K23
open PySem PySem.Spec PyProof.Rows L2 Gd Bx
abbrev sRight : Stmt := topS 15
abbrev nRight : List Str := ["_law_lengths", "_law_what", "_law_kept", "_law_due_here"]
theorem scRight : FnScope nRight ["_law_lengths", "_law_what"] (defScope sRight) :=
  ⟨rfl, rfl, rfl, by decide +kernel, rfl, by decide +kernel, by decide +kernel⟩
def dBt (z : List Int) (d : PyData) : PyData := .tuple [.list (z.map .int), d]
def OkT (z : List Int) (d : PyData) : Prop := (dBt z d).showable = true ∧ (dBt z d).shown.length ≤ sizeLine ∧ (dBt z d).depth ≤ 60
def spRight (K : PySem.W.Frag) : Sp := fun vs H Q _ => ∃ (a : Addr) (v : V) (N : Addr → Prop) (z : List Int) (d : PyData), vs = [.ref a, v] ∧ H a = some (.lst (z.map V.int)) ∧ a ≠ sysModules ∧ Th K H N v d ∧ z.length ≤ 1000 ∧
  (∀ i, i < z.length → 0 ≤ z.getD i 0) ∧ lenD d ≤ 1000 ∧ OkT z d ∧ ∀ H', Same H H' → Q (.bl true) H'
theorem bool_shown (b : Bool) : (PyData.bool b).showable = true ∧ (PyData.bool b).shown.length ≤ sizeLine ∧ (PyData.bool b).depth ≤ 60 := by
  cases b <;> exact ⟨rfl, by decide +kernel, by decide⟩
section
variable {P : Program} {w : World} {K : PySem.W.Frag} {mg : Str → Option Value} {base : Heap} {f fU fW : Addr} {fd dU dW : FuncData}
theorem ok_right (F : Fun K "_law_right" "_law_right" sRight f fd) (mp : mg "repr" = none)
    (FU : Fun K "_law_due" "_law_due" sDue fU dU) (GU : FnOk P w K mg base CX0 2 fU dU ["_law_lengths", "_law_what"] (spDue K)) (bU : Binds K dU ["_law_lengths", "_law_what"] []) (gU : mg "_law_due" = some (.ref fU))
    (FW : Fun K "are_whole" "are_whole" sWh fW dW) (GW : FnOk P w K mg base CX0 3 fW dW ["sizes", "thing"] (spWh K)) (bW : Binds K dW ["sizes", "thing"] []) (kW : KBinds K dW ["sizes", "thing"] ["thing", "sizes"] back2 back2) (gW : mg "are_whole" = some (.ref fW)) :
    FnG P w K mg base CX0 4 f fd ["_law_lengths", "_law_what"] (spRight K) := by
  refine okG F scRight (fun vs H Q E h => ?_) (fun cv A out s H vs Q E gd hr h => ?_)
  · obtain ⟨a, v, N, z, d, rfl, _⟩ := h
    rfl
  obtain ⟨a, v, N, z, d, rfl, ea, ga, ht, hz, h0, hl, ⟨o1, o2, o3⟩, q⟩ := h
  have nd := scRight.nd
  have hr2 := hr.mono (show 2 ≤ 3 by decide)
  refine ⟨_, pss_cons (ps_set (i := 2) nd rfl (.inl rfl) (pe_callB (call_reprT gd hr.units) (by rfl) mp (by decide +kernel) (pa_cons (pe_tup (pa_cons (pv 0) (pa_cons (pv 1) pa_nil))) pa_nil)))
    (pss_cons (ps_set (i := 3) nd rfl (.inl rfl) (pe_callB (call_repr gd hr.units) (by rfl) mp (by decide +kernel) (pa_cons (pe_call GU hr2 (by rfl) gU FU.kp bU .nil pass0 (pa_cons (pv 0) (pa_cons (pv 1) pa_nil))) pa_nil)))
    (pss_cons (ps_if (PW.pt (pw_or (pt_cmpR op_ne (pe_callB (call_repr gd hr.units) (by rfl) mp (by decide +kernel) (pa_cons (pe_call GW hr (by rfl) gW FW.kp bW .nil pass0 (pa_cons (pv 0) (pa_cons (pv 1) pa_nil))) pa_nil)) (pv 3) (nomark _))
      (pw_or1 (pt_cmpR op_ne (pe_callB (call_repr gd hr.units) (by rfl) mp (by decide +kernel) (pa_cons (pe_kw2 GW hr (by rfl) gW FW.kp kW pass0 (pk_cons (pv 1) (pk_cons (pv 0) pk_nil))) pa_nil)) (pv 3) (nomark _))))) pss_never pss_nil)
    (pss_one (ps_ret (pe_cmpR op_eq (pe_callB (call_reprT gd hr.units) (by rfl) mp (by decide +kernel) (pa_cons (pe_tup (pa_cons (pv 0) (pa_cons (pv 1) pa_nil))) pa_nil)) (pv 2) (nomark _)))))), ?_⟩
  refine ⟨_, rfl, _, rfl, (by show 2 ≤ sizeLine; decide), fun t nt => ?_⟩
  have s1 := new_same (o := .tup [.ref a, v]) nt
  refine ⟨t, a, v, z, d, N, rfl, SqT.of upd_same, s1 _ _ ea, ga, ht.same s1, o1, o2, o3, ?_⟩
  generalize upd H t (.tup [.ref a, v]) = H1 at s1 ⊢
  obtain ⟨b1, b2, b3⟩ := bool_shown (wholeD z d)
  refine ⟨_, rfl, _, rfl, a, v, N, z, d, rfl, SqL.of (s1 _ _ ea), ht.same s1, hz, h0, hl, fun H2 s2 => ?_⟩
  have s12 := s1.trans s2
  refine ⟨_, .bool (wholeD z d), rfl, .bl _, b1, b2, b3, ?_⟩
  refine ⟨_, rfl, _, rfl, a, v, N, z, d, rfl, SqL.of (s12 _ _ ea), ht.same s12, fun H3 s3 => ?_⟩
  have s13 := s12.trans s3
  refine ⟨_, .bool (wholeD z d), rfl, .bl _, b1, b2, b3, ?_⟩
  refine ⟨_, rfl, rfl, _, rfl, ?_⟩
  have no : ∀ x : Str, ¬ ((!decide (V.str x = V.str x)) = true) := fun x => by simp
  refine ite2 (fun e => absurd e (no _)) (fun _ => ?_)
  refine ⟨_, rfl, _, rfl, a, v, N, z, d, rfl, SqL.of (s13 _ _ ea), ht.same s13, fun H4 s4 => ?_⟩
  have s14 := s13.trans s4
  refine ⟨_, .bool (wholeD z d), rfl, .bl _, b1, b2, b3, ?_⟩
  refine ⟨_, rfl, rfl, _, rfl, ?_⟩
  refine ite2 (fun e => absurd e (no _)) (fun _ => ?_)
  refine ⟨_, rfl, _, rfl, (by show 2 ≤ sizeLine; decide), fun t nt => ?_⟩
  have s5 := s14.trans (new_same (o := .tup [.ref a, v]) nt)
  refine ⟨t, a, v, z, d, N, rfl, SqT.of upd_same, s5 _ _ ea, ga, ht.same s5, o1, o2, o3, ?_⟩
  refine ⟨_, rfl, rfl, ?_⟩
  have y := q _ s5
  show Q (.bl (decide (V.str (dBt z d).shown = V.str (dBt z d).shown))) _
  rw [decide_eq_true rfl]
  exact y
end
end K23
end

section
set_option Elab.async false
set_option linter.all false
set_option maxRecDepth 100000
set_option maxHeartbeats 4000000
namespace K23
open PySem PySem.Spec PyProof.Rows L2 Gd Bx
/-! sizes of what is made -/
structure Sm (w n : Nat) (d : PyData) : Prop where
  lf : d.leavesShort 100 = true
  sh : d.showable = true
  wt : d.weight ≤ w
  dp : d.depth ≤ n
structure Sms (w n : Nat) (ds : List PyData) : Prop where
  lf : PyData.leavesShortAll 100 ds = true
  sh : PyData.showableAll ds = true
  wt : PyData.weightAll ds ≤ w
  dp : PyData.depthAll ds ≤ n
theorem Sm.mono {w n w' n' : Nat} {d : PyData} (h : Sm w n d) (a : w ≤ w') (b : n ≤ n') : Sm w' n' d := ⟨h.lf, h.sh, Nat.le_trans h.wt a, Nat.le_trans h.dp b⟩
theorem Sms.mono {w n w' n' : Nat} {ds : List PyData} (h : Sms w n ds) (a : w ≤ w') (b : n ≤ n') : Sms w' n' ds := ⟨h.lf, h.sh, Nat.le_trans h.wt a, Nat.le_trans h.dp b⟩
theorem Sms.nil {n : Nat} : Sms 0 n [] := ⟨rfl, rfl, Nat.le_refl _, Nat.zero_le _⟩
theorem Sms.cons {w v n : Nat} {d : PyData} {ds : List PyData} (h : Sm w n d) (g : Sms v n ds) : Sms (w + 1 + v) n (d :: ds) := by
  refine ⟨?_, ?_, ?_, ?_⟩
  · simp only [PyData.leavesShortAll, h.lf, g.lf, Bool.and_self]
  · simp only [PyData.showableAll, h.sh, g.sh, Bool.and_self]
  · have := h.wt
    have := g.wt
    simp only [PyData.weightAll]
    omega
  · have := h.dp
    have := g.dp
    simp only [PyData.depthAll]
    omega
theorem Sms.tup {w n : Nat} {ds : List PyData} (g : Sms w n ds) : Sm (w + 1) (n + 1) (.tuple ds) := by
  refine ⟨by simp only [PyData.leavesShort, g.lf], by simp only [PyData.showable, g.sh], ?_, ?_⟩
  · have := g.wt
    simp only [PyData.weight]
    omega
  · have := g.dp
    simp only [PyData.depth]
    omega
theorem Sms.lst {w n : Nat} {ds : List PyData} (g : Sms w n ds) : Sm (w + 1) (n + 1) (.list ds) := by
  refine ⟨by simp only [PyData.leavesShort, g.lf], by simp only [PyData.showable, g.sh], ?_, ?_⟩
  · have := g.wt
    simp only [PyData.weight]
    omega
  · have := g.dp
    simp only [PyData.depth]
    omega
theorem Sm.shown {w n : Nat} {d : PyData} (h : Sm w n d) (a : w ≤ 160000) (b : n ≤ 60) : d.showable = true ∧ d.shown.length ≤ sizeLine ∧ d.depth ≤ 60 := by
  have x := PyData.shown_le 100 (by decide) d h.lf
  have y := h.wt
  have z : sizeLine = 16777216 := rfl
  exact ⟨h.sh, by omega, Nat.le_trans h.dp b⟩
theorem sm_none : Sm 5 0 .none := ⟨rfl, rfl, by decide, by decide⟩
theorem sm_bool (b : Bool) : Sm 5 0 (.bool b) := by cases b <;> exact ⟨rfl, rfl, by decide, by decide⟩
theorem int_log {i : Int} (h : i.natAbs ≤ 10 ^ 62) : i.natAbs.log2 < 207 := by
  by_cases z : i.natAbs = 0
  · rw [z]; decide
  · exact (Nat.log2_lt z).mpr (Nat.lt_of_le_of_lt h (by decide +kernel))
theorem sm_int {i : Int} (h : i.natAbs ≤ 10 ^ 62) : Sm 212 0 (.int i) := by
  have h1 : i.natAbs < 10 ^ 63 := Nat.lt_of_le_of_lt h (by decide)
  have hl := int_log h
  refine ⟨?_, ?_, ?_, Nat.le_refl _⟩
  · have e := int_text_length_le10 (k := 63) (by decide) h1
    have e2 : (PyData.int i).shown.length = (toString i).length := by
      show (Str.ofString (toString i)).length = _
      rw [PySem.ofString_length]
    simp only [PyData.leavesShort, decide_eq_true_eq]
    omega
  · have : i.natAbs.log2 < 1920 := by omega
    simpa [PyData.showable] using this
  · simp only [PyData.weight]
    split <;> omega
theorem digits_asc (m : Nat) : ∀ c ∈ (Nat.repr m).toList, c.toNat < 128 := by
  intro c hc
  have e : (Nat.repr m).toList = Nat.toDigits 10 m := by
    unfold Nat.repr
    simp
  rw [e] at hc
  have d := Nat.isDigit_of_mem_toDigits (by decide) (by decide) hc
  have d2 : (c.val ≥ '0'.val && c.val ≤ '9'.val) = true := d
  simp only [Bool.and_eq_true, decide_eq_true_eq] at d2
  have z : c.val.toNat ≤ 57 := UInt32.le_iff_toNat_le.mp d2.2
  show c.val.toNat < 128
  omega
theorem sm_text {i : Int} (h : i.natAbs ≤ 10 ^ 62) : Sm 70 0 (.str (toString i)) := by
  have h1 : i.natAbs < 10 ^ 63 := Nat.lt_of_le_of_lt h (by decide)
  have e := int_text_length_le10 (k := 63) (by decide) h1
  have el : (Str.ofString (toString i)).length ≤ 64 := by rw [PySem.ofString_length]; exact e
  have asc : ∀ c ∈ (Str.ofString (toString i)).cps.toList, c < 128 := by
    intro c hc
    have e2 : (Str.ofString (toString i)).cps.toList = (toString i).toList.map Char.toNat := by
      rw [Str.ofString_eq_toList]
    rw [e2] at hc
    obtain ⟨ch, hm, rfl⟩ := List.mem_map.mp hc
    cases i with
    | ofNat m => exact digits_asc m ch hm
    | negSucc m =>
      have e3 : (toString (Int.negSucc m)).toList = '-' :: (Nat.repr (m + 1)).toList := by
        show ("-" ++ Nat.repr (m + 1)).toList = _
        rw [String.toList_append] <;> rfl
      rw [e3] at hm
      rcases List.mem_cons.mp hm with rfl | hm
      · decide
      · exact digits_asc (m + 1) ch hm
  refine ⟨?_, ?_, ?_, Nat.le_refl _⟩
  · simp only [PyData.leavesShort, List.all_eq_true, decide_eq_true_eq]
    intro c hc
    exact Nat.lt_of_lt_of_le (asc c hc) (by decide)
  · simp [PyData.showable]
  · have w : (PyData.str (toString i)).weight = (Str.ofString (toString i)).length := by
      simp only [PyData.weight]
      rfl
    omega
/-- an item -/
def El (d : PyData) : Prop := Sm 700 3 d
theorem els {ds : List PyData} (h : ∀ d ∈ ds, El d) : Sms (701 * ds.length) 3 ds := by
  induction ds with
  | nil => exact Sms.nil
  | cons d ds ih =>
    refine (Sms.cons (h d (by simp)) (ih fun e m => h e (by simp [m]))).mono ?_ (Nat.le_refl _)
    rw [List.length_cons]
    omega
theorem ints_sms : ∀ {ns : List Int}, (∀ i ∈ ns, i.natAbs ≤ 100) → Sms (220 * ns.length) 0 (ns.map .int)
  | [], _ => Sms.nil
  | i :: ns, h => by
    refine (Sms.cons (sm_int (Nat.le_trans (h i (by simp)) (by decide))) (ints_sms fun j m => h j (by simp [m]))).mono ?_ (Nat.le_refl _)
    rw [List.length_cons]
    omega
/-- items in a sequence are shown beside the lengths -/
theorem ok_list {z : List Int} {ds : List PyData} (hz : ∀ i ∈ z, i.natAbs ≤ 100) (l : z.length ≤ 10) (h : ∀ d ∈ ds, El d) (n : ds.length ≤ 200) : OkT z (.list ds) := by
  have a := (ints_sms hz).lst
  have b := (els h).lst
  have c := (Sms.cons (a.mono (Nat.le_refl _) (show 0 + 1 ≤ 4 by decide)) (Sms.cons (b.mono (Nat.le_refl _) (Nat.le_refl 4)) Sms.nil)).tup
  exact c.shown (by omega) (by omega)
theorem ok_tup {z : List Int} {ds : List PyData} (hz : ∀ i ∈ z, i.natAbs ≤ 100) (l : z.length ≤ 10) (h : ∀ d ∈ ds, El d) (n : ds.length ≤ 200) : OkT z (.tuple ds) := by
  have a := (ints_sms hz).lst
  have b := (els h).tup
  have c := (Sms.cons (a.mono (Nat.le_refl _) (show 0 + 1 ≤ 4 by decide)) (Sms.cons (b.mono (Nat.le_refl _) (Nat.le_refl 4)) Sms.nil)).tup
  exact c.shown (by omega) (by omega)
theorem ok_sm {z : List Int} {d : PyData} {w n : Nat} (hz : ∀ i ∈ z, i.natAbs ≤ 100) (l : z.length ≤ 10) (h : Sm w n d) (a : w ≤ 150000) (b : n ≤ 50) : OkT z d := by
  have x := (ints_sms hz).lst
  have c := (Sms.cons (x.mono (Nat.le_refl _) (show 0 + 1 ≤ 51 by decide)) (Sms.cons (h.mono (Nat.le_refl _) (show n ≤ 51 by omega)) Sms.nil)).tup
  exact c.shown (by omega) (by omega)
end K23
end

section
set_option Elab.async false
set_option linter.all false
set_option maxRecDepth 100000
set_option maxHeartbeats 4000000
namespace K23
open PySem PySem.Spec PyProof.Rows L2 Gd Bx
abbrev sOdd : Stmt := topS 10
abbrev nOdd : List Str := ["_law_feed_here", "_law_lengths", "_law_slab", "_law_source", "_law_many", "_law_some"]
theorem scOdd : FnScope nOdd ["_law_feed_here", "_law_lengths", "_law_slab"] (defScope sOdd) :=
  ⟨rfl, rfl, rfl, by decide +kernel, rfl, by decide +kernel, by decide +kernel⟩
/-- how many rows, where it is a slab -/
def Near (M : Nat) (d : PyData) : Prop := ∀ i m : Int, d = .tuple [.int i, .int m] → m.natAbs ≤ M
def It (M : Nat) (d : PyData) : Prop := El d ∧ Near M d
/-- what is there already -/
def old (H : Hp) : Addr → Prop := fun a => H a ≠ none
theorem old_ex1 {p : Addr} {H H' : Hp} {S : Int} (x : Ex1 p H H') (F : Feed H' p S) : ∀ a, old H a → old H' a := fun a h => by
  by_cases e : a = p
  · obtain ⟨ys, ep⟩ := F.lst
    show H' a ≠ none
    rw [e, ep]
    exact nofun
  · cases z : H a with
    | none => exact absurd z h
    | some o =>
      show H' a ≠ none
      rw [x a o e z]
      exact nofun
def spOdd (K : PySem.W.Frag) : Sp := fun vs H Q _ => ∃ (p a b : Addr) (S : Int) (z : List Int) (s : Slab) (M : Nat), vs = [.ref p, .ref a, .ref b] ∧ Feed H p S ∧ S ≤ 100000000 ∧ SqL K H a (z.map V.int) ∧ SqT K H b [.int (s.1 : Nat), .int s.2] ∧
  1 ≤ z.length ∧ z.length ≤ 10 ∧ s.1 ≤ 10 ∧ s.2.natAbs ≤ M ∧ 10 ^ 60 ≤ M ∧ M ≤ 10 ^ 61 ∧ ∀ (v : V) (d : PyData) (H' : Hp), Ex1 p H H' → Feed H' p (S + 1) → Dd K H' (old H) v d → It (M + 1) d → Q v H'
/-- a list of items at l -/
def Odds (K : PySem.W.Frag) (N : Addr → Prop) (p : Addr) (M m : Nat) (H : Hp) (l : Addr) : Prop := ∃ vs ds, H l = some (.lst vs) ∧ l ≠ p ∧ DdAll K H N vs ds ∧ (∀ d ∈ ds, It M d) ∧ vs.length = m
theorem Odds.same {K : PySem.W.Frag} {N : Addr → Prop} {p : Addr} {M m : Nat} {H H' : Hp} {l : Addr} (s : Same H H') (h : Odds K N p M m H l) : Odds K N p M m H' l := by
  obtain ⟨vs, ds, a, b, c, d, e⟩ := h
  exact ⟨vs, ds, s _ _ a, b, c.same s, d, e⟩
/-- xs + us -/
theorem Odds.cat {K : PySem.W.Frag} {N : Addr → Prop} {p : Addr} {M m : Nat} {S : Int} {H H' : Hp} {l b : Addr} {us : List V} {es : List PyData} {Q : VK} (h : Odds K N p M m H l) (s : Same H H') (F : Feed H' p S)
    (hb : H' b = some (.lst us)) (hu : DdAll K H' N us es) (he : ∀ d ∈ es, It M d) (hz : m + us.length ≤ 1000)
    (q : ∀ c H2, Same H' H2 → Odds K N p M (m + us.length) H2 c → Q (.ref c) H2) : rCat (.ref l) (.ref b) H' Q := by
  obtain ⟨vs, ds, a, nl, c, d, rfl⟩ := h.same s
  refine ⟨l, b, vs, us, rfl, rfl, a, hb, Nat.le_trans hz (by decide), fun c2 hc => ?_⟩
  refine q c2 _ (new_same hc) ⟨vs ++ us, ds ++ es, upd_same, F.not hc, ?_, ?_, by rw [List.length_append]⟩
  · exact (c.app hu).same (new_same hc)
  · exact fun x hx => (List.mem_append.mp hx).elim (d x) (he x)
theorem el_pair {i j : Int} (h : i.natAbs ≤ 10 ^ 62) (g : j.natAbs ≤ 10 ^ 62) : El (.tuple [.int i, .int j]) :=
  (Sms.cons (sm_int h) (Sms.cons (sm_int g) Sms.nil)).tup.mono (by decide) (by decide)
theorem el_of {d e : PyData} {w v : Nat} (h : Sm w 0 d) (g : Sm v 0 e) (l : w + v ≤ 600) : El (.tuple [d, e]) :=
  (Sms.cons h (Sms.cons g Sms.nil)).tup.mono (by omega) (by decide)
section
variable {P : Program} {w : World} {K : PySem.W.Frag} {mg : Str → Option Value} {base : Heap} {f fT : Addr} {fd dT : FuncData}
theorem ok_odd (F : Fun K "_law_odd" "_law_odd" sOdd f fd) (mn : mg "len" = none) (ms : mg "str" = none)
    (FT : Fun K "_law_take" "_law_take" sTake fT dT) (bT : Binds K dT ["_law_feed_here", "_law_many"] []) (gT : mg "_law_take" = some (.ref fT)) :
    FnOk P w K mg base CX0 2 f fd ["_law_feed_here", "_law_lengths", "_law_slab"] (spOdd K) := by
  have G : FnOk P w K mg base CX0 1 fT dT ["_law_feed_here", "_law_many"] spTake := ok_take FT
  refine F.ok scOdd (fun vs H Q E h => ?_) (fun cdv A outer s0 H vs Q E hr h => ?_)
  · obtain ⟨p, a, b, S, z, s, M, rfl, _⟩ := h
    rfl
  obtain ⟨p, a, b, S, z, s, M, rfl, hF, hS, ha, hb, l1, l2, b1, b2, m1, m2, q⟩ := h
  have nd := scOdd.nd
  have zl : sizeLine = 16777216 := rfl
  refine ⟨_, pss_cons (ps_asg (pv 2) (pg_tup rfl (pgs_cons (pg_name (i := 3) nd rfl (.inl rfl)) (pgs_cons (pg_name (i := 4) nd rfl (.inl rfl)) pgs_nil))))
    (pss_cons (ps_set (i := 5) nd rfl (.inl rfl) (pe_lst (pa_cons (pe_tup (pa_cons (pv 3) (pa_cons (pe_op op_add (pv 4) pe_int) pa_nil))) (pa_cons (pe_tup (pa_cons (pv 3) (pa_cons (pe_op op_sub (pv 4) pe_int) pa_nil))) (pa_cons (pe_tup (pa_cons (pv 3) (pa_cons pe_int pa_nil))) (pa_cons (pe_tup (pa_cons (pv 3) (pa_cons (pe_un un_neg (pv 4)) pa_nil))) (pa_cons (pe_tup (pa_cons (pe_op op_modN (pe_op op_add (pv 3) pe_int) (pe_callB call_len_seq (by rfl) mn PySem.boot_len (pa_cons (pv 1) pa_nil))) (pa_cons (pv 4) pa_nil))) pa_nil)))))))
    (pss_cons (ps_set (i := 5) nd rfl (.inl rfl) (pe_op op_cat (pv 5) (pe_lst (pa_cons (pe_tup (pa_cons (pe_callB call_len_seq (by rfl) mn PySem.boot_len (pa_cons (pv 1) pa_nil)) (pa_cons (pv 4) pa_nil))) (pa_cons (pe_tup (pa_cons (pe_un un_neg pe_int) (pa_cons (pv 4) pa_nil))) (pa_cons (pe_tup (pa_cons (pe_op op_sub (pv 3) (pe_callB call_len_seq (by rfl) mn PySem.boot_len (pa_cons (pv 1) pa_nil))) (pa_cons (pv 4) pa_nil))) (pa_cons (pe_tup (pa_cons (pv 3) (pa_cons pe_bl pa_nil))) (pa_cons (pe_tup (pa_cons (pe_cmpR op_eq (pv 3) pe_int (nomark _)) (pa_cons (pv 4) pa_nil))) pa_nil))))))))
    (pss_cons (ps_set (i := 5) nd rfl (.inl rfl) (pe_op op_cat (pv 5) (pe_lst (pa_cons (pe_tup (pa_cons (pe_callTy call_str_int (by rfl) ms (by decide +kernel) (pa_cons (pv 3) pa_nil)) (pa_cons (pv 4) pa_nil))) (pa_cons (pe_tup (pa_cons (pv 3) (pa_cons (pe_callTy call_str_int (by rfl) ms (by decide +kernel) (pa_cons (pv 4) pa_nil)) pa_nil))) (pa_cons (pe_tup (pa_cons (pv 3) (pa_cons (pv 4) (pa_cons pe_int pa_nil)))) (pa_cons (pe_tup (pa_cons (pv 3) pa_nil)) (pa_cons (pe_lstS (pa_cons (pv 3) (pa_cons (pv 4) pa_nil))) (pa_cons pe_non (pa_cons (pv 4) pa_nil))))))))))
    (pss_cons (ps_set (i := 5) nd rfl (.inl rfl) (pe_op op_cat (pv 5) (pe_lst (pa_cons (pe_tup pa_nil) (pa_cons (pe_tup (pa_cons (pv 4) (pa_cons (pv 3) pa_nil))) (pa_cons (pe_tup (pa_cons (pv 3) (pa_cons (pe_op op_pow pe_int pe_int) pa_nil))) (pa_cons (pe_tup (pa_cons (pe_tup (pa_cons (pv 3) (pa_cons (pv 4) pa_nil))) pa_nil)) (pa_cons (pe_tup (pa_cons pe_non (pa_cons (pv 4) pa_nil))) (pa_cons (pe_tup (pa_cons (pv 3) (pa_cons (pe_lstS (pa_cons (pv 4) pa_nil)) pa_nil))) pa_nil)))))))))
    (pss_one (ps_ret (pe_ix ix_list (pv 5) (pe_call G hr (by rfl) gT FT.kp bT .nil pass0 (pa_cons (pv 0) (pa_cons pe_int pa_nil))) (fun _ _ => rfl)))))))), ?_⟩
  refine ⟨_, rfl, b, _, rfl, hb, rfl, _, _, rfl, _, _, rfl, rfl, ?_⟩
  have v0 : Same H H := fun _ _ e => e
  have fm : ((((s.1 : Nat) + 1 : Int).fmod ((z.map V.int).length : Nat))).natAbs ≤ 10 ^ 62 := by
    rw [List.length_map]
    obtain ⟨x, y⟩ := fmod_in ((s.1 : Nat) + 1 : Int) (b := ((z.length : Nat) : Int)) (by omega)
    omega
  refine ⟨_, rfl, _, rfl, _, _, rfl, rfl, (by show 2 ≤ sizeLine; decide), fun t01 nt01 => ?_⟩
  have jt01 := new_same (o := .tup [.int (s.1 : Nat), .int (s.2 + 1)]) nt01
  have ut01 := v0.trans jt01
  refine ⟨_, rfl, _, rfl, _, _, rfl, rfl, (by show 2 ≤ sizeLine; decide), fun t02 nt02 => ?_⟩
  have jt02 := new_same (o := .tup [.int (s.1 : Nat), .int (s.2 - 1)]) nt02
  have ut02 := ut01.trans jt02
  refine ⟨_, rfl, (by show 2 ≤ sizeLine; decide), fun t03 nt03 => ?_⟩
  have jt03 := new_same (o := .tup [.int (s.1 : Nat), .int 0]) nt03
  have ut03 := ut02.trans jt03
  refine ⟨_, rfl, _, rfl, _, rfl, (by show 2 ≤ sizeLine; decide), fun t04 nt04 => ?_⟩
  have jt04 := new_same (o := .tup [.int (s.1 : Nat), .int (-s.2)]) nt04
  have ut04 := ut03.trans jt04
  refine ⟨_, rfl, _, _, rfl, rfl, _, rfl, a, _, rfl, .inl (ut04.seq ha), _, _, rfl, rfl, (by rw [List.length_map]; omega), _, rfl, (by show 2 ≤ sizeLine; decide), fun t05 nt05 => ?_⟩
  have jt05 := new_same (o := .tup [.int (((s.1 : Nat) + 1 : Int).fmod ((z.map V.int).length : Nat)), .int s.2]) nt05
  have ut05 := ut04.trans jt05
  refine ⟨(by show 5 ≤ sizeLine; decide), fun l0 nz0 => ?_⟩
  have jz0 := new_same (o := .lst [.ref t01, .ref t02, .ref t03, .ref t04, .ref t05]) nz0
  have w0 := ut05.trans jz0
  have hA0 : DdAll K _ (old H) _ ([.tuple [.int (s.1 : Nat), .int (s.2 + 1)], .tuple [.int (s.1 : Nat), .int (s.2 - 1)], .tuple [.int (s.1 : Nat), .int 0], .tuple [.int (s.1 : Nat), .int (-s.2)], .tuple [.int (((s.1 : Nat) + 1 : Int).fmod ((z.map V.int).length : Nat)), .int s.2]] : List PyData) := (.cons (.tup (SqT.of (jz0 _ _ (jt05 _ _ (jt04 _ _ (jt03 _ _ (jt02 _ _ upd_same)))))) (.cons (.int _) (.cons (.int _) .nil))) (.cons (.tup (SqT.of (jz0 _ _ (jt05 _ _ (jt04 _ _ (jt03 _ _ upd_same))))) (.cons (.int _) (.cons (.int _) .nil))) (.cons (.tup (SqT.of (jz0 _ _ (jt05 _ _ (jt04 _ _ upd_same)))) (.cons (.int _) (.cons (.int _) .nil))) (.cons (.tup (SqT.of (jz0 _ _ (jt05 _ _ upd_same))) (.cons (.int _) (.cons (.int _) .nil))) (.cons (.tup (SqT.of (jz0 _ _ upd_same)) (.cons (.int _) (.cons (.int _) .nil))) .nil)))))
  have hE0 : ∀ d ∈ ([.tuple [.int (s.1 : Nat), .int (s.2 + 1)], .tuple [.int (s.1 : Nat), .int (s.2 - 1)], .tuple [.int (s.1 : Nat), .int 0], .tuple [.int (s.1 : Nat), .int (-s.2)], .tuple [.int (((s.1 : Nat) + 1 : Int).fmod ((z.map V.int).length : Nat)), .int s.2]] : List PyData), It (M + 1) d := by
    intro d hd
    simp only [List.mem_cons, List.not_mem_nil, or_false] at hd
    rcases hd with rfl | rfl | rfl | rfl | rfl
    · exact ⟨(Sm.mono (w' := 690) (n' := 2) (Sms.tup (Sms.cons (Sm.mono (w' := 212) (n' := 1) (sm_int (by omega)) (by decide) (by decide)) (Sms.cons (Sm.mono (w' := 212) (n' := 1) (sm_int (by omega)) (by decide) (by decide)) Sms.nil))) (by decide) (by decide)).mono (by decide) (by decide), fun i m e => by cases e <;> omega⟩
    · exact ⟨(Sm.mono (w' := 690) (n' := 2) (Sms.tup (Sms.cons (Sm.mono (w' := 212) (n' := 1) (sm_int (by omega)) (by decide) (by decide)) (Sms.cons (Sm.mono (w' := 212) (n' := 1) (sm_int (by omega)) (by decide) (by decide)) Sms.nil))) (by decide) (by decide)).mono (by decide) (by decide), fun i m e => by cases e <;> omega⟩
    · exact ⟨(Sm.mono (w' := 690) (n' := 2) (Sms.tup (Sms.cons (Sm.mono (w' := 212) (n' := 1) (sm_int (by omega)) (by decide) (by decide)) (Sms.cons (Sm.mono (w' := 212) (n' := 1) (sm_int (by decide)) (by decide) (by decide)) Sms.nil))) (by decide) (by decide)).mono (by decide) (by decide), fun i m e => by cases e <;> omega⟩
    · exact ⟨(Sm.mono (w' := 690) (n' := 2) (Sms.tup (Sms.cons (Sm.mono (w' := 212) (n' := 1) (sm_int (by omega)) (by decide) (by decide)) (Sms.cons (Sm.mono (w' := 212) (n' := 1) (sm_int (by omega)) (by decide) (by decide)) Sms.nil))) (by decide) (by decide)).mono (by decide) (by decide), fun i m e => by cases e <;> omega⟩
    · exact ⟨(Sm.mono (w' := 690) (n' := 2) (Sms.tup (Sms.cons (Sm.mono (w' := 212) (n' := 1) (sm_int fm) (by decide) (by decide)) (Sms.cons (Sm.mono (w' := 212) (n' := 1) (sm_int (by omega)) (by decide) (by decide)) Sms.nil))) (by decide) (by decide)).mono (by decide) (by decide), fun i m e => by cases e <;> omega⟩
  have O0 : Odds K (old H) p (M + 1) 5 _ l0 := ⟨_, _, upd_same, (hF.kept ut05).not nz0, hA0, hE0, rfl⟩
  have v1 := w0
  skip
  refine ⟨_, rfl, _, rfl, a, _, rfl, .inl (v1.seq ha), _, rfl, (by show 2 ≤ sizeLine; decide), fun t11 nt11 => ?_⟩
  have jt11 := new_same (o := .tup [.int ((z.map V.int).length : Nat), .int s.2]) nt11
  have ut11 := v1.trans jt11
  refine ⟨1, rfl, _, rfl, (by show 2 ≤ sizeLine; decide), fun t12 nt12 => ?_⟩
  have jt12 := new_same (o := .tup [.int (-1), .int s.2]) nt12
  have ut12 := ut11.trans jt12
  refine ⟨_, rfl, _, rfl, a, _, rfl, .inl (ut12.seq ha), _, _, rfl, rfl, _, rfl, (by show 2 ≤ sizeLine; decide), fun t13 nt13 => ?_⟩
  have jt13 := new_same (o := .tup [.int (((s.1 : Nat) : Int) - ((z.map V.int).length : Nat)), .int s.2]) nt13
  have ut13 := ut12.trans jt13
  refine ⟨_, rfl, (by show 2 ≤ sizeLine; decide), fun t14 nt14 => ?_⟩
  have jt14 := new_same (o := .tup [.int (s.1 : Nat), .bl true]) nt14
  have ut14 := ut13.trans jt14
  refine ⟨_, rfl, rfl, _, rfl, (by show 2 ≤ sizeLine; decide), fun t15 nt15 => ?_⟩
  have jt15 := new_same (o := .tup [.bl (decide (V.int ((s.1 : Nat) : Int) = V.int 1)), .int s.2]) nt15
  have ut15 := ut14.trans jt15
  refine ⟨(by show 5 ≤ sizeLine; decide), fun l1 nz1 => ?_⟩
  have jz1 := new_same (o := .lst [.ref t11, .ref t12, .ref t13, .ref t14, .ref t15]) nz1
  have w1 := ut15.trans jz1
  have hA1 : DdAll K _ (old H) _ ([.tuple [.int ((z.map V.int).length : Nat), .int s.2], .tuple [.int (-1), .int s.2], .tuple [.int (((s.1 : Nat) : Int) - ((z.map V.int).length : Nat)), .int s.2], .tuple [.int (s.1 : Nat), .bool true], .tuple [.bool (decide (V.int ((s.1 : Nat) : Int) = V.int 1)), .int s.2]] : List PyData) := (.cons (.tup (SqT.of (jz1 _ _ (jt15 _ _ (jt14 _ _ (jt13 _ _ (jt12 _ _ upd_same)))))) (.cons (.int _) (.cons (.int _) .nil))) (.cons (.tup (SqT.of (jz1 _ _ (jt15 _ _ (jt14 _ _ (jt13 _ _ upd_same))))) (.cons (.int _) (.cons (.int _) .nil))) (.cons (.tup (SqT.of (jz1 _ _ (jt15 _ _ (jt14 _ _ upd_same)))) (.cons (.int _) (.cons (.int _) .nil))) (.cons (.tup (SqT.of (jz1 _ _ (jt15 _ _ upd_same))) (.cons (.int _) (.cons (.bl _) .nil))) (.cons (.tup (SqT.of (jz1 _ _ upd_same)) (.cons (.bl _) (.cons (.int _) .nil))) .nil)))))
  have hE1 : ∀ d ∈ ([.tuple [.int ((z.map V.int).length : Nat), .int s.2], .tuple [.int (-1), .int s.2], .tuple [.int (((s.1 : Nat) : Int) - ((z.map V.int).length : Nat)), .int s.2], .tuple [.int (s.1 : Nat), .bool true], .tuple [.bool (decide (V.int ((s.1 : Nat) : Int) = V.int 1)), .int s.2]] : List PyData), It (M + 1) d := by
    intro d hd
    simp only [List.mem_cons, List.not_mem_nil, or_false] at hd
    rcases hd with rfl | rfl | rfl | rfl | rfl
    · exact ⟨(Sm.mono (w' := 690) (n' := 2) (Sms.tup (Sms.cons (Sm.mono (w' := 212) (n' := 1) (sm_int (by rw [List.length_map]; omega)) (by decide) (by decide)) (Sms.cons (Sm.mono (w' := 212) (n' := 1) (sm_int (by omega)) (by decide) (by decide)) Sms.nil))) (by decide) (by decide)).mono (by decide) (by decide), fun i m e => by cases e <;> omega⟩
    · exact ⟨(Sm.mono (w' := 690) (n' := 2) (Sms.tup (Sms.cons (Sm.mono (w' := 212) (n' := 1) (sm_int (by decide)) (by decide) (by decide)) (Sms.cons (Sm.mono (w' := 212) (n' := 1) (sm_int (by omega)) (by decide) (by decide)) Sms.nil))) (by decide) (by decide)).mono (by decide) (by decide), fun i m e => by cases e <;> omega⟩
    · exact ⟨(Sm.mono (w' := 690) (n' := 2) (Sms.tup (Sms.cons (Sm.mono (w' := 212) (n' := 1) (sm_int (by rw [List.length_map]; omega)) (by decide) (by decide)) (Sms.cons (Sm.mono (w' := 212) (n' := 1) (sm_int (by omega)) (by decide) (by decide)) Sms.nil))) (by decide) (by decide)).mono (by decide) (by decide), fun i m e => by cases e <;> omega⟩
    · exact ⟨(Sm.mono (w' := 690) (n' := 2) (Sms.tup (Sms.cons (Sm.mono (w' := 212) (n' := 1) (sm_int (by omega)) (by decide) (by decide)) (Sms.cons (Sm.mono (w' := 212) (n' := 1) ((sm_bool true)) (by decide) (by decide)) Sms.nil))) (by decide) (by decide)).mono (by decide) (by decide), fun i m e => by cases e <;> omega⟩
    · exact ⟨(Sm.mono (w' := 690) (n' := 2) (Sms.tup (Sms.cons (Sm.mono (w' := 212) (n' := 1) (sm_bool _) (by decide) (by decide)) (Sms.cons (Sm.mono (w' := 212) (n' := 1) (sm_int (by omega)) (by decide) (by decide)) Sms.nil))) (by decide) (by decide)).mono (by decide) (by decide), fun i m e => by cases e <;> omega⟩
  refine Odds.cat (es := [.tuple [.int ((z.map V.int).length : Nat), .int s.2], .tuple [.int (-1), .int s.2], .tuple [.int (((s.1 : Nat) : Int) - ((z.map V.int).length : Nat)), .int s.2], .tuple [.int (s.1 : Nat), .bool true], .tuple [.bool (decide (V.int ((s.1 : Nat) : Int) = V.int 1)), .int s.2]]) O0 (jt11.trans (jt12.trans (jt13.trans (jt14.trans (jt15.trans (jz1)))))) (hF.kept w1) upd_same hA1 hE1 (by simp) fun c1 H1 s1 O1 => ?_
  have v2 := w1.trans s1
  clear ut11 jt11 nt11 ut12 jt12 nt12 ut13 jt13 nt13 ut14 jt14 nt14 ut15 jt15 nt15 jz1 nz1 hE1 hA1 w1 v1
  refine ⟨_, rfl, _, rfl, _, rfl, Nat.lt_of_lt_of_le (int_log (by omega)) (by decide), _, rfl, (by show 2 ≤ sizeLine; decide), fun t21 nt21 => ?_⟩
  have jt21 := new_same (o := .tup [.str (toString ((s.1 : Nat) : Int)), .int s.2]) nt21
  have ut21 := v2.trans jt21
  refine ⟨_, rfl, _, rfl, _, rfl, Nat.lt_of_lt_of_le (int_log (by omega)) (by decide), (by show 2 ≤ sizeLine; decide), fun t22 nt22 => ?_⟩
  have jt22 := new_same (o := .tup [.int (s.1 : Nat), .str (toString s.2)]) nt22
  have ut22 := ut21.trans jt22
  refine ⟨_, rfl, _, rfl, (by show 3 ≤ sizeLine; decide), fun t23 nt23 => ?_⟩
  have jt23 := new_same (o := .tup [.int (s.1 : Nat), .int s.2, .int 0]) nt23
  have ut23 := ut22.trans jt23
  refine ⟨_, rfl, (by show 1 ≤ sizeLine; decide), fun t24 nt24 => ?_⟩
  have jt24 := new_same (o := .tup [.int (s.1 : Nat)]) nt24
  have ut24 := ut23.trans jt24
  refine ⟨_, rfl, _, rfl, (by show 2 ≤ sizeLine; decide), fun t25 nt25 gt25 => ?_⟩
  have qt25 : ¬ old H t25 := fun h => h (ut24.free nt25)
  have jt25 := new_same (o := .lst [.int (s.1 : Nat), .int s.2]) nt25
  have ut25 := ut24.trans jt25
  refine ⟨_, rfl, (by show 7 ≤ sizeLine; decide), fun l2 nz2 => ?_⟩
  have jz2 := new_same (o := .lst [.ref t21, .ref t22, .ref t23, .ref t24, .ref t25, .non, .int s.2]) nz2
  have w2 := ut25.trans jz2
  have hA2 : DdAll K _ (old H) _ ([.tuple [.str (toString ((s.1 : Nat) : Int)), .int s.2], .tuple [.int (s.1 : Nat), .str (toString s.2)], .tuple [.int (s.1 : Nat), .int s.2, .int 0], .tuple [.int (s.1 : Nat)], .list [.int (s.1 : Nat), .int s.2], .none, .int s.2] : List PyData) := (.cons (.tup (SqT.of (jz2 _ _ (jt25 _ _ (jt24 _ _ (jt23 _ _ (jt22 _ _ upd_same)))))) (.cons (.str _) (.cons (.int _) .nil))) (.cons (.tup (SqT.of (jz2 _ _ (jt25 _ _ (jt24 _ _ (jt23 _ _ upd_same))))) (.cons (.int _) (.cons (.str _) .nil))) (.cons (.tup (SqT.of (jz2 _ _ (jt25 _ _ (jt24 _ _ upd_same)))) (.cons (.int _) (.cons (.int _) (.cons (.int _) .nil)))) (.cons (.tup (SqT.of (jz2 _ _ (jt25 _ _ upd_same))) (.cons (.int _) .nil)) (.cons (.lst (jz2 _ _ upd_same) qt25 gt25 (.cons (.int _) (.cons (.int _) .nil))) (.cons .non (.cons (.int _) .nil)))))))
  have hE2 : ∀ d ∈ ([.tuple [.str (toString ((s.1 : Nat) : Int)), .int s.2], .tuple [.int (s.1 : Nat), .str (toString s.2)], .tuple [.int (s.1 : Nat), .int s.2, .int 0], .tuple [.int (s.1 : Nat)], .list [.int (s.1 : Nat), .int s.2], .none, .int s.2] : List PyData), It (M + 1) d := by
    intro d hd
    simp only [List.mem_cons, List.not_mem_nil, or_false] at hd
    rcases hd with rfl | rfl | rfl | rfl | rfl | rfl | rfl
    · exact ⟨(Sm.mono (w' := 690) (n' := 2) (Sms.tup (Sms.cons (Sm.mono (w' := 212) (n' := 1) (sm_text (by omega)) (by decide) (by decide)) (Sms.cons (Sm.mono (w' := 212) (n' := 1) (sm_int (by omega)) (by decide) (by decide)) Sms.nil))) (by decide) (by decide)).mono (by decide) (by decide), fun i m e => by cases e <;> omega⟩
    · exact ⟨(Sm.mono (w' := 690) (n' := 2) (Sms.tup (Sms.cons (Sm.mono (w' := 212) (n' := 1) (sm_int (by omega)) (by decide) (by decide)) (Sms.cons (Sm.mono (w' := 212) (n' := 1) (sm_text (by omega)) (by decide) (by decide)) Sms.nil))) (by decide) (by decide)).mono (by decide) (by decide), fun i m e => by cases e <;> omega⟩
    · exact ⟨(Sm.mono (w' := 690) (n' := 2) (Sms.tup (Sms.cons (Sm.mono (w' := 212) (n' := 1) (sm_int (by omega)) (by decide) (by decide)) (Sms.cons (Sm.mono (w' := 212) (n' := 1) (sm_int (by omega)) (by decide) (by decide)) (Sms.cons (Sm.mono (w' := 212) (n' := 1) (sm_int (by decide)) (by decide) (by decide)) Sms.nil)))) (by decide) (by decide)).mono (by decide) (by decide), fun i m e => by cases e <;> omega⟩
    · exact ⟨(Sm.mono (w' := 690) (n' := 2) (Sms.tup (Sms.cons (Sm.mono (w' := 212) (n' := 1) (sm_int (by omega)) (by decide) (by decide)) Sms.nil)) (by decide) (by decide)).mono (by decide) (by decide), fun i m e => by cases e <;> omega⟩
    · exact ⟨(Sm.mono (w' := 690) (n' := 2) (Sms.lst (Sms.cons (Sm.mono (w' := 212) (n' := 1) (sm_int (by omega)) (by decide) (by decide)) (Sms.cons (Sm.mono (w' := 212) (n' := 1) (sm_int (by omega)) (by decide) (by decide)) Sms.nil))) (by decide) (by decide)).mono (by decide) (by decide), fun i m e => by cases e <;> omega⟩
    · exact ⟨(Sm.mono (w' := 212) (n' := 2) (sm_none) (by decide) (by decide)).mono (by decide) (by decide), fun i m e => by cases e <;> omega⟩
    · exact ⟨(Sm.mono (w' := 212) (n' := 2) (sm_int (by omega)) (by decide) (by decide)).mono (by decide) (by decide), fun i m e => by cases e <;> omega⟩
  refine Odds.cat (es := [.tuple [.str (toString ((s.1 : Nat) : Int)), .int s.2], .tuple [.int (s.1 : Nat), .str (toString s.2)], .tuple [.int (s.1 : Nat), .int s.2, .int 0], .tuple [.int (s.1 : Nat)], .list [.int (s.1 : Nat), .int s.2], .none, .int s.2]) O1 (jt21.trans (jt22.trans (jt23.trans (jt24.trans (jt25.trans (jz2)))))) (hF.kept w2) upd_same hA2 hE2 (by simp) fun c2 H2 s2 O2 => ?_
  have v3 := w2.trans s2
  clear ut21 jt21 nt21 ut22 jt22 nt22 ut23 jt23 nt23 ut24 jt24 nt24 ut25 jt25 nt25 jz2 nz2 hE2 qt25 gt25 hA2 w2 v2
  refine ⟨_, rfl, (by show 0 ≤ sizeLine; decide), fun t31 nt31 => ?_⟩
  have jt31 := new_same (o := .tup []) nt31
  have ut31 := v3.trans jt31
  refine ⟨_, rfl, _, rfl, (by show 2 ≤ sizeLine; decide), fun t32 nt32 => ?_⟩
  have jt32 := new_same (o := .tup [.int s.2, .int (s.1 : Nat)]) nt32
  have ut32 := ut31.trans jt32
  refine ⟨_, rfl, 10, 60, rfl, rfl, ⟨by decide, by decide, by decide⟩, (by show 2 ≤ sizeLine; decide), fun t33 nt33 => ?_⟩
  have jt33 := new_same (o := .tup [.int (s.1 : Nat), .int (10 ^ 60)]) nt33
  have ut33 := ut32.trans jt33
  refine ⟨_, rfl, _, rfl, (by show 2 ≤ sizeLine; decide), fun t34 nt34 => ?_⟩
  have jt34 := new_same (o := .tup [.int (s.1 : Nat), .int s.2]) nt34
  have ut34 := ut33.trans jt34
  refine ⟨(by show 1 ≤ sizeLine; decide), fun t35 nt35 => ?_⟩
  have jt35 := new_same (o := .tup [.ref t34]) nt35
  have ut35 := ut34.trans jt35
  refine ⟨_, rfl, (by show 2 ≤ sizeLine; decide), fun t36 nt36 => ?_⟩
  have jt36 := new_same (o := .tup [.non, .int s.2]) nt36
  have ut36 := ut35.trans jt36
  refine ⟨_, rfl, _, rfl, (by show 1 ≤ sizeLine; decide), fun t37 nt37 gt37 => ?_⟩
  have qt37 : ¬ old H t37 := fun h => h (ut36.free nt37)
  have jt37 := new_same (o := .lst [.int s.2]) nt37
  have ut37 := ut36.trans jt37
  refine ⟨(by show 2 ≤ sizeLine; decide), fun t38 nt38 => ?_⟩
  have jt38 := new_same (o := .tup [.int (s.1 : Nat), .ref t37]) nt38
  have ut38 := ut37.trans jt38
  refine ⟨(by show 6 ≤ sizeLine; decide), fun l3 nz3 => ?_⟩
  have jz3 := new_same (o := .lst [.ref t31, .ref t32, .ref t33, .ref t35, .ref t36, .ref t38]) nz3
  have w3 := ut38.trans jz3
  have hA3 : DdAll K _ (old H) _ ([.tuple [], .tuple [.int s.2, .int (s.1 : Nat)], .tuple [.int (s.1 : Nat), .int (10 ^ 60)], .tuple [.tuple [.int (s.1 : Nat), .int s.2]], .tuple [.none, .int s.2], .tuple [.int (s.1 : Nat), .list [.int s.2]]] : List PyData) := (.cons (.tup (SqT.of (jz3 _ _ (jt38 _ _ (jt37 _ _ (jt36 _ _ (jt35 _ _ (jt34 _ _ (jt33 _ _ (jt32 _ _ upd_same))))))))) .nil) (.cons (.tup (SqT.of (jz3 _ _ (jt38 _ _ (jt37 _ _ (jt36 _ _ (jt35 _ _ (jt34 _ _ (jt33 _ _ upd_same)))))))) (.cons (.int _) (.cons (.int _) .nil))) (.cons (.tup (SqT.of (jz3 _ _ (jt38 _ _ (jt37 _ _ (jt36 _ _ (jt35 _ _ (jt34 _ _ upd_same))))))) (.cons (.int _) (.cons (.int _) .nil))) (.cons (.tup (SqT.of (jz3 _ _ (jt38 _ _ (jt37 _ _ (jt36 _ _ upd_same))))) (.cons (.tup (SqT.of (jz3 _ _ (jt38 _ _ (jt37 _ _ (jt36 _ _ (jt35 _ _ upd_same)))))) (.cons (.int _) (.cons (.int _) .nil))) .nil)) (.cons (.tup (SqT.of (jz3 _ _ (jt38 _ _ (jt37 _ _ upd_same)))) (.cons .non (.cons (.int _) .nil))) (.cons (.tup (SqT.of (jz3 _ _ upd_same)) (.cons (.int _) (.cons (.lst (jz3 _ _ (jt38 _ _ upd_same)) qt37 gt37 (.cons (.int _) .nil)) .nil))) .nil))))))
  have hE3 : ∀ d ∈ ([.tuple [], .tuple [.int s.2, .int (s.1 : Nat)], .tuple [.int (s.1 : Nat), .int (10 ^ 60)], .tuple [.tuple [.int (s.1 : Nat), .int s.2]], .tuple [.none, .int s.2], .tuple [.int (s.1 : Nat), .list [.int s.2]]] : List PyData), It (M + 1) d := by
    intro d hd
    simp only [List.mem_cons, List.not_mem_nil, or_false] at hd
    rcases hd with rfl | rfl | rfl | rfl | rfl | rfl
    · exact ⟨(Sm.mono (w' := 690) (n' := 2) (Sms.tup (Sms.nil (n := 1))) (by decide) (by decide)).mono (by decide) (by decide), fun i m e => by cases e <;> omega⟩
    · exact ⟨(Sm.mono (w' := 690) (n' := 2) (Sms.tup (Sms.cons (Sm.mono (w' := 212) (n' := 1) (sm_int (by omega)) (by decide) (by decide)) (Sms.cons (Sm.mono (w' := 212) (n' := 1) (sm_int (by omega)) (by decide) (by decide)) Sms.nil))) (by decide) (by decide)).mono (by decide) (by decide), fun i m e => by cases e <;> omega⟩
    · exact ⟨(Sm.mono (w' := 690) (n' := 2) (Sms.tup (Sms.cons (Sm.mono (w' := 212) (n' := 1) (sm_int (by omega)) (by decide) (by decide)) (Sms.cons (Sm.mono (w' := 212) (n' := 1) (sm_int (by decide)) (by decide) (by decide)) Sms.nil))) (by decide) (by decide)).mono (by decide) (by decide), fun i m e => by cases e; exact Nat.le_trans (by decide) (Nat.le_trans m1 (Nat.le_succ M))⟩
    · exact ⟨(Sm.mono (w' := 690) (n' := 2) (Sms.tup (Sms.cons (Sm.mono (w' := 450) (n' := 1) (Sms.tup (Sms.cons (Sm.mono (w' := 212) (n' := 0) (sm_int (by omega)) (by decide) (by decide)) (Sms.cons (Sm.mono (w' := 212) (n' := 0) (sm_int (by omega)) (by decide) (by decide)) Sms.nil))) (by decide) (by decide)) Sms.nil)) (by decide) (by decide)).mono (by decide) (by decide), fun i m e => by cases e <;> omega⟩
    · exact ⟨(Sm.mono (w' := 690) (n' := 2) (Sms.tup (Sms.cons (Sm.mono (w' := 212) (n' := 1) (sm_none) (by decide) (by decide)) (Sms.cons (Sm.mono (w' := 212) (n' := 1) (sm_int (by omega)) (by decide) (by decide)) Sms.nil))) (by decide) (by decide)).mono (by decide) (by decide), fun i m e => by cases e <;> omega⟩
    · exact ⟨(Sm.mono (w' := 690) (n' := 2) (Sms.tup (Sms.cons (Sm.mono (w' := 212) (n' := 1) (sm_int (by omega)) (by decide) (by decide)) (Sms.cons (Sm.mono (w' := 450) (n' := 1) (Sms.lst (Sms.cons (Sm.mono (w' := 212) (n' := 0) (sm_int (by omega)) (by decide) (by decide)) Sms.nil)) (by decide) (by decide)) Sms.nil))) (by decide) (by decide)).mono (by decide) (by decide), fun i m e => by cases e <;> omega⟩
  refine Odds.cat (es := [.tuple [], .tuple [.int s.2, .int (s.1 : Nat)], .tuple [.int (s.1 : Nat), .int (10 ^ 60)], .tuple [.tuple [.int (s.1 : Nat), .int s.2]], .tuple [.none, .int s.2], .tuple [.int (s.1 : Nat), .list [.int s.2]]]) O2 (jt31.trans (jt32.trans (jt33.trans (jt34.trans (jt35.trans (jt36.trans (jt37.trans (jt38.trans (jz3))))))))) (hF.kept w3) upd_same hA3 hE3 (by simp) fun c3 H3 s3 O3 => ?_
  have v4 := w3.trans s3
  clear ut31 jt31 nt31 ut32 jt32 nt32 ut33 jt33 nt33 ut34 jt34 nt34 ut35 jt35 nt35 ut36 jt36 nt36 ut37 jt37 nt37 ut38 jt38 nt38 jz3 nz3 hE3 qt37 gt37 hA3 w3 v3
  obtain ⟨vs, ds, ev, nl, hA, hE, lv⟩ := O3
  have F3 := hF.kept v4
  refine ⟨_, rfl, _, rfl, p, 23, _, rfl, F3, by decide, by decide, by omega, fun r H9 r0 r1 F9 x9 => ?_⟩
  have e9 := x9 _ _ nl ev
  have lv : vs.length = 23 := lv
  have hi : r.toNat < vs.length := by omega
  have er : ((r.toNat : Nat) : Int) = r := by omega
  have eat : atI vs r = some vs[r.toNat] := by
    have y : atI vs ((r.toNat : Nat) : Int) = some vs[r.toNat] := atI_nat (List.getElem?_eq_getElem hi)
    rw [er] at y
    exact y
  obtain ⟨d9, ed, hd9⟩ := hA.at_ (List.getElem?_eq_getElem hi)
  obtain ⟨xs, ep⟩ := F3.lst
  have hp : H p ≠ none := by
    obtain ⟨ys, e⟩ := hF.lst
    rw [e]
    exact nofun
  exact ⟨_, vs, r, _, rfl, rfl, SqL.of e9, eat, q _ d9 H9 (fun b u nb e => x9 _ _ nb (v4 _ _ e)) F9 (Dd.stay (x9.tups ep) (fun a o n e => x9 a o (fun h => n (by rw [h]; exact hp)) e) (fun _ y => y) d9 hd9) (hE d9 (List.mem_of_getElem? ed))⟩
end
end K23
end

section
set_option Elab.async false
set_option linter.all false
set_option maxRecDepth 100000
set_option maxHeartbeats 4000000
/-! lists put together, cut, turned about: the new one is none of the interpreter's own -/
namespace Gd
open PySem PySem.Spec PyProof.Rows L2
section
variable {X : Cx}
def rCatS : R2 := fun x y H Q => ∃ l b xs zs, x = .ref l ∧ y = .ref b ∧ H l = some (.lst xs) ∧ H b = some (.lst zs) ∧ xs.length + zs.length ≤ sizeLine ∧
  ∀ p, H p = none → p ≠ sysModules → Q (.ref p) (upd H p (.lst (xs ++ zs)))
theorem op_catS : OpR X (binaryOp .Add) rCatS := by
  rintro pins s σ H x y v u Q I rx ry ⟨l, b, xs, zs, rfl, rfl, h1, h2, hz, q⟩
  cases rx; cases ry
  obtain ⟨_, ia, _, ra, la, ga⟩ := I.lstM h1
  obtain ⟨_, ib, _, rb, lb, gb⟩ := I.lstM h2
  refine PySem.P.add_list ga gb ?_ (by simp only [List.size_toArray]; omega)
  rw [show ia.toArray ++ ib.toArray = (ia ++ ib).toArray by simp]
  exact ⟨.ref _, _, I.lnew (t' := s.toks) (ra.append rb) (by simpa using hz), rfl, q _ I.fresh (new_no I)⟩
def rSlS (K : PySem.W.Frag) : V → Option Int → Option Int → Hp → VK → Prop := fun x lo hi H Q => ∃ a xs, x = .ref a ∧ SqL K H a xs ∧
  ∀ p, H p = none → p ≠ sysModules → Q (.ref p) (upd H p (.lst (cutV xs lo hi)))
theorem sl_listS : SlR X (rSlS X.K) := by
  rintro pins s σ H x v vl vu lo hi sl Q I rx hs pl pu ⟨a, xs, rfl, hx, q⟩
  cases rx
  obtain ⟨its, r, ht, hz⟩ := I.list hx
  have hn := r.length
  refine ⟨"list", _, slot_list_getitem.lookup, ht.isList.typeIs, wpAny_getItem_list_slice ht.isList hs pl pu .none (by simp) ?_ (by simp only [List.size_toArray] <;> omega)⟩
  rw [slicePick_cut, ← hn]
  have rr : Vals (cutV xs lo hi) ((its.drop (HT.sIx xs.length 0 lo)).take (HT.sIx xs.length xs.length hi - HT.sIx xs.length 0 lo)) := (r.drop _).take _
  exact ⟨.ref s.heap.objs.size, _, I.laid (t' := s.toks) (o := .lst (cutV xs lo hi)) (fun b ob e => Heap.get?_push_of_some _ e) (Nat.le_refl _) ⟨Nat.le_trans (cutV_length xs lo hi) hz, _, 0, rr, Heap.get?_push_size _ rfl⟩, rfl,
    q _ (I.hok.fresh (Nat.le_refl _)) (new_no I)⟩
/-- xs[::-1] -/
def tRevL (K : PySem.W.Frag) (te : TE) : TE := fun σ H Q => te σ H fun x H1 => ∃ a xs, x = .ref a ∧ SqL K H1 a xs ∧ ∀ p, H1 p = none → p ≠ sysModules → Q (.ref p) (upd H1 p (.lst xs.reverse))
theorem pe_revL {e : Expr} {te : TE} {k : Nat} {p1 p2 p3 pos : Pos} (he : PE X e te) :
    PE X (.Subscript e (.Slice none none (some (.UnaryOp .USub (.Constant (.int 1) k p1) p2)) p3) pos) (tRevL X.K te) := by
  constructor
  intro pins s σ H Q I h
  refine Subscript_ (thn (he.run pins s σ H _ I h) ?_)
  rintro v s1 ⟨x, H1, I1, r1, a, xs, rfl, hx, q⟩
  cases r1
  have hst : PO X (some (.UnaryOp .USub (.Constant (.int 1) k p1) p2)) (tPart (tUn (rU fun i => .int (-i)) (tC (.int 1)))) := po_some (pe_un un_neg pe_int)
  refine wpAny_Slice (thn (po_none.run pins s1 σ H1 (fun o H2 => o = none ∧ H2 = H1) I1 ⟨rfl, rfl⟩) ?_)
  rintro vl s2 ⟨l, H2, I2, pl, rfl, rfl⟩
  refine thn (po_none.run pins s2 σ H2 (fun o H3 => o = none ∧ H3 = H2) I2 ⟨rfl, rfl⟩) ?_
  rintro vu s3 ⟨u, H3, I3, pu, rfl, rfl⟩
  refine thn (hst.run pins s3 σ H3 (fun o H4 => o = some (-1) ∧ H4 = H3) I3 ⟨1, rfl, -1, rfl, rfl, rfl⟩) ?_
  rintro vs s4 ⟨o, H4, I4, ps, rfl, rfl⟩
  cases pl
  cases pu
  have J : Inv X pins σ H4 { s4 with heap := s4.heap.push { cls := .type "slice", data := .fields #[.none, .none, vs] } } := I4.kept (t' := s4.toks) fun b ob z => Heap.get?_push_of_some _ z
  obtain ⟨its, r, ht, hz⟩ := J.list hx
  have hlen := r.length
  refine tail_any (ops := [.ref a, .ref s4.heap.objs.size]) ht.isList.typeIs slot_list_getitem.lookup ?_ (by with_unfolding_all rfl)
  refine wpAny_getItem_list_slice ht.isList (Heap.IsSliceOf.new _ .none .none vs) .none .none ps (by decide) ?_ (by rw [List.size_toArray]; omega)
  rw [PySem.W.krv_pick]
  refine ⟨.ref _, _, J.laid (t' := s4.toks) (o := .lst xs.reverse) (fun b ob z => Heap.get?_push_of_some _ z) (Nat.le_refl _) ?_, rfl, q _ (J.hok.fresh (Nat.le_refl _)) (new_no J)⟩
  exact ⟨by rw [List.length_reverse]; exact hz, _, 0, r.reverse, Heap.get?_push_size _ rfl⟩
/-- the last one -/
theorem atI_last {xs : List V} {v : V} (h : xs[xs.length - 1]? = some v) : atI xs (-1) = some v := by
  have hl : xs.length - 1 < xs.length := (List.getElem?_eq_some_iff.mp h).1
  unfold atI ixN
  rw [if_neg (by decide), if_pos (by omega)]
  show xs[((-1 : Int) + (xs.length : Int)).toNat]? = some v
  rw [show ((-1 : Int) + (xs.length : Int)).toNat = xs.length - 1 by omega]
  exact h
end
section
variable {K : PySem.W.Frag} {H : Hp} {N : Addr → Prop}
def cutE (ds : List PyData) (lo hi : Option Int) : List PyData := (ds.drop (HT.sIx ds.length 0 lo)).take (HT.sIx ds.length ds.length hi - HT.sIx ds.length 0 lo)
theorem DdAll.cutE {xs : List V} {ds : List PyData} (h : DdAll K H N xs ds) (lo hi : Option Int) : DdAll K H N (cutV xs lo hi) (cutE ds lo hi) := by
  have e := h.len
  unfold cutV Gd.cutE
  rw [e]
  exact (h.drop _).take _
theorem cutE_to {ds : List PyData} {i : Nat} (h : i ≤ ds.length) : cutE ds none (some (i : Int)) = ds.take i := by
  unfold cutE
  rw [HT.sIx_none, HT.sIx_nat, List.drop_zero, Nat.sub_zero, Nat.min_eq_left h]
theorem cutE_from {ds : List PyData} {i : Nat} : cutE ds (some (i : Int)) none = ds.drop i := by
  unfold cutE
  rw [HT.sIx_none, HT.sIx_nat]
  by_cases h : i ≤ ds.length
  · rw [Nat.min_eq_left h]
    exact List.take_of_length_le (by rw [List.length_drop] <;> exact Nat.le_refl _)
  · rw [Nat.min_eq_right (by omega), List.drop_length, List.drop_of_length_le (by omega), List.take_nil]
theorem cutE_mid {ds : List PyData} {i : Nat} : (cutE ds (some (i : Int)) (some ((i : Int) + 2))).length ≤ 2 := by
  unfold cutE
  rw [List.length_take, HT.sIx_nat, show ((i : Int) + 2) = ((i + 2 : Nat) : Int) by omega, HT.sIx_nat]
  omega
theorem cutE_mem {ds : List PyData} {lo hi : Option Int} {d : PyData} (h : d ∈ cutE ds lo hi) : d ∈ ds := List.mem_of_mem_drop (List.mem_of_mem_take h)
end
end Gd
end

section
set_option Elab.async false
set_option linter.all false
set_option maxRecDepth 100000
set_option maxHeartbeats 8000000
namespace K23
open PySem PySem.Spec PyProof.Rows L2 Gd Bx
abbrev sBent : Stmt := topS 11
abbrev nBent : List Str := ["_law_feed_here", "_law_lengths", "_law_slabs", "_law_at", "_law_way"]
theorem scBent : FnScope nBent ["_law_feed_here", "_law_lengths", "_law_slabs"] (defScope sBent) :=
  ⟨rfl, rfl, rfl, by decide +kernel, rfl, by decide +kernel, by decide +kernel⟩
/-- a list of items, n at most -/
def Bt (K : PySem.W.Frag) (N : Addr → Prop) (M n : Nat) (H : Hp) (l : Addr) : Prop := ∃ vs ds, H l = some (.lst vs) ∧ ¬ N l ∧ l ≠ sysModules ∧ DdAll K H N vs ds ∧ (∀ d ∈ ds, It M d) ∧ ds.length ≤ n
def Lens (z : List Int) : Prop := 1 ≤ z.length ∧ z.length ≤ 10 ∧ ∀ i ∈ z, 0 ≤ i ∧ i.natAbs ≤ 100
def spBent (K : PySem.W.Frag) : Sp := fun vs H Q _ => ∃ (p a b : Addr) (S : Int) (z : List Int) (xs : List V) (ss : List Slab) (M : Nat), vs = [.ref p, .ref a, .ref b] ∧ Feed H p S ∧ S ≤ 90000000 ∧ H a = some (.lst (z.map V.int)) ∧ a ≠ p ∧ Lens z ∧
  H b = some (.lst xs) ∧ b ≠ p ∧ (∃ N, DdAll K H N xs (ss.map sD)) ∧ Fine z.length ss ∧ (∀ s ∈ ss, s.2.natAbs ≤ M) ∧ ss.length ≤ 190 ∧ 10 ^ 60 ≤ M ∧ M ≤ 10 ^ 61 ∧
  ∀ (l : Addr) (H' : Hp), Ex1 p H H' → Feed H' p (S + 3) → Bt K (old H) (M + 1) (ss.length + 1) H' l → Q (.ref l) H'
theorem slabs_any {K : PySem.W.Frag} {H : Hp} {N N' : Addr → Prop} : ∀ {ss : List Slab} {xs : List V}, DdAll K H N xs (ss.map sD) → DdAll K H N' xs (ss.map sD)
  | [], _, h => by cases h; exact .nil
  | s :: ss, _, h => by
    cases h with
    | cons a b =>
      obtain ⟨c, rfl, tt⟩ := dds a
      exact .cons (.tup tt (.cons (.int _) (.cons (.int _) .nil))) (slabs_any b)
theorem it_slab {M : Nat} {s : Slab} (h : s.1 ≤ 10) (g : s.2.natAbs ≤ M) (m : M ≤ 10 ^ 61) : It M (sD s) :=
  ⟨el_pair (by omega) (by omega), fun i m e => by cases e; omega⟩
theorem It.up {M : Nat} {d : PyData} (h : It M d) : It (M + 1) d := ⟨h.1, fun i m e => Nat.le_succ_of_le (h.2 i m e)⟩
theorem Bt.drawn {K : PySem.W.Frag} {N : Addr → Prop} {p l : Addr} {M n : Nat} {S : Int} {H H' : Hp} (h : Bt K N M n H l) (hp : N p) (F : Feed H p S) (x : Ex1 p H H') : Bt K N M n H' l := by
  obtain ⟨vs, ds, a, b, c, d, e, f⟩ := h
  obtain ⟨ys, ep⟩ := F.lst
  exact ⟨vs, ds, x _ _ (fun h => b (by rw [h]; exact hp)) a, b, c, DdAll.stay (x.tups ep) (fun a o n e => x a o (fun h => n (by rw [h]; exact hp)) e) (fun _ y => y) ds d, e, f⟩
section
variable {P : Program} {w : World} {K : PySem.W.Frag} {mg : Str → Option Value} {base : Heap} {f fT fO : Addr} {fd dT dO : FuncData}
theorem ok_bent (F : Fun K "_law_bent" "_law_bent" sBent f fd) (mn : mg "len" = none)
    (FT : Fun K "_law_take" "_law_take" sTake fT dT) (bT : Binds K dT ["_law_feed_here", "_law_many"] []) (gT : mg "_law_take" = some (.ref fT))
    (FO : Fun K "_law_odd" "_law_odd" sOdd fO dO) (GO : FnOk P w K mg base CX0 2 fO dO ["_law_feed_here", "_law_lengths", "_law_slab"] (spOdd K)) (bO : Binds K dO ["_law_feed_here", "_law_lengths", "_law_slab"] []) (gO : mg "_law_odd" = some (.ref fO)) :
    FnOk P w K mg base CX0 3 f fd ["_law_feed_here", "_law_lengths", "_law_slabs"] (spBent K) := by
  have G : FnOk P w K mg base CX0 1 fT dT ["_law_feed_here", "_law_many"] spTake := ok_take FT
  refine F.ok scBent (fun vs H Q E h => ?_) (fun cdv A outer s0 H vs Q E hr h => ?_)
  · obtain ⟨p, a, b, S, z, xs, ss, M, rfl, _⟩ := h
    rfl
  obtain ⟨p, a, b, S, z, xs, ss, M, rfl, hF, hS, ea, nap, ⟨z1, z2, z3⟩, eb, nbp, ⟨_, hA⟩, hf, hm, hl, m1, m2, q⟩ := h
  have nd := scBent.nd
  have zl : sizeLine = 16777216 := rfl
  have hr1 := hr.mono (show 1 ≤ 2 by decide)
  refine ⟨_, pss_cons (ps_if (pt_cmpR (op_eqL0 hr.units0) (pv 2) (pe_lst pa_nil) (nomark _))
      (pss_one (ps_ret (pe_ix ix_list (pe_lst (pa_cons (pe_lstS (pa_cons (pe_tup (pa_cons pe_int (pa_cons pe_int pa_nil))) pa_nil))
        (pa_cons (pe_lstS (pa_cons (pe_tup (pa_cons (pe_op op_sub (pe_callB call_len_seq (by rfl) mn PySem.boot_len (pa_cons (pv 1) pa_nil)) pe_int) (pa_cons (pe_ix ix_list (pv 1) (pe_un un_neg pe_int) (fun _ _ => rfl)) pa_nil))) pa_nil))
        (pa_cons (pe_lstS (pa_cons (pe_tup pa_nil) pa_nil))
        (pa_cons (pe_lstS (pa_cons (pe_tup (pa_cons pe_int (pa_cons pe_int pa_nil))) pa_nil)) pa_nil)))))
        (pe_call G hr1 (by rfl) gT FT.kp bT .nil pass0 (pa_cons (pv 0) (pa_cons pe_int pa_nil))) (fun _ _ => rfl)))) pss_nil)
    (pss_cons (ps_set (i := 3) nd rfl (.inl rfl) (pe_call G hr1 (by rfl) gT FT.kp bT .nil pass0 (pa_cons (pv 0) (pa_cons (pe_callB call_len_seq (by rfl) mn PySem.boot_len (pa_cons (pv 2) pa_nil)) pa_nil))))
    (pss_cons (ps_set (i := 4) nd rfl (.inl rfl) (pe_call G hr1 (by rfl) gT FT.kp bT .nil pass0 (pa_cons (pv 0) (pa_cons pe_int pa_nil))))
    (pss_cons (ps_if (pt_cmpR op_lt (pv 4) pe_int (nomark _))
      (pss_one (ps_ret (pe_op op_catS (pe_op op_catS (pe_slice sl_listS (pv 2) po_none (po_some (pv 3)))
          (pe_lst (pa_cons (pe_call GO hr (by rfl) gO FO.kp bO .nil pass0 (pa_cons (pv 0) (pa_cons (pv 1) (pa_cons (pe_ix ix_list (pv 2) (pv 3) (fun _ _ => rfl)) pa_nil)))) pa_nil)))
        (pe_slice sl_listS (pv 2) (po_some (pe_op op_add (pv 3) pe_int)) po_none)))) pss_nil)
    (pss_cons (ps_if (pt_cmpR op_eq (pv 4) pe_int (nomark _))
      (pss_one (ps_ret (pe_op op_catS (pe_slice sl_listS (pv 2) po_none (po_some (pv 3))) (pe_slice sl_listS (pv 2) (po_some (pe_op op_add (pv 3) pe_int)) po_none)))) pss_nil)
    (pss_cons (ps_if (pt_cmpR op_eq (pv 4) pe_int (nomark _))
      (pss_one (ps_ret (pe_op op_catS (pe_slice sl_listS (pv 2) po_none (po_some (pe_op op_add (pv 3) pe_int))) (pe_slice sl_listS (pv 2) (po_some (pv 3)) po_none)))) pss_nil)
    (pss_cons (ps_if (pt_cmpR op_eq (pv 4) pe_int (nomark _))
      (pss_one (ps_ret (pe_op op_catS (pv 2) (pe_lst (pa_cons (pe_tup (pa_cons (pe_call G hr1 (by rfl) gT FT.kp bT .nil pass0 (pa_cons (pv 0) (pa_cons (pe_callB call_len_seq (by rfl) mn PySem.boot_len (pa_cons (pv 1) pa_nil)) pa_nil))) (pa_cons pe_int pa_nil))) pa_nil))))) pss_nil)
    (pss_cons (ps_if (pt_cmpR op_eq (pv 4) pe_int (nomark _))
      (pss_one (ps_ret (pe_op op_catS (pe_op op_catS (pe_slice sl_listS (pv 2) po_none (po_some (pv 3)))
          (pe_revL (pe_slice sl_listS (pv 2) (po_some (pv 3)) (po_some (pe_op op_add (pv 3) pe_int)))))
        (pe_slice sl_listS (pv 2) (po_some (pe_op op_add (pv 3) pe_int)) po_none)))) pss_nil)
    (pss_one (ps_ret (pe_slice sl_listS (pv 2) po_none (po_some (pv 3)))))))))))), ?_⟩
  obtain ⟨ys0, ep0⟩ := hF.lst
  have hp : old H p := by
    show H p ≠ none
    rw [ep0]
    exact nofun
  have hA := slabs_any (N' := old H) hA
  have dr : ∀ {H1 H2 : Hp} {ys vs : List V} {ds : List PyData}, H1 p = some (.lst ys) → Ex1 p H1 H2 → DdAll K H1 (old H) vs ds → DdAll K H2 (old H) vs ds := fun e x h =>
    DdAll.stay (x.tups e) (fun a o n e => x a o (fun h => n (by rw [h]; exact hp)) e) (fun _ y => y) _ h
  have hlen := hA.len
  rw [List.length_map] at hlen
  refine ⟨_, rfl, (by show 0 ≤ sizeLine; decide), fun n0 k0 => ?_⟩
  have s1 := new_same (o := .lst []) k0
  refine ⟨b, n0, xs, rfl, rfl, SqL.of (s1 _ _ eb), SqL.of upd_same, _, rfl, ?_⟩
  have F1 := hF.kept s1
  generalize upd H n0 (.lst []) = H1 at s1 F1 ⊢
  have x1 : Ex1 p H H1 := ex1_of_same s1
  have ea1 := s1 _ _ ea
  have eb1 := s1 _ _ eb
  show ite (xs.isEmpty = true) _ _
  cases hx : xs.isEmpty with
  | true =>
    refine iteT ?_
    have zz : z[z.length - 1]? = some (z.getD (z.length - 1) 0) := Gd.getD_at (by omega)
    have zb := z3 _ (List.mem_of_getElem? zz)
    generalize hZ : z.getD (z.length - 1) 0 = Z at zz zb
    have la : (z.map V.int)[(z.map V.int).length - 1]? = some (.int Z) := by
      rw [List.length_map, List.getElem?_map, zz] <;> rfl
    refine ⟨(by show 2 ≤ sizeLine; decide), fun t1 y1 => ?_⟩
    have j1 := new_same (o := .tup [.int 0, .int 1]) y1
    refine ⟨(by show 1 ≤ sizeLine; decide), fun l1 k1 g1 => ?_⟩
    have q1 : ¬ old H l1 := fun h => h ((s1.trans (j1)).free k1)
    have i1 := new_same (o := .lst [.ref t1]) k1
    have u1 := j1.trans i1
    refine ⟨_, rfl, a, _, rfl, .inl (SqL.of (u1 _ _ ea1)), _, _, rfl, rfl, _, rfl, 1, rfl, a, _, -1, .int Z, rfl, rfl, SqL.of (u1 _ _ ea1), atI_last la, (by show 2 ≤ sizeLine; decide), fun t2 y2 => ?_⟩
    have j2 := new_same (o := .tup [.int (((z.map V.int).length : Nat) - 1), .int Z]) y2
    refine ⟨(by show 1 ≤ sizeLine; decide), fun l2 k2 g2 => ?_⟩
    have q2 : ¬ old H l2 := fun h => h ((s1.trans (u1.trans j2)).free k2)
    have i2 := new_same (o := .lst [.ref t2]) k2
    have u2 := u1.trans (j2.trans i2)
    refine ⟨(by show 0 ≤ sizeLine; decide), fun t3 y3 => ?_⟩
    have j3 := new_same (o := .tup []) y3
    refine ⟨(by show 1 ≤ sizeLine; decide), fun l3 k3 g3 => ?_⟩
    have q3 : ¬ old H l3 := fun h => h ((s1.trans (u2.trans j3)).free k3)
    have i3 := new_same (o := .lst [.ref t3]) k3
    have u3 := u2.trans (j3.trans i3)
    refine ⟨(by show 2 ≤ sizeLine; decide), fun t4 y4 => ?_⟩
    have j4 := new_same (o := .tup [.int 0, .int 0]) y4
    refine ⟨(by show 1 ≤ sizeLine; decide), fun l4 k4 g4 => ?_⟩
    have q4 : ¬ old H l4 := fun h => h ((s1.trans (u3.trans j4)).free k4)
    have i4 := new_same (o := .lst [.ref t4]) k4
    have u4 := u3.trans (j4.trans i4)
    refine ⟨(by show 4 ≤ sizeLine; decide), fun L nL => ?_⟩
    have i5 := new_same (o := .lst [.ref l1, .ref l2, .ref l3, .ref l4]) nL
    have u5 := u4.trans i5
    have c4 := j4.trans (i4.trans i5)
    have c3 := j3.trans (i3.trans c4)
    have c2 := j2.trans (i2.trans c3)
    have F5 := F1.kept u5
    have big : (1 : Nat) ≤ M := Nat.le_trans (show 1 ≤ 10 ^ 60 by decide) m1
    have B1 : Bt K (old H) (M + 1) (ss.length + 1) _ l1 := ⟨_, [.tuple [.int 0, .int 1]], c2 _ _ upd_same, q1, g1, .cons (.tup (SqT.of (c2 _ _ (i1 _ _ upd_same))) (.cons (.int _) (.cons (.int _) .nil))) .nil,
      fun d hd => by rw [List.mem_singleton.mp hd]; exact ⟨el_pair (by decide) (by decide), fun i m e => by cases e; show 1 ≤ M + 1; omega⟩, by show 1 ≤ _; omega⟩
    have B2 : Bt K (old H) (M + 1) (ss.length + 1) _ l2 := ⟨_, [.tuple [.int (((z.map V.int).length : Nat) - 1), .int Z]], c3 _ _ upd_same, q2, g2, .cons (.tup (SqT.of (c3 _ _ (i2 _ _ upd_same))) (.cons (.int _) (.cons (.int _) .nil))) .nil,
      fun d hd => by rw [List.mem_singleton.mp hd]; exact ⟨el_pair (by rw [List.length_map]; omega) (by omega), fun i m e => by cases e; omega⟩, by show 1 ≤ _; omega⟩
    have B3 : Bt K (old H) (M + 1) (ss.length + 1) _ l3 := ⟨_, [.tuple []], c4 _ _ upd_same, q3, g3, .cons (.tup (SqT.of (c4 _ _ (i3 _ _ upd_same))) .nil) .nil,
      fun d hd => by rw [List.mem_singleton.mp hd]; exact ⟨(Sms.nil (n := 1)).tup.mono (by decide) (by decide), fun i m e => by cases e⟩, by show 1 ≤ _; omega⟩
    have B4 : Bt K (old H) (M + 1) (ss.length + 1) _ l4 := ⟨_, [.tuple [.int 0, .int 0]], i5 _ _ upd_same, q4, g4, .cons (.tup (SqT.of (i5 _ _ (i4 _ _ upd_same))) (.cons (.int _) (.cons (.int _) .nil))) .nil,
      fun d hd => by rw [List.mem_singleton.mp hd]; exact ⟨el_pair (by decide) (by decide), fun i m e => by cases e; show 0 ≤ M + 1; omega⟩, by show 1 ≤ _; omega⟩
    have nLp := (F1.kept u4).not nL
    refine ⟨_, rfl, p, 4, _, rfl, F5, by decide, by decide, by omega, fun r H9 r0 r1 F9 x9 => ?_⟩
    obtain ⟨l, hl9, el⟩ := at_list (f := V.ref) (xs := [l1, l2, l3, l4]) r0 (by simpa using r1)
    refine ⟨L, _, r, .ref l, rfl, rfl, SqL.of (x9 _ _ nLp upd_same), el, ?_⟩
    have X9 := (x1.trans (ex1_of_same u5)).trans x9
    have F9' := F9.le (show S + 1 ≤ S + 3 by omega)
    simp only [List.mem_cons, List.not_mem_nil, or_false] at hl9
    rcases hl9 with rfl | rfl | rfl | rfl
    · exact q _ _ X9 F9' (B1.drawn hp F5 x9)
    · exact q _ _ X9 F9' (B2.drawn hp F5 x9)
    · exact q _ _ X9 F9' (B3.drawn hp F5 x9)
    · exact q _ _ X9 F9' (B4.drawn hp F5 x9)
  | false =>
    refine iteF ?_
    have lpos : 0 < xs.length := by
      cases xs with
      | nil => cases hx
      | cons _ _ => exact Nat.succ_pos _
    refine ⟨_, rfl, _, rfl, b, xs, rfl, .inl (SqL.of eb1), p, _, S, rfl, F1, by omega, by omega, by omega, fun r H3 r0 r1 F3 x3 => ?_⟩
    refine ⟨_, rfl, p, 8, _, rfl, F3, by decide, by decide, by omega, fun wy H4 w0 w1 F4 x4 => ?_⟩
    obtain ⟨i, rfl⟩ : ∃ i : Nat, r = i := ⟨r.toNat, by omega⟩
    have hi : i < xs.length := by omega
    have X4 : Ex1 p H H4 := (x1.trans x3).trans x4
    have ea4 := X4 _ _ nap ea
    have eb4 := X4 _ _ nbp eb
    have hA4 := dr ep0 X4 hA
    have F4 := F4.le (show S + 1 + 1 ≤ S + 2 by omega)
    have its : ∀ d ∈ ss.map sD, It (M + 1) d := fun d hd => by
      obtain ⟨s, ms, rfl⟩ := List.mem_map.mp hd
      have := hf s ms
      exact (it_slab (by omega) (hm s ms) m2).up
    have lds : (ss.map sD).length = ss.length := List.length_map ..
    clear hA eb ea x3 x4 F3 eb1 ea1 x1 s1 F1 hF
    -- what is told: a new list at l, of items
    have fin : ∀ {H' : Hp} {l : Addr} {vs : List V} {ds : List PyData}, Same H4 H' → H' l = none → l ≠ sysModules → DdAll K H' (old H) vs ds → (∀ d ∈ ds, It (M + 1) d) → ds.length ≤ ss.length + 1 → Q (.ref l) (upd H' l (.lst vs)) := fun s n g k o e => by
      refine q _ _ (X4.trans (ex1_of_same (s.trans (new_same n)))) (((F4.kept s).kept (new_same n)).le (by omega)) ⟨_, _, upd_same, fun h => h (ex1_free X4 (F4.not (s.free n)) (s.free n)), g, k.same (new_same n), o, e⟩
    refine ⟨_, rfl, _, _, rfl, rfl, _, rfl, ite2 (fun c => ?_) (fun c => ?_)⟩
    · -- one odd
      refine ⟨_, rfl, _, rfl, _, rfl, b, xs, rfl, SqL.of eb4, fun l1 n1 g1 => ?_⟩
      have s1 := new_same (o := .lst (cutV xs none (some (i : Int)))) n1
      obtain ⟨di, ed, hdi⟩ := hA4.at_ (List.getElem?_eq_getElem hi)
      rw [List.getElem?_map, Option.map_eq_some_iff] at ed
      obtain ⟨s, es, rfl⟩ := ed
      have ms := List.mem_of_getElem? es
      have his : i < ss.length := at_lt es
      obtain ⟨b1, e1, tt⟩ := dds (hdi.same s1)
      have f1 := hf s ms
      have F5 := F4.kept s1
      refine ⟨_, rfl, _, rfl, _, rfl, _, rfl, b, xs, (i : Int), xs[i], rfl, rfl, SqL.of (s1 _ _ eb4), atI_nat (List.getElem?_eq_getElem hi), ?_⟩
      refine ⟨p, a, b1, S + 2, z, s, M, by rw [e1] <;> rfl, F5, by omega, SqL.of (s1 _ _ ea4), tt, z1, z2, by omega, hm s ms, m1, m2, fun v d H6 x6 F6 D6 I6 => ?_⟩
      obtain ⟨ys5, ep5⟩ := F5.lst
      have e6 := x6 _ _ (F4.not n1) upd_same
      have eb6 := x6 _ _ nbp (s1 _ _ eb4)
      have A6 := dr ep5 x6 (hA4.same s1)
      have D6 := Dd.stay (Tups.refl (K := K) (H := H6)) (fun _ _ _ e => e) (old_ex1 (X4.trans (ex1_of_same s1)) F5) d D6
      refine ⟨(by show 1 ≤ sizeLine; decide), fun l2 n2 => ?_⟩
      have s7 := new_same (o := .lst [v]) n2
      have z1' := cutV_length xs none (some (i : Int))
      have z2' := cutV_length xs (some ((i : Int) + 1)) none
      refine ⟨l1, l2, _, _, rfl, rfl, s7 _ _ e6, upd_same, (by show (cutV xs none (some (i : Int))).length + 1 ≤ sizeLine; omega), fun l3 n3 g3 => ?_⟩
      have s8 := new_same (o := .lst (cutV xs none (some (i : Int)) ++ [v])) n3
      refine ⟨_, rfl, _, rfl, _, _, rfl, rfl, _, rfl, b, xs, rfl, SqL.of ((s7.trans s8) _ _ eb6), fun l4 n4 g4 => ?_⟩
      have s9 := new_same (o := .lst (cutV xs (some ((i : Int) + 1)) none)) n4
      refine ⟨l3, l4, _, _, rfl, rfl, s9 _ _ upd_same, upd_same, (by rw [List.length_append]; show (cutV xs none (some (i : Int))).length + 1 + _ ≤ sizeLine; omega), fun l5 n5 g5 => ?_⟩
      have s6 := (s7.trans s8).trans s9
      have s10 := s6.trans (new_same (o := .lst (cutV xs none (some (i : Int)) ++ [v] ++ cutV xs (some ((i : Int) + 1)) none)) n5)
      refine q _ _ (((X4.trans (ex1_of_same s1)).trans x6).trans (ex1_of_same s10)) ((F6.kept s10).le (by omega))
        ⟨_, _, upd_same, fun h => h (ex1_free ((X4.trans (ex1_of_same s1)).trans x6) (F6.not (s6.free n5)) (s6.free n5)), g5, (((A6.cutE none (some (i : Int))).app (.cons D6 .nil)).app (A6.cutE (some ((i : Int) + 1)) none)).same s10, fun d hd => ?_, ?_⟩
      · rcases List.mem_append.mp hd with hd | hd
        · rcases List.mem_append.mp hd with hd | hd
          · exact its d (cutE_mem hd)
          · rw [List.mem_singleton.mp hd]
            exact I6
        · exact its d (cutE_mem hd)
      · rw [List.length_append, List.length_append, cutE_to (by omega), show ((i : Int) + 1) = ((i + 1 : Nat) : Int) by omega, cutE_from, List.length_take, List.length_drop]
        show min i (ss.map sD).length + 1 + _ ≤ _
        omega
    refine ⟨_, rfl, rfl, _, rfl, ite2 (fun c => ?_) (fun c => ?_)⟩
    · -- one out
      refine ⟨_, rfl, _, rfl, _, rfl, b, xs, rfl, SqL.of eb4, fun l1 n1 g1 => ?_⟩
      have s1 := new_same (o := .lst (cutV xs none (some (i : Int)))) n1
      refine ⟨_, rfl, _, rfl, _, _, rfl, rfl, _, rfl, b, xs, rfl, SqL.of (s1 _ _ eb4), fun l2 n2 g2 => ?_⟩
      have s2 := new_same (o := .lst (cutV xs (some ((i : Int) + 1)) none)) n2
      have z1' := cutV_length xs none (some (i : Int))
      have z2' := cutV_length xs (some ((i : Int) + 1)) none
      refine ⟨l1, l2, _, _, rfl, rfl, s2 _ _ upd_same, upd_same, by omega, fun l3 n3 g3 => ?_⟩
      refine fin (s1.trans s2) n3 g3 (((hA4.cutE none (some (i : Int))).app (hA4.cutE (some ((i : Int) + 1)) none)).same (s1.trans s2)) (fun d hd => ?_) ?_
      · exact (List.mem_append.mp hd).elim (fun h => its d (cutE_mem h)) (fun h => its d (cutE_mem h))
      · rw [List.length_append, cutE_to (by omega), show ((i : Int) + 1) = ((i + 1 : Nat) : Int) by omega, cutE_from, List.length_take, List.length_drop]
        omega
    refine ⟨_, rfl, rfl, _, rfl, ite2 (fun c => ?_) (fun c => ?_)⟩
    · -- one twice
      refine ⟨_, rfl, _, rfl, _, _, rfl, rfl, _, rfl, b, xs, rfl, SqL.of eb4, fun l1 n1 g1 => ?_⟩
      have s1 := new_same (o := .lst (cutV xs none (some ((i : Int) + 1)))) n1
      refine ⟨_, rfl, _, rfl, _, rfl, b, xs, rfl, SqL.of (s1 _ _ eb4), fun l2 n2 g2 => ?_⟩
      have s2 := new_same (o := .lst (cutV xs (some (i : Int)) none)) n2
      have z1' := cutV_length xs none (some ((i : Int) + 1))
      have z2' := cutV_length xs (some (i : Int)) none
      refine ⟨l1, l2, _, _, rfl, rfl, s2 _ _ upd_same, upd_same, by omega, fun l3 n3 g3 => ?_⟩
      refine fin (s1.trans s2) n3 g3 (((hA4.cutE none (some ((i : Int) + 1))).app (hA4.cutE (some (i : Int)) none)).same (s1.trans s2)) (fun d hd => ?_) ?_
      · exact (List.mem_append.mp hd).elim (fun h => its d (cutE_mem h)) (fun h => its d (cutE_mem h))
      · rw [List.length_append, show ((i : Int) + 1) = ((i + 1 : Nat) : Int) by omega, cutE_to (by omega), cutE_from, List.length_take, List.length_drop]
        omega
    refine ⟨_, rfl, rfl, _, rfl, ite2 (fun c => ?_) (fun c => ?_)⟩
    · -- one more
      refine ⟨_, rfl, _, rfl, _, rfl, a, _, rfl, .inl (SqL.of ea4), p, _, _, rfl, F4, ?_, ?_, by omega, fun k H5 k0 k1 F5 x5 => ?_⟩
      · rw [List.length_map]; omega
      · rw [List.length_map]; omega
      rw [List.length_map] at k1
      obtain ⟨ys4, ep4⟩ := F4.lst
      have A5 := dr ep4 x5 hA4
      have eb5 := x5 _ _ nbp eb4
      refine ⟨(by show 2 ≤ sizeLine; decide), fun t n1 => ?_⟩
      have s1 := new_same (o := .tup [.int k, .int 1]) n1
      refine ⟨(by show 1 ≤ sizeLine; decide), fun l1 n2 => ?_⟩
      have s2 := new_same (o := .lst [.ref t]) n2
      have s12 := s1.trans s2
      refine ⟨b, l1, _, _, rfl, rfl, s12 _ _ eb5, upd_same, (by show xs.length + 1 ≤ sizeLine; omega), fun l2 n3 g3 => ?_⟩
      have s3 := s12.trans (new_same (o := .lst (xs ++ [.ref t])) n3)
      refine q _ _ ((X4.trans x5).trans (ex1_of_same s3)) ((F5.kept s3).le (by omega))
        ⟨_, ss.map sD ++ [.tuple [.int k, .int 1]], upd_same, fun h => h (ex1_free (X4.trans x5) (F5.not (s12.free n3)) (s12.free n3)), g3, ((A5.same s12).app (.cons (.tup (SqT.of (s2 _ _ upd_same)) (.cons (.int _) (.cons (.int _) .nil))) .nil)).same (new_same n3), fun d hd => ?_, ?_⟩
      · rcases List.mem_append.mp hd with hd | hd
        · exact its d hd
        · rw [List.mem_singleton.mp hd]
          exact ⟨el_pair (by omega) (by decide), fun i m e => by cases e; exact Nat.le_trans (show 1 ≤ 10 ^ 60 by decide) (Nat.le_trans m1 (Nat.le_succ M))⟩
      · rw [List.length_append, lds]
        exact Nat.le_refl _
    refine ⟨_, rfl, rfl, _, rfl, ite2 (fun c => ?_) (fun c => ?_)⟩
    · -- two exchanged
      refine ⟨_, rfl, _, rfl, _, rfl, b, xs, rfl, SqL.of eb4, fun l1 n1 g1 => ?_⟩
      have s1 := new_same (o := .lst (cutV xs none (some (i : Int)))) n1
      refine ⟨_, rfl, _, rfl, _, rfl, _, rfl, _, _, rfl, rfl, _, rfl, b, xs, rfl, SqL.of (s1 _ _ eb4), fun l2 n2 g2 => ?_⟩
      have s2 := new_same (o := .lst (cutV xs (some (i : Int)) (some ((i : Int) + 2)))) n2
      refine ⟨l2, _, rfl, SqL.of upd_same, fun l3 n3 g3 => ?_⟩
      have s3 := new_same (o := .lst (cutV xs (some (i : Int)) (some ((i : Int) + 2))).reverse) n3
      have z1' := cutV_length xs none (some (i : Int))
      have z2' := cutV_length xs (some ((i : Int) + 2)) none
      have z3' := cutV_length xs (some (i : Int)) (some ((i : Int) + 2))
      refine ⟨l1, l3, _, _, rfl, rfl, (s2.trans s3) _ _ upd_same, upd_same, (by rw [List.length_reverse]; omega), fun l4 n4 g4 => ?_⟩
      have s4 := new_same (o := .lst (cutV xs none (some (i : Int)) ++ (cutV xs (some (i : Int)) (some ((i : Int) + 2))).reverse)) n4
      have s14 := (s1.trans (s2.trans s3)).trans s4
      refine ⟨_, rfl, _, rfl, _, _, rfl, rfl, _, rfl, b, xs, rfl, SqL.of (s14 _ _ eb4), fun l5 n5 g5 => ?_⟩
      have s5 := new_same (o := .lst (cutV xs (some ((i : Int) + 2)) none)) n5
      refine ⟨l4, l5, _, _, rfl, rfl, s5 _ _ upd_same, upd_same, (by rw [List.length_append, List.length_reverse]; omega), fun l6 n6 g6 => ?_⟩
      refine fin (s14.trans s5) n6 g6 ((((hA4.cutE none (some (i : Int))).app (hA4.cutE (some (i : Int)) (some ((i : Int) + 2))).rev).app (hA4.cutE (some ((i : Int) + 2)) none)).same (s14.trans s5)) (fun d hd => ?_) ?_
      · rcases List.mem_append.mp hd with hd | hd
        · rcases List.mem_append.mp hd with hd | hd
          · exact its d (cutE_mem hd)
          · exact its d (cutE_mem (List.mem_reverse.mp hd))
        · exact its d (cutE_mem hd)
      · have mid := cutE_mid (ds := ss.map sD) (i := i)
        rw [List.length_append, List.length_append, List.length_reverse, cutE_to (by omega)]
        rw [show ((i : Int) + 2) = ((i + 2 : Nat) : Int) by omega] at mid ⊢
        rw [cutE_from, List.length_take, List.length_drop]
        omega
    -- the first ones
    refine ⟨_, rfl, _, rfl, _, rfl, b, xs, rfl, SqL.of eb4, fun l1 n1 g1 => ?_⟩
    refine fin (fun _ _ e => e) n1 g1 (hA4.cutE none (some (i : Int))) (fun d hd => its d (cutE_mem hd)) ?_
    rw [cutE_to (by omega), List.length_take]
    omega
end
end K23
end

section
set_option Elab.async false
set_option linter.all false
set_option maxRecDepth 100000
set_option maxHeartbeats 8000000
namespace K23
open PySem PySem.Spec PyProof.Rows L2 Gd Bx
abbrev sTurn : Stmt := topS 16
abbrev nTurn : List Str := ["_law_feed_here", "_law_lengths", "_law_slabs", "_law_things", "_law_k", "_law_bent_here", "_law_one", "_law_what"]
theorem scTurn : FnScope nTurn ["_law_feed_here"] (defScope sTurn) := ⟨rfl, rfl, rfl, by decide +kernel, rfl, by decide +kernel, by decide +kernel⟩
def spTurn : Sp := fun vs H Q _ => ∃ (p : Addr) (S : Int), vs = [.ref p] ∧ Feed H p S ∧ S ≤ 1000 ∧ ∀ H', Ex1 p H H' → Q (.bl true) H'
/-- a thing that may be asked about -/
def TOk (K : PySem.W.Frag) (H : Hp) (N : Addr → Prop) (z : List Int) (v : V) : Prop := ∃ d, Th K H N v d ∧ lenD d ≤ 1000 ∧ OkT z d
def Things (K : PySem.W.Frag) (N : Addr → Prop) (z : List Int) (H : Hp) (L : Addr) (m : Nat) : Prop := ∃ vs, H L = some (.lst vs) ∧ vs.length ≤ m ∧ ∀ v ∈ vs, TOk K H N z v
section
variable {K : PySem.W.Frag} {H H' : Hp} {N : Addr → Prop} {z : List Int} {L p : Addr} {m : Nat} {S : Int}
theorem TOk.stay {v : V} (t : Tups K H H') (x : ∀ a o, ¬ N a → H a = some o → H' a = some o) (h : TOk K H N z v) : TOk K H' N z v := by
  obtain ⟨d, a, b, c⟩ := h
  exact ⟨d, a.stay t x (fun _ y => y), b, c⟩
theorem Things.draw (T : Things K N z H L m) (hp : N p) (nL : L ≠ p) (F : Feed H p S) (x : Ex1 p H H') : Things K N z H' L m := by
  obtain ⟨vs, a, b, c⟩ := T
  obtain ⟨ys, ep⟩ := F.lst
  exact ⟨vs, x _ _ nL a, b, fun v hv => (c v hv).stay (x.tups ep) (fun a o n e => x a o (fun h => n (by rw [h]; exact hp)) e)⟩
theorem Things.same (T : Things K N z H L m) (s : Same H H') : Things K N z H' L m := by
  obtain ⟨vs, a, b, c⟩ := T
  exact ⟨vs, s _ _ a, b, fun v hv => (c v hv).stay (Tups.of_same s) (fun a o n e => s a o e)⟩
theorem Things.push {v : V} (T : Things K N z H L m) (hL : N L) (t : TOk K H N z v) : ∃ vs, H L = some (.lst vs) ∧ vs.length ≤ m ∧ Things K N z (upd H L (.lst (vs ++ [v]))) L (m + 1) := by
  obtain ⟨vs, a, b, c⟩ := T
  refine ⟨vs, a, b, vs ++ [v], upd_same, by rw [List.length_append]; show vs.length + 1 ≤ m + 1; omega, fun u hu => ?_⟩
  have st : ∀ {u}, TOk K H N z u → TOk K (upd H L (.lst (vs ++ [v]))) N z u := fun h => h.stay (Tups.upd_lst a) fun b o n e => by
    rw [upd_ne (fun h => n (by rw [h]; exact hL))]
    exact e
  rcases List.mem_append.mp hu with hu | hu
  · exact st (c u hu)
  · rw [List.mem_singleton.mp hu]
    exact st t
end
theorem sm_dct {d : PyData} {w n : Nat} (h : Sm w n d) : Sm (w + 20) (n + 1) (.dict [(.str "slabs", d)]) := by
  have x : (PyData.str "slabs").leavesShort 100 = true ∧ (PyData.str "slabs").showable = true ∧ (PyData.str "slabs").weight ≤ 10 ∧ (PyData.str "slabs").depth = 0 := by decide +kernel
  refine ⟨?_, ?_, ?_, ?_⟩
  · simp only [PyData.leavesShort, PyData.leavesShortKv, h.lf, Bool.and_true]
    decide +kernel
  · simp only [PyData.showable, PyData.showableKv, x.2.1, h.sh, Bool.and_self]
  · have a := h.wt
    have b := x.2.2.1
    simp only [PyData.weight, PyData.weightKv] at b ⊢
    omega
  · have a := h.dp
    have b := x.2.2.2
    simp only [PyData.depth, PyData.depthKv] at b ⊢
    omega
section
variable {P : Program} {w : World} {K : PySem.W.Frag} {mg : Str → Option Value} {base : Heap} {f fT fZ fW fB fS fR : Addr} {fd dT dZ dW dB dS dR : FuncData}
theorem ok_turn (F : Fun K "_law_turn" "_law_turn" sTurn f fd) (mt : mg "tuple" = none) (mr : mg "range" = none)
    (FT : Fun K "_law_take" "_law_take" sTake fT dT) (bT : Binds K dT ["_law_feed_here", "_law_many"] []) (gT : mg "_law_take" = some (.ref fT))
    (FZ : Fun K "_law_sizes" "_law_sizes" sSizes fZ dZ) (GZ : FnOk P w K mg base CX0 2 fZ dZ ["_law_feed_here", "_law_most"] spSizes) (bZ : Binds K dZ ["_law_feed_here", "_law_most"] []) (gZ : mg "_law_sizes" = some (.ref fZ))
    (FW : Fun K "_law_whole" "_law_whole" sWhole fW dW) (GW : FnOk P w K mg base CX0 2 fW dW ["_law_feed_here", "_law_lengths"] (spWhole K)) (bW : Binds K dW ["_law_feed_here", "_law_lengths"] []) (gW : mg "_law_whole" = some (.ref fW))
    (FB : Fun K "_law_bent" "_law_bent" sBent fB dB) (GB : FnOk P w K mg base CX0 3 fB dB ["_law_feed_here", "_law_lengths", "_law_slabs"] (spBent K)) (bB : Binds K dB ["_law_feed_here", "_law_lengths", "_law_slabs"] []) (gB : mg "_law_bent" = some (.ref fB))
    (FS : Fun K "_law_is_slab" "_law_is_slab" sSl fS dS) (GS : FnOk P w K mg base CX0 1 fS dS ["_law_one", "_law_lengths"] (spSl K)) (bS : Binds K dS ["_law_one", "_law_lengths"] []) (gS : mg "_law_is_slab" = some (.ref fS))
    (FR : Fun K "_law_right" "_law_right" sRight fR dR) (GR : FnG P w K mg base CX0 4 fR dR ["_law_lengths", "_law_what"] (spRight K)) (bR : Binds K dR ["_law_lengths", "_law_what"] []) (gR : mg "_law_right" = some (.ref fR)) :
    FnG P w K mg base CX0 5 f fd ["_law_feed_here"] spTurn := by
  have G : FnOk P w K mg base CX0 1 fT dT ["_law_feed_here", "_law_many"] spTake := ok_take FT
  refine okG F scTurn (fun vs H Q E h => ?_) (fun cv A out s H vs Q E gd hr h => ?_)
  · obtain ⟨p, S, rfl, _⟩ := h
    rfl
  obtain ⟨p, S, rfl, hF, hS, q⟩ := h
  have nd := scTurn.nd
  have zl : sizeLine = 16777216 := rfl
  have hr1 := hr.mono (show 1 ≤ 4 by decide)
  have hr2 := hr.mono (show 2 ≤ 4 by decide)
  have hr3 := hr.mono (show 3 ≤ 4 by decide)
  refine ⟨_, pss_cons (ps_set (i := 1) nd rfl (.inr rfl) (pe_call GZ hr2 (by rfl) gZ FZ.kp bZ .nil pass0 (pa_cons (pv 0) (pa_cons pe_int pa_nil))))
    (pss_cons (ps_set (i := 2) nd rfl (.inl rfl) (pe_call GW hr2 (by rfl) gW FW.kp bW .nil pass0 (pa_cons (pv 0) (pa_cons (pv 1) pa_nil))))
    (pss_cons (ps_set (i := 3) nd rfl (.inl rfl) (pe_lst (pa_cons (pv 2) (pa_cons (pe_lstS pa_nil) (pa_cons (pe_tupleOf (by rfl) mt (pv 2)) (pa_cons (pe_lstS (pa_cons (pv 2) pa_nil)) (pa_cons pe_non (pa_cons pe_bl (pa_cons pe_int (pa_cons pe_str (pa_cons pe_dnewK
        (pa_cons (pe_tup pa_nil) (pa_cons (pe_lstS (pa_cons (pe_lstS pa_nil) pa_nil)) (pa_cons (pe_disp (pps_cons pe_str (pv 2) pps_nil) (by rfl) (by rfl) (fun z => by cases z) (by decide)) pa_nil))))))))))))))
    (pss_cons (ps_for PassesOwn.never rfl (pi_range1 (by rfl) mr (pa_cons pe_int pa_nil)) (pg_name (i := 4) nd rfl (.inl rfl))
      (pss_cons (ps_set (i := 5) nd rfl (.inl rfl) (pe_call GB hr3 (by rfl) gB FB.kp bB .nil pass0 (pa_cons (pv 0) (pa_cons (pv 1) (pa_cons (pv 2) pa_nil)))))
      (pss_cons (ps_expr (pe_bm PySem.F.plainAttrs_list PySem.F.slot_list_append PySem.F.type_list_append mt_append (pv 3) (pa_cons (pv 5) pa_nil)))
      (pss_one (ps_if (PW.pt (pw_and (pt_cmpR op_eq (pe_call G hr1 (by rfl) gT FT.kp bT .nil pass0 (pa_cons (pv 0) (pa_cons pe_int pa_nil))) pe_int (nomark _))
          (pw_and1 (pt_cmpR (op_eqL0 hr.units0) (pe_lc (own := [("_law_one", 6)]) (g := gName 6) rfl nd (pi_list (pv 5)) (blkOk_by (N := nTurn) (sc := defScope sTurn) (by decide +kernel)) (fun _ _ _ _ _ => pg_name (i := 6) nd rfl (Or.inl rfl))
            (fun _ _ _ _ _ => pts_one (pt_not (pt_val (pe_call GS hr1 (by rfl) gS FS.kp bS .nil pass0 (pa_cons (pv 6) (pa_cons (pv 1) pa_nil)))))) (fun _ _ _ _ _ => pv 6)) (pe_lst pa_nil) (nomark _)))))
        (pss_one (ps_expr (pe_bm PySem.F.plainAttrs_list PySem.F.slot_list_append PySem.F.type_list_append mt_append (pv 3) (pa_cons (pe_call GB hr3 (by rfl) gB FB.kp bB .nil pass0 (pa_cons (pv 0) (pa_cons (pv 1) (pa_cons (pv 5) pa_nil)))) pa_nil)))) pss_nil)))))
    (pss_one (ps_ret (pe_cmpR (op_eqL0 hr.units0) (pe_lc (own := [("_law_what", 7)]) (g := gName 7) rfl nd (pi_list (pv 3)) (blkOk_by (N := nTurn) (sc := defScope sTurn) (by decide +kernel)) (fun _ _ _ _ _ => pg_name (i := 7) nd rfl (Or.inl rfl))
      (fun _ _ _ _ _ => pts_one (pt_not (pt_val (pe_callG GR gd hr (by rfl) gR FR.kp bR .nil pass0 (pa_cons (pv 1) (pa_cons (pv 7) pa_nil)))))) (fun _ _ _ _ _ => pv 7)) (pe_lst pa_nil) (nomark _))))))), ?_⟩
  refine ⟨_, rfl, p, S, rfl, hF, by omega, fun l z H1 x1 f1 nl gl el z1 z2 hz => ?_⟩
  have nlp := hF.not nl
  refine ⟨_, rfl, _, rfl, p, l, _, z, rfl, f1, by omega, el, nlp, z1, z2, hz, fun m ss H2 x2 f2 nm gm em hL h0 hlen => ?_⟩
  have nmp := f1.not nm
  have el2 := x2 _ _ nlp el
  obtain ⟨bs, em0, lb, tb⟩ := em
  have lens : Lens z := ⟨z1, by omega, fun i hi => by have := hz i hi; omega⟩
  have zb : ∀ i ∈ z, i.natAbs ≤ 100 := fun i hi => by have := hz i hi; omega
  have znn : ∀ i, i < z.length → 0 ≤ z.getD i 0 := fun i hi => (hz _ (Bx.getD_mem hi)).1
  have hfine := hL.fine
  have near : ∀ s ∈ ss, s.1 ≤ 10 ∧ s.2.natAbs ≤ 10 ^ 60 := fun s hs => by
    obtain ⟨j, hj⟩ := List.mem_iff_getElem?.mp hs
    obtain ⟨hI, t1, t2, t3⟩ := Leg0.at_ hz hL.weak hj
    have := hI _ (Bx.getD_mem (i := s.1) t1)
    rw [lft_len] at t1
    exact ⟨by omega, by omega⟩
  have all : ∀ {H' : Hp} {N : Addr → Prop}, Tups K H2 H' → DdAll K H' N (bs.map V.ref) (ss.map sD) := fun t => by
    have key : ∀ (bs : List Addr) (ss : List Slab), bs.length = ss.length → (∀ (i : Nat) (b : Addr) (s : Nat × Int), bs[i]? = some b → ss[i]? = some s → SqT K H2 b [.int (s.1 : Nat), .int s.2]) → ∀ {H' : Hp} {N : Addr → Prop}, Tups K H2 H' → DdAll K H' N (bs.map V.ref) (ss.map sD) := by
      intro bs
      induction bs with
      | nil =>
        intro ss h _ _ _ _
        cases ss with
        | nil => exact .nil
        | cons _ _ => cases h
      | cons b bs ih =>
        intro ss h k _ _ t
        cases ss with
        | nil => cases h
        | cons s ss => exact .cons (.tup (t _ _ (k 0 b s rfl rfl)) (.cons (.int _) (.cons (.int _) .nil))) (ih ss (by simpa using h) (fun i b s e1 e2 => k (i + 1) b s e1 e2) t)
    exact key bs ss lb tb t
  have its : ∀ d ∈ ss.map sD, El d := fun d hd => by
    obtain ⟨s, ms, rfl⟩ := List.mem_map.mp hd
    exact (it_slab (near s ms).1 (near s ms).2 (by decide)).1
  have lds : (ss.map sD).length = ss.length := List.length_map ..
  -- the things
  refine ⟨_, rfl, (by show 0 ≤ sizeLine; decide), fun a2 n2 g2 => ?_⟩
  have j2 := new_same (o := .lst []) n2
  refine ⟨_, rfl, .inl ⟨m, _, rfl, SqL.of (j2 _ _ em0), fun t3 n3 => ?_⟩⟩
  have j3 := new_same (o := .tup (bs.map V.ref)) n3
  refine ⟨_, rfl, (by show 1 ≤ sizeLine; decide), fun a4 n4 g4 => ?_⟩
  have j4 := new_same (o := .lst [.ref m]) n4
  refine fun d5 n5 => ?_
  have j5 := new_same (o := .dK []) n5
  refine ⟨(by show 0 ≤ sizeLine; decide), fun t6 n6 => ?_⟩
  have j6 := new_same (o := .tup []) n6
  refine ⟨(by show 0 ≤ sizeLine; decide), fun a7 n7 g7 => ?_⟩
  have j7 := new_same (o := .lst []) n7
  refine ⟨(by show 1 ≤ sizeLine; decide), fun a8 n8 g8 => ?_⟩
  have j8 := new_same (o := .lst [.ref a7]) n8
  refine fun d9 n9 => ⟨_, rfl, upd_same, [(Sum.inr "slabs", .ref m)], rfl, (by show 1 ≤ 15; decide), ?_⟩
  have em9 : mergeK [] ([(Sum.inr "slabs", V.ref m)] : List (Key × V)) = ([(Sum.inr "slabs", V.ref m)] : List (Key × V)) := by
    simp [mergeK, putK]
  rw [em9]
  have j9 : Same _ (upd (upd (upd (upd (upd (upd (upd (upd (upd H2 a2 (.lst [])) t3 (.tup (bs.map V.ref))) a4 (.lst [.ref m])) d5 (.dK [])) t6 (.tup [])) a7 (.lst [])) a8 (.lst [.ref a7])) d9 (.dK [])) d9 (.dK [(Sum.inr "slabs", .ref m)])) := fun b u e => by
    rw [upd_ne (ne_of_none e n9), upd_ne (ne_of_none e n9)]
    exact e
  have c8 := j8.trans j9
  have c7 := j7.trans c8
  have c6 := j6.trans c7
  have c5 := j5.trans c6
  have c4 := j4.trans c5
  have c3 := j3.trans c4
  have c2 := j2.trans c3
  have e2 := c3 _ _ (upd_same (H := H2) (a := a2) (o := .lst []))
  have q2 := f2.not n2
  have e3 := c4 _ _ (upd_same (a := t3) (o := .tup (bs.map V.ref)))
  have e4 := c5 _ _ (upd_same (a := a4) (o := .lst [.ref m]))
  have q4 := (f2.kept (j2.trans j3)).not n4
  have e5 := c6 _ _ (upd_same (a := d5) (o := .dK []))
  have q5 := (f2.kept (j2.trans (j3.trans j4))).not n5
  have e6 := c7 _ _ (upd_same (a := t6) (o := .tup []))
  have e7 := c8 _ _ (upd_same (a := a7) (o := .lst []))
  have q7 := (f2.kept (j2.trans (j3.trans (j4.trans (j5.trans j6))))).not n7
  have e8 := j9 _ _ (upd_same (a := a8) (o := .lst [.ref a7]))
  have q8 := (f2.kept (j2.trans (j3.trans (j4.trans (j5.trans (j6.trans j7)))))).not n8
  have e9 : (upd (upd (upd (upd (upd (upd (upd (upd (upd H2 a2 (.lst [])) t3 (.tup (bs.map V.ref))) a4 (.lst [.ref m])) d5 (.dK [])) t6 (.tup [])) a7 (.lst [])) a8 (.lst [.ref a7])) d9 (.dK [])) d9 (.dK [(Sum.inr "slabs", .ref m)])) d9 = some (.dK [(Sum.inr "slabs", .ref m)]) := upd_same
  have q9 := (f2.kept (j2.trans (j3.trans (j4.trans (j5.trans (j6.trans (j7.trans j8))))))).not n9
  generalize upd (upd (upd (upd (upd (upd (upd (upd (upd H2 a2 (.lst [])) t3 (.tup (bs.map V.ref))) a4 (.lst [.ref m])) d5 (.dK [])) t6 (.tup [])) a7 (.lst [])) a8 (.lst [.ref a7])) d9 (.dK [])) d9 (.dK [(Sum.inr "slabs", .ref m)]) = H9 at c2 e2 e3 e4 e5 e6 e7 e8 e9 ⊢
  clear j2 j3 j4 j5 j6 j7 j8 j9 c3 c4 c5 c6 c7 c8 n2 n3 n4 n5 n6 n7 n8 n9 em9
  have f9 := f2.kept c2
  have em9 := c2 _ _ em0
  have el9 := c2 _ _ el2
  have x9 : Ex1 p H H9 := (x1.trans x2).trans (ex1_of_same c2)
  have all9 : ∀ {N : Addr → Prop}, DdAll K H9 N (bs.map V.ref) (ss.map sD) := all (Tups.of_same c2)
  refine ⟨(by show 12 ≤ sizeLine; decide), fun L nL => ?_⟩
  have jL := new_same (o := .lst [.ref m, .ref a2, .ref t3, .ref a4, .non, .bl true, .int 0, .str "", .ref d5, .ref t6, .ref a8, .ref d9]) nL
  have nLp := f9.not nL
  have nLH : H L = none := ex1_free x9 nLp nL
  let N : Addr → Prop := fun a => a = p ∨ a = L
  have no : ∀ {a : Addr} {o : HO}, H9 a = some o → a ≠ p → ¬ N a := fun e n h => h.elim n (ne_of_none e nL)
  have first : Things K N z (upd H9 L (.lst [.ref m, .ref a2, .ref t3, .ref a4, .non, .bl true, .int 0, .str "", .ref d5, .ref t6, .ref a8, .ref d9])) L 12 := by
    refine ⟨_, upd_same, Nat.le_refl _, fun v hv => TOk.stay (H := H9) (Tups.of_same jL) (fun a o _ e => jL a o e) ?_⟩
    have dm : Dd K H9 N (.ref m) (.list (ss.map sD)) := .lst em9 (no em9 nmp) gm all9
    have lm : lenD (.list (ss.map sD)) ≤ 1000 := by show (ss.map sD).length ≤ 1000; omega
    simp only [List.mem_cons, List.not_mem_nil, or_false] at hv
    rcases hv with rfl | rfl | rfl | rfl | rfl | rfl | rfl | rfl | rfl | rfl | rfl | rfl
    · exact ⟨_, .inl dm, lm, ok_list zb (by omega) its (by omega)⟩
    · exact ⟨.list [], .inl (.lst e2 (no e2 q2) g2 .nil), by decide, ok_list zb (by omega) (fun d hd => nomatch hd) (by decide)⟩
    · exact ⟨_, .inl (.tup (SqT.of e3) all9), by show 0 ≤ 1000; decide, ok_tup zb (by omega) its (by omega)⟩
    · exact ⟨_, .inl (.lst e4 (no e4 q4) g4 (.cons dm .nil)), by show 1 ≤ 1000; decide, ok_sm zb (by omega) (Sms.cons (els its).lst (Sms.nil)).lst (by omega) (by decide)⟩
    · exact ⟨.none, .inl .non, by decide, ok_sm zb (by omega) sm_none (by decide) (by decide)⟩
    · exact ⟨.bool true, .inl (.bl _), by decide, ok_sm zb (by omega) (sm_bool _) (by decide) (by decide)⟩
    · exact ⟨.int 0, .inl (.int _), by decide, ok_sm zb (by omega) (sm_int (by decide)) (by decide) (by decide)⟩
    · exact ⟨.str "", .inl (.str _), by decide, ok_sm (w := 5) (n := 0) zb (by omega) ⟨by decide +kernel, by decide +kernel, by decide +kernel, by decide +kernel⟩ (by decide) (by decide)⟩
    · exact ⟨.dict [], .inl (.dct0 e5 (no e5 q5)), by decide, ok_sm (w := 5) (n := 3) zb (by omega) ⟨by decide +kernel, by decide +kernel, by decide +kernel, by decide +kernel⟩ (by decide) (by decide)⟩
    · exact ⟨.tuple [], .inl (.tup (SqT.of e6) .nil), by decide, ok_tup zb (by omega) (fun d hd => nomatch hd) (by decide)⟩
    · exact ⟨.list [.list []], .inl (.lst e8 (no e8 q8) g8 (.cons (.lst e7 (no e7 q7) g7 .nil) .nil)), by decide, ok_sm (w := 10) (n := 5) zb (by omega) ⟨by decide +kernel, by decide +kernel, by decide +kernel, by decide +kernel⟩ (by decide) (by decide)⟩
    · exact ⟨_, .inr ⟨d9, m, "slabs", _, _, rfl, e9, no e9 q9, dm, em9, rfl⟩, by show 0 ≤ 1000; decide, ok_sm zb (by omega) (sm_dct (els its).lst) (by omega) (by decide)⟩
  have fL := f9.kept jL
  have elL := jL _ _ el9
  have emL := jL _ _ em9
  have xL : Ex1 p H (upd H9 L (.lst [.ref m, .ref a2, .ref t3, .ref a4, .non, .bl true, .int 0, .str "", .ref d5, .ref t6, .ref a8, .ref d9])) := x9.trans (ex1_of_same jL)
  have allL : ∀ {N : Addr → Prop}, DdAll K (upd H9 L (.lst [.ref m, .ref a2, .ref t3, .ref a4, .non, .bl true, .int 0, .str "", .ref d5, .ref t6, .ref a8, .ref d9])) N (bs.map V.ref) (ss.map sD) := all (Tups.of_same (c2.trans jL))
  have nlL : l ≠ L := ne_of_none el9 nL
  have nmL : m ≠ L := ne_of_none em9 nL
  generalize upd H9 L (.lst [.ref m, .ref a2, .ref t3, .ref a4, .non, .bl true, .int 0, .str "", .ref d5, .ref t6, .ref a8, .ref d9]) = HL at first fL elL emL xL allL ⊢
  clear e2 e3 e4 e5 e6 e7 e8 e9 q2 q4 q5 q7 q8 q9 no all9 all
  have hNp : N p := .inl rfl
  have hNL : N L := .inr rfl
  refine ⟨8, rfl, by decide, by decide, ?_⟩
  refine for_it walk_range (fun i σ H3 => Ex1 p H H3 ∧ Feed H3 p (S + 800 + 8 * i) ∧ H3 l = some (.lst (z.map V.int)) ∧ H3 m = some (.lst (bs.map V.ref)) ∧ DdAll K H3 N (bs.map V.ref) (ss.map sD) ∧ Things K N z H3 L (12 + 2 * i) ∧
      ∃ y4 y5, σ = [some (.ref p), some (.ref l), some (.ref m), some (.ref L), y4, y5, none, none])
    ⟨xL, fL.le (by omega), elL, emL, allL, first, none, none, rfl⟩ (fun _ _ _ _ _ => trivial) ?_ ?_
  · rintro i x σ H3 H4 hi ⟨x3, f3, el3, em3, A3, T3, y4, y5, rfl⟩ ⟨rfl, rfl⟩
    have hi : i < 8 := hi
    refine ⟨_, rfl, _, rfl, _, rfl, p, l, m, _, z, _, ss, 10 ^ 60, rfl, f3, by omega, el3, nlp, lens, em3, nmp, ⟨_, A3⟩, hfine, fun s hs => (near s hs).2, by omega, Nat.le_refl _, by decide, fun lb H5 x5 f5 B5 => ?_⟩
    obtain ⟨vs5, ds5, e5, n5, g5, D5, i5, l5⟩ := B5
    obtain ⟨yy, ep3⟩ := f3.lst
    have toN : ∀ a, N a → old H4 a := fun a h => by
      rcases h with h | h
      · rw [h]
        show _ ≠ none
        rw [ep3]
        exact nofun
      · obtain ⟨vs, eL, _⟩ := T3
        show H4 a ≠ none
        rw [h, eL]
        exact nofun
    have D5 : DdAll K H5 N vs5 ds5 := DdAll.stay Tups.refl (fun _ _ _ e => e) toN ds5 D5
    have n5 : ¬ N lb := fun h => n5 (toN _ h)
    have nlb : lb ≠ p := fun h => n5 (.inl h)
    have nlbL : lb ≠ L := fun h => n5 (.inr h)
    have ld5 : ds5.length ≤ 181 := by omega
    have t5 : TOk K H5 N z (.ref lb) := ⟨.list ds5, .inl (.lst e5 n5 g5 D5), by show ds5.length ≤ 1000; omega, ok_list zb (by omega) (fun d hd => (i5 d hd).1) (by omega)⟩
    have T5 := T3.draw hNp nLp f3 x5
    have el5 := x5 _ _ nlp el3
    have em5 := x5 _ _ nmp em3
    have A5 : DdAll K H5 N (bs.map V.ref) (ss.map sD) := DdAll.stay (x5.tups ep3) (fun a o n e => x5 a o (fun h => n (.inl h)) e) (fun _ y => y) _ A3
    obtain ⟨ws, eL5, lw, T6⟩ := T5.push hNL t5
    refine ⟨_, rfl, .inl ⟨rfl, _, SqL.of eL5⟩, _, rfl, L, ws, _, rfl, rfl, eL5, by omega, ?_⟩
    have D6 : DdAll K (upd H5 L (.lst (ws ++ [.ref lb]))) N vs5 ds5 := DdAll.stay (Tups.upd_lst eL5) (fun a o n e => by rw [upd_ne (fun h => n (.inr h))]; exact e) (fun _ y => y) _ D5
    have A6 : DdAll K (upd H5 L (.lst (ws ++ [.ref lb]))) N (bs.map V.ref) (ss.map sD) := DdAll.stay (Tups.upd_lst eL5) (fun a o n e => by rw [upd_ne (fun h => n (.inr h))]; exact e) (fun _ y => y) _ A5
    have el6 : upd H5 L (.lst (ws ++ [.ref lb])) l = some (.lst (z.map V.int)) := by rw [upd_ne nlL]; exact el5
    have em6 : upd H5 L (.lst (ws ++ [.ref lb])) m = some (.lst (bs.map V.ref)) := by rw [upd_ne nmL]; exact em5
    have e6 : upd H5 L (.lst (ws ++ [.ref lb])) lb = some (.lst vs5) := by rw [upd_ne nlbL]; exact e5
    have f6 : Feed (upd H5 L (.lst (ws ++ [.ref lb]))) p (S + 800 + 8 * i + 3) := f5.off nLp
    have x6 : Ex1 p H (upd H5 L (.lst (ws ++ [.ref lb]))) := ex1_own nLH (x3.trans x5)
    generalize upd H5 L (.lst (ws ++ [.ref lb])) = H6 at T6 D6 A6 el6 em6 e6 f6 x6 ⊢
    clear D5 A5 el5 em5 T5 eL5 lw e5 t5
    obtain ⟨y6, ep6⟩ := f6.lst
    refine ⟨_, rfl, p, 3, _, rfl, f6, by decide, by decide, by omega, fun r H7 r0 r1 f7 x7 => ⟨rfl, _, rfl, ite2 (fun c => ?_) (fun c => ?_)⟩⟩
    · have T7 := T6.draw hNp nLp f6 x7
      have el7 := x7 _ _ nlp el6
      have em7 := x7 _ _ nmp em6
      have e7 := x7 _ _ nlb e6
      have D7 : DdAll K H7 N vs5 ds5 := DdAll.stay (x7.tups ep6) (fun a o n e => x7 a o (fun h => n (.inl h)) e) (fun _ y => y) _ D6
      have A7 : DdAll K H7 N (bs.map V.ref) (ss.map sD) := DdAll.stay (x7.tups ep6) (fun a o n e => x7 a o (fun h => n (.inl h)) e) (fun _ y => y) _ A6
      have hlen5 := D7.len
      refine ⟨_, rfl, lb, rfl, ⟨_, SqL.of e7⟩, fun D nD => ?_⟩
      refine lc_it walk_list (fun i H8 => Same H7 H8 ∧ ∃ acc, H8 D = some (.lst acc) ∧ acc.length ≤ i ∧ acc.isEmpty = allS z.length (ds5.take i)) ⟨new_same nD, _, upd_same, Nat.le_refl _, rfl⟩ (fun i H8 _ h => h.1.seq (SqL.of e7)) ?_ ?_
      · rintro j x H8 H9 hj ⟨s8, acc, eD, la, he⟩ ⟨rfl, ex⟩
        obtain ⟨dj, ed, hdj⟩ := D7.at_ ex
        have hdj := hdj.same s8
        have hj : j < vs5.length := hj
        have eT : allS z.length (ds5.take (j + 1)) = (allS z.length (ds5.take j) && (asSlab z.length dj).isSome) := by
          unfold allS
          rw [take_at ed, all_snoc]
        refine ⟨rfl, ?_⟩
        refine ⟨_, rfl, _, rfl, x, l, N, z, dj, rfl, hdj, SqL.of (s8 _ _ el7), fun H10 s10 => ⟨_, rfl, ?_⟩⟩
        cases e : (asSlab z.length dj).isSome with
        | true =>
          refine iteF ⟨s8.trans s10, acc, s10 _ _ eD, by omega, ?_⟩
          rw [eT, e, Bool.and_true]
          exact he
        | false =>
          refine iteT ⟨_, rfl, acc, s10 _ _ eD, by omega, own_same nD (s8.trans s10), acc ++ [x], upd_same, by rw [List.length_append]; show acc.length + 1 ≤ j + 1; omega, ?_⟩
          rw [eT, e, Bool.and_false]
          cases acc <;> rfl
      rintro H8 ⟨s8, acc, eD, la, he⟩
      refine ⟨(by show 0 ≤ sizeLine; decide), fun n nn => ?_⟩
      have s9 := s8.trans (new_same (o := .lst []) nn)
      refine ⟨D, n, _, rfl, rfl, SqL.of (new_same nn _ _ eD), SqL.of upd_same, _, rfl, ?_⟩
      show ite (acc.isEmpty = true) _ _
      rw [he, hlen5, List.take_length]
      have T9 := T7.same s9
      have f9' := f7.kept s9
      have X9 := (x6.trans x7).trans (ex1_of_same s9)
      cases ea : allS z.length ds5 with
      | false =>
        refine iteF ⟨X9, f9'.le (by omega), s9 _ _ el7, s9 _ _ em7, A7.same s9, ?_, _, _, rfl⟩
        obtain ⟨a, b, c, d⟩ := T9
        exact ⟨a, b, by omega, d⟩
      | true =>
        refine iteT ?_
        obtain ⟨ss', rfl, hf'⟩ := allS_slabs ea
        have ls' : ss'.length ≤ 181 := by
          rw [List.length_map] at ld5
          exact ld5
        have near' : ∀ s ∈ ss', s.2.natAbs ≤ 10 ^ 60 + 1 := fun s hs => (i5 (sD s) (List.mem_map_of_mem hs)).2 _ _ rfl
        have D9 := D7.same s9
        have A9 := A7.same s9
        have e9 := s9 _ _ e7
        have el9 := s9 _ _ el7
        have em9 := s9 _ _ em7
        generalize upd H8 n (.lst []) = H9 at T9 f9' X9 D9 A9 e9 el9 em9 ⊢
        obtain ⟨y9, ep9⟩ := f9'.lst
        obtain ⟨w9, eL9, _⟩ := id T9
        refine ⟨_, rfl, .inl ⟨rfl, _, SqL.of eL9⟩, _, rfl, _, rfl, _, rfl, p, l, lb, _, z, vs5, ss', 10 ^ 60 + 1, rfl, f9', by omega, el9, nlp, lens, e9, nlb, ⟨_, D9⟩, hf', near', by omega, by decide, by decide, fun lc H11 x11 f11 B11 => ?_⟩
        obtain ⟨vs11, ds11, e11, n11, g11, D11, i11, l11⟩ := B11
        have toN : ∀ a, N a → old H9 a := fun a h => by
          rcases h with h | h
          · show H9 a ≠ none
            rw [h, ep9]
            exact nofun
          · show H9 a ≠ none
            rw [h, eL9]
            exact nofun
        have D11 : DdAll K H11 N vs11 ds11 := DdAll.stay Tups.refl (fun _ _ _ e => e) toN ds11 D11
        have n11 : ¬ N lc := fun h => n11 (toN _ h)
        have t11 : TOk K H11 N z (.ref lc) := ⟨.list ds11, .inl (.lst e11 n11 g11 D11), by show ds11.length ≤ 1000; omega, ok_list zb (by omega) (fun d hd => (i11 d hd).1) (by omega)⟩
        have T11 := T9.draw hNp nLp f9' x11
        obtain ⟨ws2, eL11, lw2, T12⟩ := T11.push hNL t11
        refine ⟨L, ws2, _, rfl, rfl, eL11, by omega, ?_⟩
        have el11 := x11 _ _ nlp el9
        have em11 := x11 _ _ nmp em9
        have A11 : DdAll K H11 N (bs.map V.ref) (ss.map sD) := DdAll.stay (x11.tups ep9) (fun a o n e => x11 a o (fun h => n (.inl h)) e) (fun _ y => y) _ A9
        refine ⟨ex1_own nLH (X9.trans x11), (f11.off nLp).le (by omega), by rw [upd_ne nlL]; exact el11, by rw [upd_ne nmL]; exact em11,
          DdAll.stay (Tups.upd_lst eL11) (fun a o n e => by rw [upd_ne (fun h => n (.inr h))]; exact e) (fun _ y => y) _ A11, ?_, _, _, rfl⟩
        obtain ⟨a, b, c, d⟩ := T12
        exact ⟨a, b, by omega, d⟩
    · refine ⟨x6.trans x7, f7.le (by omega), x7 _ _ nlp el6, x7 _ _ nmp em6, DdAll.stay (x7.tups ep6) (fun a o n e => x7 a o (fun h => n (.inl h)) e) (fun _ y => y) _ A6, ?_, _, _, rfl⟩
      obtain ⟨a, b, c, d⟩ := T6.draw hNp nLp f6 x7
      exact ⟨a, b, by omega, d⟩
  · rintro σ H3 ⟨x3, f3, el3, em3, A3, T3, y4, y5, rfl⟩
    obtain ⟨vs, eL, lv, ok⟩ := T3
    refine ⟨_, rfl, L, rfl, ⟨_, SqL.of eL⟩, fun D nD => ?_⟩
    refine lc_it walk_list (fun i H4 => Same H3 H4 ∧ H4 D = some (.lst [])) ⟨new_same nD, upd_same⟩ (fun i H4 _ h => h.1.seq (SqL.of eL)) ?_ ?_
    · rintro i x H4 H5 hi ⟨s4, eD⟩ ⟨rfl, ex⟩
      obtain ⟨d, th, ld, okd⟩ := ok x (List.mem_of_getElem? ex)
      refine ⟨rfl, ?_⟩
      exact ⟨_, rfl, _, rfl, l, x, N, z, d, rfl, s4 _ _ el3, gl, th.same s4, by omega, znn, ld, okd, fun H6 s6 => ⟨_, rfl, iteF ⟨s4.trans s6, s6 _ _ eD⟩⟩⟩
    · rintro H4 ⟨s4, eD⟩
      refine ⟨(by show 0 ≤ sizeLine; decide), fun n nn => ?_⟩
      have s5 := s4.trans (new_same (o := .lst []) nn)
      exact ⟨D, n, [], rfl, rfl, SqL.of (new_same nn _ _ eD), SqL.of upd_same, q _ (x3.trans (ex1_of_same s5))⟩
end
end K23
end

section
set_option Elab.async false
set_option linter.all false
set_option maxRecDepth 100000
set_option maxHeartbeats 4000000
namespace K23
open PySem PySem.Spec PyProof.Rows L2 Gd Bx
abbrev sLaw : Stmt := topS 17
theorem scLaw : FnScope ["_law_script", "_law_k"] ["_law_script"] (defScope sLaw) :=
  ⟨rfl, rfl, rfl, by decide +kernel, rfl, by decide +kernel, by decide +kernel⟩
def spLaw (K : PySem.W.Frag) : Sp := fun vs H Q _ => ∃ (a : Addr) (ns : List Int), vs = [.ref a] ∧ SqL K H a (ns.map V.int) ∧ ns.length ≤ 63 ∧ ∀ H', Q (.bl true) H'
theorem list_by {K : PySem.W.Frag} {H H' : Hp} {p a : Addr} {xs : List V} (n : H p = none) (x : Ex1 p H H') (h : SqL K H a xs) : SqL K H' a xs := by
  rcases h with (h | ⟨o, h⟩) | h
  · exact .inl (.inl (x _ _ (ne_of_none h n) h))
  · exact .inl (.inr ⟨o, x _ _ (ne_of_none h n) h⟩)
  · exact .inr h
section
variable {P : Program} {w : World} {K : PySem.W.Frag} {mg : Str → Option Value} {base : Heap} {f fF fT : Addr} {fd dF dT : FuncData}
theorem ok_law (F : Fun K "law" "law" sLaw f fd) (mr : mg "range" = none) (mm : mg "min" = none) (mn : mg "len" = none)
    (FF : Fun K "_law_feed" "_law_feed" sFeed fF dF) (GF : FnOk P w K mg base CX0 1 fF dF ["_law_script", "_law_k"] (spFeed K)) (bF : Binds K dF ["_law_script", "_law_k"] []) (gF : mg "_law_feed" = some (.ref fF))
    (FT : Fun K "_law_turn" "_law_turn" sTurn fT dT) (GT : FnG P w K mg base CX0 5 fT dT ["_law_feed_here"] spTurn) (bT : Binds K dT ["_law_feed_here"] []) (gT : mg "_law_turn" = some (.ref fT)) :
    FnG P w K mg base CX0 6 f fd ["_law_script"] (spLaw K) := by
  refine okG F scLaw (fun vs H Q E h => ?_) (fun cv A out s H vs Q E gd hr h => ?_)
  · obtain ⟨a, ns, rfl, _⟩ := h
    rfl
  obtain ⟨a, ns, rfl, ha, hn, q⟩ := h
  have nd := scLaw.nd
  have hr1 := hr.mono (show 1 ≤ 5 by decide)
  refine ⟨_, pss_cons (ps_for PassesOwn.never rfl (pi_range1 (by rfl) mr (pa_cons (pe_callB (call_min2 rfl) (by rfl) mm (by decide +kernel) (pa_cons pe_int (pa_cons (pe_callB call_len_seq (by rfl) mn PySem.boot_len (pa_cons (pv 0) pa_nil)) pa_nil))) pa_nil)) (pg_name (i := 1) nd rfl (.inl rfl))
      (pss_one (ps_if (pt_not (pt_val (pe_callG GT gd hr (by rfl) gT FT.kp bT .nil pass0 (pa_cons (pe_call GF hr1 (by rfl) gF FF.kp bF .nil pass0 (pa_cons (pv 0) (pa_cons (pv 1) pa_nil))) pa_nil)))) pss_never pss_nil)))
    (pss_one (ps_ret (pe_callG GT gd hr (by rfl) gT FT.kp bT .nil pass0 (pa_cons (pe_lst (pa_cons pe_int (pa_cons pe_int (pa_cons pe_int pa_nil)))) pa_nil)))), ?_⟩
  refine ⟨_, rfl, a, _, rfl, .inl ha, 3, _, rfl, _, rfl, by split <;> omega, by split <;> omega, ?_⟩
  refine for_it walk_upto (fun i σ H1 => SqL K H1 a (ns.map V.int) ∧ ∃ y, σ = [some (.ref a), y]) ⟨ha, none, rfl⟩ (fun _ _ _ _ _ => trivial) ?_ ?_
  · rintro i x σ H1 H2 hi ⟨h1, y, rfl⟩ ⟨rfl, rfl⟩
    have hi3 : i ≤ 3 := by
      split at hi <;> omega
    refine ⟨_, rfl, _, rfl, a, ns, _, rfl, h1, by omega, by omega, fun p fs np fp => ?_⟩
    refine ⟨p, 0, rfl, fp, by omega, fun H3 x3 => ?_⟩
    refine ⟨_, rfl, ?_⟩
    refine iteF ?_
    exact ⟨list_by np (Ex1.at.trans x3) h1, _, rfl⟩
  · rintro σ H1 ⟨h1, y, rfl⟩
    refine ⟨(by show 3 ≤ sizeLine; decide), fun p np => ?_⟩
    exact ⟨p, 0, rfl, Feed.here (by omega) (by omega), by omega, fun H3 x3 => q H3⟩
end
end K23
end

section
set_option Elab.async false
set_option linter.all false
set_option maxRecDepth 100000
set_option maxHeartbeats 8000000
namespace K23
open PySem PySem.Spec PyProof.Rows L2 Gd
theorem all_mk {l : PySem.W.OpenLaw} {w : World} {K : PySem.W.Frag} {h : Heap} {mg : Str → Option Value} {fa : Addr} {f0 f1 f2 f3 f4 f5 f6 f7 f8 f9 f10 f11 f12 f13 f14 : Addr}  (X : K.In h) (G : h.Ns mainGlobals mg) (hfa : mg "law" = some (.ref fa))
    {od0 an0 od1 an1 od2 an2 od3 an3 od4 an4 od5 an5 od6 an6 od7 an7 od8 an8 od9 an9 od10 an10 od11 an11 od12 an12 od13 an13 od14 an14 : Option Addr} {sl0 sl1 sl2 sl3 sl4 sl5 sl6 sl7 sl8 sl9 sl10 sl11 sl12 sl13 sl14 : Array (Option Value)} {oc0 kV0 dc0 pm0 cd0 ct0 oc1 kV1 dc1 pm1 cd1 ct1 oc2 kV2 dc2 pm2 cd2 ct2 oc3 kV3 dc3 pm3 cd3 ct3 oc4 kV4 dc4 pm4 cd4 ct4 oc5 kV5 dc5 pm5 cd5 ct5 oc6 kV6 dc6 pm6 cd6 ct6 oc7 kV7 dc7 pm7 cd7 ct7 oc8 kV8 dc8 pm8 cd8 ct8 oc9 kV9 dc9 pm9 cd9 ct9 oc10 kV10 dc10 pm10 cd10 ct10 oc11 kV11 dc11 pm11 cd11 ct11 oc12 kV12 dc12 pm12 cd12 ct12 oc13 kV13 dc13 pm13 cd13 ct13 oc14 kV14 dc14 pm14 cd14 ct14 : Value}
    (aF0 : PySem.W.nsIn K mainGlobals "is_whole" = some (some (.ref f0)))
    (lF0 : K.lookup f0 = some ⟨oc0, od0, .func (PySem.W.fnOf "is_whole" "is_whole" (defArgs sIsW) (defBody sIsW) (defScope sIsW) .none kV0 dc0 pm0 an0 cd0 ct0), sl0⟩)
    (cF0 : PySem.W.codeIn K cd0 "is_whole" = true)
    (kF0 : PySem.W.keepIn K (.ref f0) = true)
    (aF1 : PySem.W.nsIn K mainGlobals "are_whole" = some (some (.ref f1)))
    (lF1 : K.lookup f1 = some ⟨oc1, od1, .func (PySem.W.fnOf "are_whole" "are_whole" (defArgs sWh) (defBody sWh) (defScope sWh) .none kV1 dc1 pm1 an1 cd1 ct1), sl1⟩)
    (cF1 : PySem.W.codeIn K cd1 "are_whole" = true)
    (kF1 : PySem.W.keepIn K (.ref f1) = true)
    (aF2 : PySem.W.nsIn K mainGlobals "_is_slab" = some (some (.ref f2)))
    (lF2 : K.lookup f2 = some ⟨oc2, od2, .func (PySem.W.fnOf "_is_slab" "_is_slab" (defArgs sIsSl) (defBody sIsSl) (defScope sIsSl) .none kV2 dc2 pm2 an2 cd2 ct2), sl2⟩)
    (cF2 : PySem.W.codeIn K cd2 "_is_slab" = true)
    (kF2 : PySem.W.keepIn K (.ref f2) = true)
    (aF3 : PySem.W.nsIn K mainGlobals "_law_feed" = some (some (.ref f3)))
    (lF3 : K.lookup f3 = some ⟨oc3, od3, .func (PySem.W.fnOf "_law_feed" "_law_feed" (defArgs sFeed) (defBody sFeed) (defScope sFeed) .none kV3 dc3 pm3 an3 cd3 ct3), sl3⟩)
    (cF3 : PySem.W.codeIn K cd3 "_law_feed" = true)
    (kF3 : PySem.W.keepIn K (.ref f3) = true)
    (aF4 : PySem.W.nsIn K mainGlobals "_law_take" = some (some (.ref f4)))
    (lF4 : K.lookup f4 = some ⟨oc4, od4, .func (PySem.W.fnOf "_law_take" "_law_take" (defArgs sTake) (defBody sTake) (defScope sTake) .none kV4 dc4 pm4 an4 cd4 ct4), sl4⟩)
    (cF4 : PySem.W.codeIn K cd4 "_law_take" = true)
    (kF4 : PySem.W.keepIn K (.ref f4) = true)
    (aF5 : PySem.W.nsIn K mainGlobals "_law_sizes" = some (some (.ref f5)))
    (lF5 : K.lookup f5 = some ⟨oc5, od5, .func (PySem.W.fnOf "_law_sizes" "_law_sizes" (defArgs sSizes) (defBody sSizes) (defScope sSizes) .none kV5 dc5 pm5 an5 cd5 ct5), sl5⟩)
    (cF5 : PySem.W.codeIn K cd5 "_law_sizes" = true)
    (kF5 : PySem.W.keepIn K (.ref f5) = true)
    (aF6 : PySem.W.nsIn K mainGlobals "_law_whole" = some (some (.ref f6)))
    (lF6 : K.lookup f6 = some ⟨oc6, od6, .func (PySem.W.fnOf "_law_whole" "_law_whole" (defArgs sWhole) (defBody sWhole) (defScope sWhole) .none kV6 dc6 pm6 an6 cd6 ct6), sl6⟩)
    (cF6 : PySem.W.codeIn K cd6 "_law_whole" = true)
    (kF6 : PySem.W.keepIn K (.ref f6) = true)
    (aF7 : PySem.W.nsIn K mainGlobals "_law_odd" = some (some (.ref f7)))
    (lF7 : K.lookup f7 = some ⟨oc7, od7, .func (PySem.W.fnOf "_law_odd" "_law_odd" (defArgs sOdd) (defBody sOdd) (defScope sOdd) .none kV7 dc7 pm7 an7 cd7 ct7), sl7⟩)
    (cF7 : PySem.W.codeIn K cd7 "_law_odd" = true)
    (kF7 : PySem.W.keepIn K (.ref f7) = true)
    (aF8 : PySem.W.nsIn K mainGlobals "_law_bent" = some (some (.ref f8)))
    (lF8 : K.lookup f8 = some ⟨oc8, od8, .func (PySem.W.fnOf "_law_bent" "_law_bent" (defArgs sBent) (defBody sBent) (defScope sBent) .none kV8 dc8 pm8 an8 cd8 ct8), sl8⟩)
    (cF8 : PySem.W.codeIn K cd8 "_law_bent" = true)
    (kF8 : PySem.W.keepIn K (.ref f8) = true)
    (aF9 : PySem.W.nsIn K mainGlobals "_law_is_slab" = some (some (.ref f9)))
    (lF9 : K.lookup f9 = some ⟨oc9, od9, .func (PySem.W.fnOf "_law_is_slab" "_law_is_slab" (defArgs sSl) (defBody sSl) (defScope sSl) .none kV9 dc9 pm9 an9 cd9 ct9), sl9⟩)
    (cF9 : PySem.W.codeIn K cd9 "_law_is_slab" = true)
    (kF9 : PySem.W.keepIn K (.ref f9) = true)
    (aF10 : PySem.W.nsIn K mainGlobals "_law_done" = some (some (.ref f10)))
    (lF10 : K.lookup f10 = some ⟨oc10, od10, .func (PySem.W.fnOf "_law_done" "_law_done" (defArgs sDone) (defBody sDone) (defScope sDone) .none kV10 dc10 pm10 an10 cd10 ct10), sl10⟩)
    (cF10 : PySem.W.codeIn K cd10 "_law_done" = true)
    (kF10 : PySem.W.keepIn K (.ref f10) = true)
    (aF11 : PySem.W.nsIn K mainGlobals "_law_due" = some (some (.ref f11)))
    (lF11 : K.lookup f11 = some ⟨oc11, od11, .func (PySem.W.fnOf "_law_due" "_law_due" (defArgs sDue) (defBody sDue) (defScope sDue) .none kV11 dc11 pm11 an11 cd11 ct11), sl11⟩)
    (cF11 : PySem.W.codeIn K cd11 "_law_due" = true)
    (kF11 : PySem.W.keepIn K (.ref f11) = true)
    (aF12 : PySem.W.nsIn K mainGlobals "_law_right" = some (some (.ref f12)))
    (lF12 : K.lookup f12 = some ⟨oc12, od12, .func (PySem.W.fnOf "_law_right" "_law_right" (defArgs sRight) (defBody sRight) (defScope sRight) .none kV12 dc12 pm12 an12 cd12 ct12), sl12⟩)
    (cF12 : PySem.W.codeIn K cd12 "_law_right" = true)
    (kF12 : PySem.W.keepIn K (.ref f12) = true)
    (aF13 : PySem.W.nsIn K mainGlobals "_law_turn" = some (some (.ref f13)))
    (lF13 : K.lookup f13 = some ⟨oc13, od13, .func (PySem.W.fnOf "_law_turn" "_law_turn" (defArgs sTurn) (defBody sTurn) (defScope sTurn) .none kV13 dc13 pm13 an13 cd13 ct13), sl13⟩)
    (cF13 : PySem.W.codeIn K cd13 "_law_turn" = true)
    (kF13 : PySem.W.keepIn K (.ref f13) = true)
    (aF14 : PySem.W.nsIn K mainGlobals "law" = some (some (.ref f14)))
    (lF14 : K.lookup f14 = some ⟨oc14, od14, .func (PySem.W.fnOf "law" "law" (defArgs sLaw) (defBody sLaw) (defScope sLaw) .none kV14 dc14 pm14 an14 cd14 ct14), sl14⟩)
    (cF14 : PySem.W.codeIn K cd14 "law" = true)
    (kF14 : PySem.W.keepIn K (.ref f14) = true)
    (z_tuple : PySem.W.nsIn K mainGlobals "tuple" = some none)
    (z_list : PySem.W.nsIn K mainGlobals "list" = some none)
    (z_len : PySem.W.nsIn K mainGlobals "len" = some none)
    (z_isinstance : PySem.W.nsIn K mainGlobals "isinstance" = some none)
    (z_int : PySem.W.nsIn K mainGlobals "int" = some none)
    (z_bool : PySem.W.nsIn K mainGlobals "bool" = some none)
    (z_str : PySem.W.nsIn K mainGlobals "str" = some none)
    (z_zip : PySem.W.nsIn K mainGlobals "zip" = some none)
    (z_range : PySem.W.nsIn K mainGlobals "range" = some none)
    (z_repr : PySem.W.nsIn K mainGlobals "repr" = some none)
    (z_min : PySem.W.nsIn K mainGlobals "min" = some none)
    (z_abs : PySem.W.nsIn K mainGlobals "abs" = some none)
    (z_sum : PySem.W.nsIn K mainGlobals "sum" = some none) :
    ∃ fd : FuncData, (∀ (s : Shared) (v : Value), BindsTo s fd ⟨[v], []⟩ [("_law_script", v)]) ∧ ∀ base : Heap, K.In base → base.Ns mainGlobals mg → FnG l.prog w K mg base CX0 6 fa fd ["_law_script"] (spLaw K) := by
  have e := hfa.symm.trans (PySem.W.mg_of X G aF14)
  cases e
  have F0 := fun_mk (st := sIsW) lF0 cF0 kF0
  have b0 := F0.binds (ps := ["thing"]) fun _ _ _ _ _ _ us hl => match us, hl with | [_], _ => rfl
  have m0 := PySem.W.mg_of X G aF0
  have F1 := fun_mk (st := sWh) lF1 cF1 kF1
  have b1 := F1.binds (ps := ["sizes", "thing"]) fun _ _ _ _ _ _ us hl => match us, hl with | [_, _], _ => rfl
  have m1 := PySem.W.mg_of X G aF1
  have F2 := fun_mk (st := sIsSl) lF2 cF2 kF2
  have b2 := F2.binds (ps := ["rest", "thing"]) fun _ _ _ _ _ _ us hl => match us, hl with | [_, _], _ => rfl
  have m2 := PySem.W.mg_of X G aF2
  have F3 := fun_mk (st := sFeed) lF3 cF3 kF3
  have b3 := F3.binds (ps := ["_law_script", "_law_k"]) fun _ _ _ _ _ _ us hl => match us, hl with | [_, _], _ => rfl
  have m3 := PySem.W.mg_of X G aF3
  have F4 := fun_mk (st := sTake) lF4 cF4 kF4
  have b4 := F4.binds (ps := ["_law_feed_here", "_law_many"]) fun _ _ _ _ _ _ us hl => match us, hl with | [_, _], _ => rfl
  have m4 := PySem.W.mg_of X G aF4
  have F5 := fun_mk (st := sSizes) lF5 cF5 kF5
  have b5 := F5.binds (ps := ["_law_feed_here", "_law_most"]) fun _ _ _ _ _ _ us hl => match us, hl with | [_, _], _ => rfl
  have m5 := PySem.W.mg_of X G aF5
  have F6 := fun_mk (st := sWhole) lF6 cF6 kF6
  have b6 := F6.binds (ps := ["_law_feed_here", "_law_lengths"]) fun _ _ _ _ _ _ us hl => match us, hl with | [_, _], _ => rfl
  have m6 := PySem.W.mg_of X G aF6
  have F7 := fun_mk (st := sOdd) lF7 cF7 kF7
  have b7 := F7.binds (ps := ["_law_feed_here", "_law_lengths", "_law_slab"]) fun _ _ _ _ _ _ us hl => match us, hl with | [_, _, _], _ => rfl
  have m7 := PySem.W.mg_of X G aF7
  have F8 := fun_mk (st := sBent) lF8 cF8 kF8
  have b8 := F8.binds (ps := ["_law_feed_here", "_law_lengths", "_law_slabs"]) fun _ _ _ _ _ _ us hl => match us, hl with | [_, _, _], _ => rfl
  have m8 := PySem.W.mg_of X G aF8
  have F9 := fun_mk (st := sSl) lF9 cF9 kF9
  have b9 := F9.binds (ps := ["_law_one", "_law_lengths"]) fun _ _ _ _ _ _ us hl => match us, hl with | [_, _], _ => rfl
  have m9 := PySem.W.mg_of X G aF9
  have F10 := fun_mk (st := sDone) lF10 cF10 kF10
  have b10 := F10.binds (ps := ["_law_lengths", "_law_slabs"]) fun _ _ _ _ _ _ us hl => match us, hl with | [_, _], _ => rfl
  have m10 := PySem.W.mg_of X G aF10
  have F11 := fun_mk (st := sDue) lF11 cF11 kF11
  have b11 := F11.binds (ps := ["_law_lengths", "_law_what"]) fun _ _ _ _ _ _ us hl => match us, hl with | [_, _], _ => rfl
  have m11 := PySem.W.mg_of X G aF11
  have F12 := fun_mk (st := sRight) lF12 cF12 kF12
  have b12 := F12.binds (ps := ["_law_lengths", "_law_what"]) fun _ _ _ _ _ _ us hl => match us, hl with | [_, _], _ => rfl
  have m12 := PySem.W.mg_of X G aF12
  have F13 := fun_mk (st := sTurn) lF13 cF13 kF13
  have b13 := F13.binds (ps := ["_law_feed_here"]) fun _ _ _ _ _ _ us hl => match us, hl with | [_], _ => rfl
  have m13 := PySem.W.mg_of X G aF13
  have F14 := fun_mk (st := sLaw) lF14 cF14 kF14
  have m14 := PySem.W.mg_of X G aF14
  have y_tuple := PySem.W.mg_none_of X G z_tuple
  have y_list := PySem.W.mg_none_of X G z_list
  have y_len := PySem.W.mg_none_of X G z_len
  have y_isinstance := PySem.W.mg_none_of X G z_isinstance
  have y_int := PySem.W.mg_none_of X G z_int
  have y_bool := PySem.W.mg_none_of X G z_bool
  have y_str := PySem.W.mg_none_of X G z_str
  have y_zip := PySem.W.mg_none_of X G z_zip
  have y_range := PySem.W.mg_none_of X G z_range
  have y_repr := PySem.W.mg_none_of X G z_repr
  have y_min := PySem.W.mg_none_of X G z_min
  have y_abs := PySem.W.mg_none_of X G z_abs
  have y_sum := PySem.W.mg_none_of X G z_sum
  refine ⟨PySem.W.fnOf "law" "law" (defArgs sLaw) (defBody sLaw) (defScope sLaw) .none kV14 dc14 pm14 an14 cd14 ct14, fun s v => .of_eq rfl, fun base _ _ => ?_⟩
  have k_are_whole := back2_of (p0 := "sizes") (p1 := "thing") F1 fun _ _ _ _ _ _ _ _ => rfl
  have gIsW := ok_isw (P := l.prog) (w := w) (base := base) F0 y_isinstance y_int y_bool
  have gIsSl := ok_issl (P := l.prog) (w := w) (base := base) F2 y_isinstance y_tuple y_len F0 gIsW b0 m0
  have gWh := ok_wh (P := l.prog) (w := w) (base := base) F1 y_isinstance y_list F2 gIsSl b2 m2
  have gFeed := ok_feed (P := l.prog) (w := w) (base := base) F3 y_len y_abs
  have gSizes := ok_sizes (K := K) (P := l.prog) (w := w) (base := base) F5 y_range F4 b4 m4
  have gWhole := ok_whole (K := K) (P := l.prog) (w := w) (base := base) F6 y_list y_len y_min F4 b4 m4
  have gOdd := ok_odd (K := K) (P := l.prog) (w := w) (base := base) F7 y_len y_str F4 b4 m4
  have gBent := ok_bent (K := K) (P := l.prog) (w := w) (base := base) F8 y_len F4 b4 m4 F7 gOdd b7 m7
  have gSl := ok_sl (K := K) (P := l.prog) (w := w) (base := base) F9 y_isinstance y_tuple y_int y_bool y_len
  have gDone := ok_done (K := K) (P := l.prog) (w := w) (base := base) F10 y_range y_len y_sum
  have gDue := ok_due (K := K) (P := l.prog) (w := w) (base := base) F11 y_isinstance y_list y_zip F9 gSl b9 m9 F10 gDone b10 m10
  have gRight := ok_right (K := K) (P := l.prog) (w := w) (base := base) F12 y_repr F11 gDue b11 m11 F1 gWh b1 k_are_whole m1
  have gTurn := ok_turn (K := K) (P := l.prog) (w := w) (base := base) F13 y_tuple y_range F4 b4 m4 F5 gSizes b5 m5 F6 gWhole b6 m6 F8 gBent b8 m8 F9 gSl b9 m9 F12 gRight b12 m12
  exact ok_law F14 y_range y_min y_len F3 gFeed b3 m3 F13 gTurn b13 m13

end K23
open PySem PySem.W PyProof.Rows
set_option maxRecDepth 100000 in
set_option maxHeartbeats 0 in
theorem PySem.Challenge.cw_plansamid_k23_slabs_looked_at_holds : PySem.Challenge.rw_plansamid_k23_slabs_looked_at.Holds := by
  w_on; o_law; k_head; (case hw => w_witness2)
  k_fill
  refine Gd.walkG (l := PySem.Challenge.rw_plansamid_k23_slabs_looked_at) (m := 63) (n := 6) (x := "_law_script") (sp := K23.spLaw) rfl (by decide) rfl ⟨rfl, by decide, by decide⟩ (fun w h Y => PySem.W.kIn_of Y) ?F ?S
  case S =>
    intro K H a ns h1 _ _ h4; exact ⟨a, ns, rfl, h4, h1, fun _ => rfl⟩
  case F =>
    intro w mg fa h KX G hmg
    refine' K23.all_mk KX G hmg ?aF0 ?lF0 ?cF0 ?kF0 ?aF1 ?lF1 ?cF1 ?kF1 ?aF2 ?lF2 ?cF2 ?kF2 ?aF3 ?lF3 ?cF3 ?kF3 ?aF4 ?lF4 ?cF4 ?kF4 ?aF5 ?lF5 ?cF5 ?kF5 ?aF6 ?lF6 ?cF6 ?kF6 ?aF7 ?lF7 ?cF7 ?kF7 ?aF8 ?lF8 ?cF8 ?kF8 ?aF9 ?lF9 ?cF9 ?kF9 ?aF10 ?lF10 ?cF10 ?kF10 ?aF11 ?lF11 ?cF11 ?kF11 ?aF12 ?lF12 ?cF12 ?kF12 ?aF13 ?lF13 ?cF13 ?kF13 ?aF14 ?lF14 ?cF14 ?kF14 ?z_tuple ?z_list ?z_len ?z_isinstance ?z_int ?z_bool ?z_str ?z_zip ?z_range ?z_repr ?z_min ?z_abs ?z_sum
    (case aF0 => k_is)
    (case lF0 => k_is)
    (case cF0 => k_is)
    (case kF0 => k_is)
    (case aF1 => k_is)
    (case lF1 => k_is)
    (case cF1 => k_is)
    (case kF1 => k_is)
    (case aF2 => k_is)
    (case lF2 => k_is)
    (case cF2 => k_is)
    (case kF2 => k_is)
    (case aF3 => k_is)
    (case lF3 => k_is)
    (case cF3 => k_is)
    (case kF3 => k_is)
    (case aF4 => k_is)
    (case lF4 => k_is)
    (case cF4 => k_is)
    (case kF4 => k_is)
    (case aF5 => k_is)
    (case lF5 => k_is)
    (case cF5 => k_is)
    (case kF5 => k_is)
    (case aF6 => k_is)
    (case lF6 => k_is)
    (case cF6 => k_is)
    (case kF6 => k_is)
    (case aF7 => k_is)
    (case lF7 => k_is)
    (case cF7 => k_is)
    (case kF7 => k_is)
    (case aF8 => k_is)
    (case lF8 => k_is)
    (case cF8 => k_is)
    (case kF8 => k_is)
    (case aF9 => k_is)
    (case lF9 => k_is)
    (case cF9 => k_is)
    (case kF9 => k_is)
    (case aF10 => k_is)
    (case lF10 => k_is)
    (case cF10 => k_is)
    (case kF10 => k_is)
    (case aF11 => k_is)
    (case lF11 => k_is)
    (case cF11 => k_is)
    (case kF11 => k_is)
    (case aF12 => k_is)
    (case lF12 => k_is)
    (case cF12 => k_is)
    (case kF12 => k_is)
    (case aF13 => k_is)
    (case lF13 => k_is)
    (case cF13 => k_is)
    (case kF13 => k_is)
    (case aF14 => k_is)
    (case lF14 => k_is)
    (case cF14 => k_is)
    (case kF14 => k_is)
    (case z_tuple => k_is)
    (case z_list => k_is)
    (case z_len => k_is)
    (case z_isinstance => k_is)
    (case z_int => k_is)
    (case z_bool => k_is)
    (case z_str => k_is)
    (case z_zip => k_is)
    (case z_range => k_is)
    (case z_repr => k_is)
    (case z_min => k_is)
    (case z_abs => k_is)
    (case z_sum => k_is)
end
